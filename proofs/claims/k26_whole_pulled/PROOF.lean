import PyProof.Rows.All
import Wide.All
import OpenK.AllK
import Wide.FinOn
import Lean
import PyProof.EqAt
import PyProof.EqKinds
import PyProof.TupleCall
import PyProof.CompFree
import PyProof.Cells
import PySem.Challenge.RW_changehall_k26_whole_pulled
set_option Elab.async false
set_option linter.all false
set_option maxRecDepth 100000
set_option exponentiation.threshold 20000
abbrev aA:=List (List Int)
abbrev aB:=List (PySem.Addr×PySem.Obj)
abbrev aC:=PySem.Value->PySem.Shared->Prop
abbrev aD:=PySem.W.Frag
abbrev aE:=PySem.Str->Option PySem.Value
abbrev aF:=List PySem.Value
abbrev aG:=List Int
open List renaming getElem?_eq_getElem→wa,mem_cons_of_mem→wc,mem_cons_self→we,mem_map→wg,map_cons→wm,length_cons→wn,mem_append→wo,mem_cons→wq,length_map→wv,length_append→ww,size_toArray→wx,getElem?_map→wF,getElem_of_mem→wH,mem_append_right→wI,getElem?_eq_none→wJ,mem_filter→wL,mem_range→wQ,lookup_cons→wS,map_map→wV,mem_singleton→wW,getElem?_append_left→wX,length_drop→wY,pairwise_cons→vg,filter_sublist→vh,getElem?_append_right→vi,getElem?_replicate→vj,map_append→vm,getElem_mem→vn,getElem?_set_ne→vo,nodup_cons→vq,of_mem_zip→vt,length_set→vv,length_take→vx,getElem?_set→vz,length_replicate→vA,getElem?_eq_some_iff→vF,length_range→vM,length_zipWith→vN,drop_of_length_le→vO,take_of_length_le→vP,ext_getElem→vS,filter_cons→vT,mem_filterMap→vU,mem_or_eq_of_mem_set→vV,append_assoc→vW,mem_of_mem_take→vY,not_mem_nil→vZ,zip_cons_cons→ue,append_nil→uf,pairwise_map→uj,mem_append_left→uo,mem_of_getElem?→uq,getD_eq_getElem?_getD→ur,all_eq_true→uu,drop_eq_getElem_cons→uz,map_congr_left→uA,range_succ→uE,getElem?_drop→uG,forIn_nil→uK,range_succ_eq_map→uM,drop_eq_nil_of_le→uN,getElem?_zipWith→uR,cons_append→uS,mem_iff_getElem→uV,forIn_cons→uW,filterMap_cons→uZ,getElem?_range→w00,getElem?_eq_none_iff→w07,map_take→w0h,length_eq_zero_iff→w0l,drop_append→w0m,getElem?_set_self→w0o,zipWith_map_right→w0q,zipWith_cons_cons→w0s,nil_append→w0t,foldl_cons→w0u,map_const'→w0v,drop_zero→w0y,getElem_zipWith→w0C,range_eq_range'→w0D,length_reverse→w0F,replicate_succ→w0G,append_of_mem→w0J,getElem?_take→w0K,any_eq_false→w0L,map_nil→w0M,flatMap_cons→w0Q,nodup_append→w0R,foldl_append→w0V,any_eq_true→w0X,take_length→w0Y,zipIdx_cons→w0Z,mem_flatMap→w13,zipWith_map→w16,zipIdx_nil→w1f,take_left'→w1i,take_zero→w1k,nodup_nil→w1l,foldl_map→w1m
open Nat renaming pow_le_pow_right→wj,le_refl→wu,mul_le_mul_right→wy,lt_of_lt_of_le→wB,two_pow_pos→wE,le_trans→wG,zero_le→wK,ne_of_lt→wU,mul_le_mul_left→vd,pow_add→vp,le_of_lt→vw,lt_succ_self→vy,lt_irrefl→vB,le_of_not_lt→vG,mul_assoc→vK,mul_le_mul→vL,pow_succ→vQ,zero_add→vX,lt_or_gt_of_ne→ud,strongRecOn→ug,pow_lt_pow_right→ut,mul_comm→uv,mul_lt_mul''→uw,pow_le_pow_left→uB,ne_of_gt→uI,le_of_succ_le→uJ,lt_trans→uL,succ_mul→uO,lt_of_le_of_lt→w04,one_lt_two_pow→w06,le_succ_of_le→w0a,mul_add→w0d,lt_trichotomy→w0f,le_mul_of_pos_right→w0k,mul_pos→w0B,lt_succ_of_lt→w0N,min_eq_right→w12,le_add_right→w14,succ_le_succ→w15,log2_lt→w18,add_mul→w1a,pow_pos→w1c,min_eq_left→w1g,not_lt→w1j
open Int renaming mul_comm→wM,natAbs_mul→wZ,fmod_nonneg_of_pos→vk,mul_eq_zero→vC,fmod_lt_of_pos→vD,mul_le_mul_of_nonneg_right→vI,mul_assoc→vJ,le_of_dvd→vR,eq_ofNat_of_zero_le→uc,gcd→ui,dvd_trans→uD,mul_nonpos_of_nonpos_of_nonneg→uF,dvd_of_fmod_eq_zero→uH,natAbs_neg→uP,mul_left_comm→uQ,neg_mul→uU,gcd_pos_of_ne_zero_left→w01,fdiv_eq_ediv_of_nonneg→w05,eq_of_mul_eq_mul_left→w08,toNat_natCast→w09,mul_sub→w0b,lt_trichotomy→w0c,mul_add→w0e,dvd_add→w0g,mul_fdiv_cancel_left→w0i,mul_ediv_cancel_left→w0j,fmod_eq_zero_of_dvd→w0n,zero_add→w0r,mul_nonneg→w0z,sub_mul→w0A,natAbs_eq_zero→w0I,mul_zero→w0P,dvd_refl→w0S,zero_dvd→w0T,gcd_dvd_right→w0U,gcd_dvd_left→w17,add_mul→w19,mul_neg→w1b,mul_pos→w1d,neg_mul_neg→w1h
open Option renaming isSome_iff_exists→uC,getD_none→w0W,map_some→w1e
open PySem.Heap renaming get?_push_of_some→wf,lt_size→wt,get?_push_size→wD,size_push→vE,get?_none_of_le→uT,get?_update_other→w0p,get?_update_self→w0w,get?_push_ne→w0O
open Bool renaming false_ne_true→wN,and_eq_true→wR,or_eq_true→uX,eq_iff_iff→uY,true→w02,false_eq_true→w03,beq_eq_decide_eq→w0x,and_eq_true_iff→w0E,true_and→w0H,not_false→w1n
open Classical renaming choose_spec→vc,byContradiction→ve,choose→vH
local macro_rules|`(tactic|rfl')=>`(tactic|omega)
section
local macro_rules|`(tactic|rfl')=>`(tactic|first|lia|omega +splitDisjunctions)
namespace L2
open PySem PySem.Spec PyProof.Rows
abbrev Key:=Sum Int Str
def keyIs:Key->Value->Bool
 | .inl k,v=>Value.isInt k v
 | .inr x,v=>Value.isStrOf x v
def keyH(w:World):Key->Int
 | .inl k=>hashInt k
 | .inr x=>hashStr w x
theorem F1:∀{k:Key} {v:Value},keyIs k v=true->(∃ i t,k=Sum.inl i/\v=Value.int i t)\/(∃ x t,k=Sum.inr x/\v=Value.str x t)
 | .inl i,v,h=>by
  obtain⟨t,e⟩:=Value.isInt_shape (k:=i) (v:=v) h;exact .inl ⟨i,t,rfl,e⟩
 | .inr x,v,h=>by
  obtain⟨t,e⟩:=Value.isStrOf_shape (x:=x) (v:=v) h;exact .inr ⟨x,t,rfl,e⟩
theorem key_ll(a b:Int):decide ((Sum.inl a:Key)=Sum.inl b)=(a==b):=by
 by_cases e:a=b
 · subst e;simp
 · have h:¬(Sum.inl a:Key)=Sum.inl b:=λq=>e (Sum.inl.inj q);rw[decide_eq_false h];exact(beq_eq_false_iff_ne.mpr e).symm
theorem key_rr(a b:Str):decide ((Sum.inr a:Key)=Sum.inr b)=decide (a=b):=by
 by_cases e:a=b
 · subst e;simp
 · have h:¬(Sum.inr a:Key)=Sum.inr b:=λq=>e (Sum.inr.inj q);rw[decide_eq_false h,decide_eq_false e]
theorem key_lr(a:Int)(b:Str):decide ((Sum.inl a:Key)=Sum.inr b)=false:=decide_eq_false (λq=>nomatch q)
theorem key_rl(a:Str)(b:Int):decide ((Sum.inr a:Key)=Sum.inl b)=false:=decide_eq_false (λq=>nomatch q)
def Nq(prog:Program)(w:World):PySem.KeyKind prog w Key where
 is:=keyIs
 hash:=keyH w
 inj:=λv a b ha hb=>by
  rcases F1 ha with⟨i,t,rfl,rfl⟩|⟨x,t,rfl,rfl⟩
  · rcases F1 hb with⟨j,u,rfl,e⟩|⟨y,u,rfl,e⟩
    · injection e with e1 _;rw[e1]
    · exact nomatch e
  · rcases F1 hb with⟨j,u,rfl,e⟩|⟨y,u,rfl,e⟩
    · exact nomatch e
    · injection e with e1 _;rw[e1]
 byValue:=λk v h=>by
  rcases F1 h with⟨i,t,rfl,rfl⟩|⟨x,t,rfl,rfl⟩<;>rfl
 pyHash:=λhv h=>by
  rcases F1 hv with⟨i,t,rfl,rfl⟩|⟨x,t,rfl,rfl⟩
  · exact wpAny_pyHash_int h
  · exact wpAny_pyHash_str h
 eqBool:=λhu hv h=>by
  rcases F1 hu with⟨i,t,rfl,rfl⟩|⟨x,t,rfl,rfl⟩
  · rcases F1 hv with⟨j,u,rfl,rfl⟩|⟨y,u,rfl,rfl⟩
    · rw[key_ll]at h;exact wpAny_eqBool_int h
    · rw[key_lr]at h;exact SeqAt.EqAt.int_str i t y u _ _ _ _ h
  · rcases F1 hv with⟨j,u,rfl,rfl⟩|⟨y,u,rfl,rfl⟩
    · rw[key_rl]at h;exact SeqAt.EqAt.str_int x t j u _ _ _ _ h
    · rw[key_rr]at h;exact wpAny_eqBool_str h
 «strs»:=λk x t v h=>by
  rcases F1 h with⟨i,u,rfl,e⟩|⟨y,u,rfl,e⟩
  · exact nomatch e
  · injection e with e1 _
    subst e1;cases v<;>rfl
end L2
namespace L2
open PySem PySem.Spec PyProof.Rows
inductive V where
 | non|bl (b:Bool)|int (i:Int)|str (x:Str)|byt (b:Array UInt8)|flt (b:UInt64)|ref (a:Addr)|ty (n:String)
 deriving DecidableEq
def RelV:V->Value->Prop
 | .non,u=>u=Value.none
 | .bl b,u=>u=Value.bool b
 | .int i,u=>∃ t,u=Value.int i t
 | .str x,u=>∃ t,u=Value.str x t
 | .byt b,u=>∃ t,u=Value.bytes b t
 | .flt b,u=>∃ t,u=Value.float b t
 | .ref a,u=>u=Value.ref a
 | .ty n,u=>u=Value.type n
abbrev Vals:List V->aF->Prop:=Paired RelV
theorem Vals.length{xs:List V}{us:aF}(r:Vals xs us):xs.length=us.length:=Paired.length r
theorem Vals.get:∀{xs:List V} {us:aF} {i:Nat} {x:V},Vals xs us->xs[i]?=some x->∃ u,us[i]?=some u/\RelV x u
 | _,_,_,_,.nil,e=>by simp at e
 | _,_,0,_,.cons r _,e=>by simp at e;subst e;exact⟨_,rfl,r⟩
 | _,_,i+1,x,.cons _ t,e=>by
  obtain⟨u,h1,h2⟩:=Vals.get (i:=i) (x:=x) t (by simpa using e);exact⟨u,by simpa using h1,h2⟩
theorem Vals.set{x:V}{u:Value}(r:RelV x u):∀{xs:List V} {us:aF} (i:Nat),Vals xs us->Vals (xs.set i x) (us.set i u)
 | _,_,_,.nil => .nil
 | _,_,0,.cons _ t => .cons r t
 | _,_,i+1,.cons q t => .cons q (Vals.set r i t)
theorem Vals.append:∀{xs ys:List V} {us ws:aF},Vals xs us->Vals ys ws->Vals (xs++ys) (us++ws)
 | _,_,_,_,.nil,s=>s
 | _,_,_,_,.cons r t,s => .cons r (Vals.append t s)
theorem Vals.take:∀{xs:List V} {us:aF} (n:Nat),Vals xs us->Vals (xs.take n) (us.take n)
 | _,_,0,_ => .nil
 | _,_,_+1,.nil => .nil
 | _,_,n+1,.cons r t => .cons r (Vals.take n t)
theorem Vals.drop:∀{xs:List V} {us:aF} (n:Nat),Vals xs us->Vals (xs.drop n) (us.drop n)
 | _,_,0,r=>r
 | _,_,_+1,.nil => .nil
 | _,_,n+1,.cons _ t=>Vals.drop n t
theorem Vals.none_of:∀{xs:List V} {us:aF} {i:Nat},Vals xs us->xs[i]?=none->us[i]?=none:=λ{xs us i} r e=>by
 have h1:=r.length;have h2:xs.length<=i:=w07.mp e;exact w07.mpr (by rfl')
def RelO:Option V->Option Value->Prop
 | some v,some u=>RelV v u
 | none,none=>True
 | _,_=>False
def KV{κ:Type}:List (κ×V)->List (κ×Value)->Prop:=Paired λ(p:κ×V) (q:κ×Value)=>p.1=q.1/\RelV p.2 q.2
def kV:Key->V
 | .inl i => .int i
 | .inr x => .str x
inductive HO where
 | lst (xs:List V)
 | tup (xs:List V)
 | dK (kvs:List (Key×V))|dT (kvs:List (List Key×V))
 | set (S:Int->Bool) (n:Nat)
 | ins (C dx:Addr) (fs:List (Str×V))
 | own (x:Addr)
 | xd (fs:List (Str×V))
 | met (f x:Addr)
 | rng (lo hi:Int)
 | frz (o:Obj) (u:HO)
 | tbl (ps:Array Value)
 | ext (φ:Heap->Prop)
abbrev Hp:=Addr->Option HO
def upd(H:Hp)(a:Addr)(o:HO):Hp:=λb=>if b=a then some o else H b
theorem D7{H:Hp}{a:Addr}{o:HO}:upd H a o a=some o:=by unfold upd;rw[if_pos rfl]
theorem w6{H:Hp}{a b:Addr}{o:HO}(h:b≠a):upd H a o b=H b:=by unfold upd;rw[if_neg h]
theorem R3{H:Hp}{a b:Addr}{o:HO}(h:H a=some o)(h':H b=none):a≠b:=by
 intro e;subst e;rw[h]at h';cases h'
section
variable (P:Program)(w:World)
def ObjOk(H:Hp)(h:Heap)(a:Addr):HO->Prop
 | .lst xs=>xs.length<=sizeLine/\∃(its:aF) (n:Nat),Vals xs its/\h.get? a=some { cls := .type "list",data := .seq its.toArray n }
 | .tup xs=>xs.length<=sizeLine/\∃ its:aF,Vals xs its/\IsTup h a its.toArray
 | .dK kvs=>kvs.length<=sizeLine/\(a==sysModules)=false/\∃ vs,KV kvs vs/\h.DictOf (Nq P w) a vs
 | .dT kvs=>kvs.length<=sizeLine/\(a==sysModules)=false/\∃ xs:List (List Key×Addr×Value),
  Paired (λ(p:List Key×V) (q:List Key×Addr×Value)=>p.1=q.1/\H q.2.1=some (.tup (p.1.map kV))/\RelV p.2 q.2.2) kvs xs /\
  ∃ o es ep,h.get? a=some o/\o.ExactDict/\o.data = .dict es ep/\es.toList=xs.map (entryOfKey (tupleKind (Nq P w)))/\(xs.map (·.1)).Nodup
 | .set S n=>h.SetOf (intKind P w) a S n
 | .ins C dx fs=>H dx=some (.own a)/\fs.length<=1000/\dx≠a/\h.get? a=some (PySem.W.instObj C dx) /\
  ∃ mA,h.Ns1 dx mA/\(∀ f,RelO (fs.lookup f) (mA f))/\PySem.Within mA (fs.map (·.1))
 | .own _=>∃ o,h.get? a=some o
 | .xd fs=>∃ mA,h.Ns1 a mA/\∀ f,RelO (fs.lookup f) (mA f)
 | .rng lo hi=>∃ t u v,h.get? a=some { cls := .type "range",data := .fields #[.int lo t,.int hi u,.int 1 v] }
 | .frz o u=>h.get? a=some o/\ObjOk H h a u
 | .tbl ps=>h.get? a=some { cls := .none,data := .fields ps }
 | .met f x=>h.get? a=some (PySem.W.methodObj (.ref f) (.ref x))
 | .ext φ=>φ h/\(∃ o,h.get? a=some o)/\∀ h1 h2:Heap,φ h1->(∀ o,h1.get? a=some o->h2.get? a=some o)->φ h2
def HOk(H:Hp)(h:Heap):Prop:=∀ a o,H a=some o->ObjOk P w H h a o
end
section
variable {P:Program}{w:World}{H H':Hp}{h h':Heap}{a:Addr}{o:HO}
theorem ObjOk.lt(x:ObjOk P w H h a o):a<h.objs.size:=by
 cases o with
 | lst xs=>obtain⟨_,_,_,_,e⟩:=x;exact wt e
 | tup xs=>obtain⟨_,_,_,p⟩:=x;exact p.lt
 | dK kvs=>obtain⟨_,_,_,_,o,_,_,e,_⟩:=x;exact wt e
 | dT kvs=>obtain⟨_,_,_,_,o,_,_,e,_⟩:=x;exact wt e
 | set S n=>obtain⟨o,_,_,_,e,_⟩:=x;exact wt e
 | ins C dx fs=>obtain⟨_,_,_,e,_⟩:=x;exact wt e
 | own y=>obtain⟨_,e⟩:=x;exact wt e
 | xd fs=>obtain⟨_,⟨_,_,_,e,_⟩,_⟩:=x;exact wt e
 | rng lo hi=>obtain⟨_,_,_,e⟩:=x;exact wt e
 | frz ob u=>obtain⟨e,_⟩:=x;exact wt e
 | tbl ps=>exact wt (show h.get? a=some _ from x)
 | met f y=>exact wt (show h.get? a=some _ from x)
 | ext φ=>obtain⟨_,⟨_,e⟩,_⟩:=x;exact wt e
theorem Paired.mapP{α β:Type}{F G:α->β->Prop}:∀{l₁:List α} {l₂:List β},Paired F l₁ l₂->(∀ a b,F a b->G a b)->Paired G l₁ l₂
 | _,_,.nil,_ => .nil
 | _,_,.cons r t,f => .cons (f _ _ r) (Paired.mapP t f)
theorem ObjOk.stay(x:ObjOk P w H h a o)(k:∀ b u,(b=a\/H b=some (.own a))->h.get? b=some u->h'.get? b=some u)
  (ho:∀ b,H b=some (.own a)->H' b=some (.own a)) (ht:∀ b xs,H b=some (.tup xs)->H' b=some (.tup xs)):ObjOk P w H' h' a o:=by
 induction o with
 | lst xs=>obtain⟨z,its,n,r,e⟩:=x;exact⟨z,its,n,r,k _ _ (.inl rfl) e⟩
 | tup xs=>obtain⟨z,its,r,ob,e,c⟩:=x;exact⟨z,its,r,ob,k _ _ (.inl rfl) e,c⟩
 | dK kvs=>obtain⟨z,y,vs,r,ob,es,ep,e,c⟩:=x;exact⟨z,y,vs,r,ob,es,ep,k _ _ (.inl rfl) e,c⟩
 | dT kvs =>
  obtain⟨z,y,xs,r,ob,es,ep,e,c⟩:=x;exact⟨z,y,xs,Paired.mapP r λp q z=>⟨z.1,ht _ _ z.2.1,z.2.2⟩,ob,es,ep,k _ _ (.inl rfl) e,c⟩
 | set S n=>obtain⟨ob,es,ep,t,e,c⟩:=x;exact⟨ob,es,ep,t,k _ _ (.inl rfl) e,c⟩
 | ins C dx fs =>
  obtain⟨d,z,ne,e,mA,⟨od,es,ep,e2,c⟩,r⟩:=x;exact⟨ho _ d,z,ne,k _ _ (.inl rfl) e,mA,⟨od,es,ep,k _ _ (.inr d) e2,c⟩,r⟩
 | own y=>obtain⟨ob,e⟩:=x;exact⟨ob,k _ _ (.inl rfl) e⟩
 | xd fs=>obtain⟨mA,⟨od,es,ep,e,c⟩,r⟩:=x;exact⟨mA,⟨od,es,ep,k _ _ (.inl rfl) e,c⟩,r⟩
 | rng lo hi=>obtain⟨t,u,v,e⟩:=x;exact⟨t,u,v,k _ _ (.inl rfl) e⟩
 | frz ob u ih=>obtain⟨e,q⟩:=x;exact⟨k _ _ (.inl rfl) e,ih q⟩
 | tbl ps =>
  have e:h.get? a=some { cls := .none,data := .fields ps }:=x;show h'.get? a=some { cls := .none,data := .fields ps };exact k a _ (.inl rfl) e
 | met f y =>
  have e:h.get? a=some (PySem.W.methodObj (.ref f) (.ref y)):=x;show h'.get? a=some (PySem.W.methodObj (.ref f) (.ref y));exact k a _ (.inl rfl) e
 | ext φ=>obtain⟨p,⟨o,e⟩,st⟩:=x;exact⟨st _ _ p λo q=>k _ _ (.inl rfl) q,⟨o,k _ _ (.inl rfl) e⟩,st⟩
theorem HOk.lt(x:HOk P w H h)(e:H a=some o):a<h.objs.size:=(x a o e).lt
theorem HOk.fresh(x:HOk P w H h)(e:h.objs.size<=a):H a=none:=by
 cases q:H a with
 | none=>rfl
 | some u=>exact absurd (wB (x.lt q) e) (vB _)
theorem HOk.kept(x:HOk P w H h)(k:∀ b u,h.get? b=some u->h'.get? b=some u):HOk P w H h':=λa o e =>
 (x a o e).stay (λb u _ q=>k b u q) (λ_ q=>q) λ_ _ q=>q
theorem HOk.laid(x:HOk P w H h)(k:∀ b u,h.get? b=some u->h'.get? b=some u)(hp:h.objs.size<=a)(new:ObjOk P w (upd H a o) h' a o):HOk P w (upd H a o) h':=λb u e=>by
 have hn:=x.fresh hp;by_cases hb:b=a
 · subst hb;rw[D7]at e;cases e;exact new
 · rw[w6 hb]at e;exact(x b u e).stay (λc v _ q=>k c v q) (λc q=>by rw[w6 (R3 q hn)];exact q) λc xs q=>by rw[w6 (R3 q hn)];exact q
end
def Rd(H:Hp)(a:Addr)(u:HO):Prop:=H a=some u\/∃ o,H a=some (.frz o u)
theorem Rd.ok{P:Program}{w:World}{H:Hp}{h:Heap}{a:Addr}{u:HO}(r:Rd H a u)(x:HOk P w H h):ObjOk P w H h a u:=by
 rcases r with r|⟨o,r⟩
 · exact x a u r
 · obtain⟨_,q⟩:=x a _ r;exact q
def Mut:Option HO->Prop
 | some (.lst _)=>True
 | some (.dK _)=>True
 | some (.dT _)=>True
 | some (.set _ _)=>True
 | some (.ins _ _ _)=>True
 | some (.ext _)=>True
 | _=>False
section
variable {P:Program}{w:World}{H:Hp}{h h':Heap}{x e:Addr}{o':HO}
theorem HOk.write(ok:HOk P w H h)(mu:Mut (H x))(he:e=x\/H e=some (.own x))(k:∀ b u,b≠e->h.get? b=some u->h'.get? b=some u)(heo:∃ u,h'.get? e=some u)
   (new:ObjOk P w (upd H x o') h' x o'):HOk P w (upd H x o') h':=λb u q=>by
 have nown:∀ c y,H c=some (.own y)->c≠x:=λc y r z=>by subst z;rw[r]at mu;exact mu
 have ntup:∀ c xs,H c=some (.tup xs)->c≠x:=λc xs r z=>by subst z;rw[r]at mu;exact mu
 by_cases hb:b=x
 · subst hb;rw[D7]at q;cases q;exact new
 · rw[w6 hb]at q;by_cases hbe:b=e
   · have q':H b=some (.own x):=by
       rcases he with z|z
       · exact absurd (hbe.trans z) hb
       · rw[hbe];exact z
     rw[q]at q';cases q';obtain⟨v,hv⟩:=heo;exact⟨v,by rw[hbe];exact hv⟩
   · refine(ok b u q).stay (λc v hc r=>k c v ?_ r) (λc r=>by rw[w6 (nown c b r)];exact r) λc xs r=>by rw[w6 (ntup c xs r)];exact r
     rcases hc with rfl|hc
     · exact hbe
     · rintro rfl;rcases he with z|z
       · exact nown c b hc z
       · rw[hc]at z;cases z;exact hb rfl
end
structure Un(fs ex:List Addr)(H H':Hp)(h h':Heap):Prop where
 keep:∀ b o,h.get? b=some o->H b=none->b ∉ fs->b ∉ ex->h'.get? b=some o
 slot:∀ b o,h.get? b=some o->H b=none->b∈fs->b ∉ ex->∃ sl,h'.get? b=some { o with slots:=sl }
 free:∀ b o,h.get? b=some o->H b=none->b ∉ ex->H' b=none
 there:∀ b o,h.get? b=some o->b ∉ ex->∃ o',h'.get? b=some o'
 tups:∀ b xs,H b=some (.tup xs)->H' b=some (.tup xs)
 frzs:∀ b o u,H b=some (.frz o u)->H' b=some (.frz o u)
 tbls:∀ b ps,H b=some (.tbl ps)->∃ more,H' b=some (.tbl (ps++more))
section
variable {fs fs' ex ex':List Addr}{H H1 H2:Hp}{h h1 h2 h':Heap}{a x e:Addr}{o:HO}
theorem Un.any(u:Un fs ex H H1 h h1){b:Addr}{ob:Obj}(q:h.get? b=some ob)(n:H b=none)(hx:b ∉ ex):∃ sl,h1.get? b=some { ob with slots:=sl }:=by
 by_cases hb:b∈fs
 · exact u.slot b ob q n hb hx
 · exact⟨ob.slots,u.keep b ob q n hb hx⟩
theorem Un.trans(a:Un fs ex H H1 h h1)(b:Un fs ex H1 H2 h1 h2):Un fs ex H H2 h h2 where
 keep:=λc ob q n hc hx=>b.keep c ob (a.keep c ob q n hc hx) (a.free c ob q n hx) hc hx
 slot:=λc ob q n hc hx=>by
  obtain⟨sl,e1⟩:=a.slot c ob q n hc hx;obtain⟨sl',e2⟩:=b.slot c _ e1 (a.free c ob q n hx) hc hx;exact⟨sl',e2⟩
 free:=λc ob q n hx=>by
  obtain⟨o',e1⟩:=a.there c ob q hx;exact b.free c o' e1 (a.free c ob q n hx) hx
 there:=λc ob q hx=>by
  obtain⟨o',e1⟩:=a.there c ob q hx;exact b.there c o' e1 hx
 tups:=λc xs q=>b.tups c xs (a.tups c xs q)
 frzs:=λc ob xs q=>b.frzs c ob xs (a.frzs c ob xs q)
 tbls:=λc ps q=>by
  obtain⟨m1,e1⟩:=a.tbls c ps q;obtain⟨m2,e2⟩:=b.tbls c _ e1;exact⟨m1++m2,by rw[e2,Array.append_assoc]⟩
theorem Un.kept(k:∀ b u,h.get? b=some u->h'.get? b=some u):Un fs ex H H h h' :=
 ⟨λb ob q _ _ _=>k b ob q,λb ob q _ _ _=>⟨ob.slots,k b ob q⟩,λ_ _ _ n _=>n,λb ob q _=>⟨ob,k b ob q⟩,λ_ _ q=>q,λ_ _ _ q=>q,λ_ ps q=>⟨#[],by rw[q];simp⟩⟩
theorem Un.refl:Un fs ex H H h h:=Un.kept λ_ _ q=>q
theorem Un.laid(k:∀ b u,h.get? b=some u->h'.get? b=some u)(hp:h.objs.size<=a)(hn:H a=none):Un fs ex H (upd H a o) h h' where
 keep:=λb u q _ _ _=>k b u q
 slot:=λb u q _ _ _=>⟨u.slots,k b u q⟩
 free:=λb u q n _=>by rw[w6 (wU (wB (wt q) hp))];exact n
 there:=λb u q _=>⟨u,k b u q⟩
 tups:=λb xs q=>by rw[w6 (R3 q hn)];exact q
 frzs:=λb u xs q=>by rw[w6 (R3 q hn)];exact q
 tbls:=λb ps q=>⟨#[],by rw[w6 (R3 q hn),q];simp⟩
theorem Un.write(mu:Mut (H x))(he:e=x\/H e=some (.own x))(k:∀ b u,b≠e->h.get? b=some u->h'.get? b=some u)(heo:∃ u,h'.get? e=some u):Un fs ex H (upd H x o) h h':=by
 have hx:∀ b,H b=none->b≠x:=λb n z=>by subst z;rw[n]at mu;exact mu
 have hb:∀ b,H b=none->b≠e:=λb n z=>by
   subst z;rcases he with r|r
   · exact hx b n r
   · rw[n]at r;cases r
 have hm:∀ b u,H b=some u->¬Mut (some u)->b≠x:=λb u q nm z=>by subst z;rw[q]at mu;exact nm mu
 refine⟨λb u q n _ _=>k b u (hb b n) q,λb u q n _ _=>⟨u.slots,k b u (hb b n) q⟩,λb u q n _=>by rw[w6 (hx b n)];exact n,λb u q _=>?_,
   λb xs q=>by rw[w6 (hm b _ q λz=>z)];exact q,λb u xs q=>by rw[w6 (hm b _ q λz=>z)];exact q,λb ps q=>⟨#[],by rw[w6 (hm b _ q λz=>z),q];simp⟩⟩
 by_cases hbe:b=e
 · subst hbe;exact heo
 · exact⟨u,k b u hbe q⟩
end
def trk(h:Heap)(H:Hp):List Addr:=(List.range h.objs.size).filter λa=>(H a).isSome
def hidT(h:Heap)(H:Hp):Heap:=PySem.W.hideAll h (trk h H)
theorem Zn(h:Heap)(H:Hp):(hidT h H).objs.size=h.objs.size:=PySem.W.hideAll_size _ _
theorem z0s{h:Heap}{H:Hp}{b:Addr}{o:Obj}(e:h.get? b=some o)(n:H b=none):(hidT h H).get? b=some o :=
 PySem.W.hideAll_get _ e λhm=>by
  have q:(H b).isSome=true:=(wL.mp hm).2;rw[n]at q;simp at q
theorem z4T{h:Heap}{H:Hp}{b:Addr}{o:Obj}(e:(hidT h H).get? b=some o):h.get? b=some o/\H b=none:=by
 have e':h.get? b=some o:=PySem.W.of_hideAll (trk h H) e;refine⟨e',?_⟩;cases q:H b with
 | none=>rfl
 | some x =>
  have hm:b∈trk h H:=wL.mpr ⟨wQ.mpr (wt e'),by simp[q]⟩;have z:(hidT h H).get? b=none:=PySem.W.hideAll_none (trk h H) hm;rw[z]at e;cases e
def z4U(g h:Heap)(L:Addr):aB:=(List.range h.objs.size).filterMap λa=>if a=L\/(g.get? a).isSome=true then none else(h.get? a).map λo=>(a,o)
def rest(g h:Heap)(L d:Addr):aB:=(z4U g h L).filter λp=>decide (p.1≠d)
end L2
namespace L2
open PySem PySem.Spec PyProof.Rows
structure Mod(K:aD)(mg:aE)(base:Heap):Prop where
 kin:K.In base
 glob:base.Ns mainGlobals mg
 blt:∃ mb,base.Ns builtinsNs mb/\∀ x:Str,x ≠ "__name__" -> mb x=bootBuiltins x
 nolimit:base.NoLimit
structure Cx where
 prog:Program
 w:World
 K:aD
 mg:aE
 base:Heap
 A:Around
 N:List Str
 s₀:Shared
 H₀:Hp
 env:Env
 outer:List Env
 stack:List Env
 ex:List Addr
 fn:Str->Bool
 calm:Bool
 pn:aB
 xe:aC
def frs(l:List Env):List Addr:=l.filterMap (·.frame)
abbrev Cx.fs(X:Cx):List Addr:=frs X.outer
def Vis(sc:Scope)(x:Str):Prop:=sc.names.lookup x=some .local\/sc.names.lookup x=some .cell\/sc.names.lookup x=some .free
def Loc(sc:Scope)(x:Str):Prop:=sc.names.lookup x=some .local\/sc.names.lookup x=some .cell
def Look(env:Env)(h:Heap)(m:aE)(x:Str)(u:Value):Prop :=
 (env.kindOf x=some .local/\m x=some u)\/((env.kindOf x=some .cell\/env.kindOf x=some .free)/\∃ c,env.cells.lookup x=some c/\h.IsCell c (some u))
structure Cx.Ok(X:Cx):Prop where
 mod:Mod X.K X.mg X.base
 kind:X.env.scope.kind = .function
 glob:X.env.globals=mainGlobals
 blt:X.env.builtins=builtinsNs
 above:X.s₀.heap.objs.size<=X.env.locals
 inj:∀ x y c,X.env.cells.lookup x=some c->X.env.cells.lookup y=some c->x=y
 has:∀ x,(X.env.kindOf x=some .cell\/X.env.kindOf x=some .free)->∃ c,X.env.cells.lookup x=some c
 cab:∀ x c,X.fn x=true->X.env.cells.lookup x=some c->X.s₀.heap.objs.size<=c
 hd:X.calm=true->X.A.handled=none
 frames:X.A.frames=some X.stack
 stk:X.stack=X.outer\/(X.stack=X.env::X.outer/\X.env.frame=some X.env.locals)
 exf:∀ b∈X.ex,b≠X.env.locals/\∀ x c,X.env.cells.lookup x=some c->c≠b
 bs:∀ b o,X.base.get? b=some o->X.s₀.heap.get? b=some o/\X.H₀ b=none
 bsz:X.base.objs.size<=X.s₀.heap.objs.size
 noex:∀ b o,X.base.get? b=some o->b ∉ X.ex
 exfs:∀ b∈X.ex,b ∉ X.fs
 funs:X.s₀.heap.FunFrames X.base X.outer
 frf:∀ b∈X.fs,X.H₀ b=none
structure Inv(X:Cx)(π:aB)(σ:List (Option V))(H:Hp)(s:Shared):Prop where
 ok:X.Ok
 os:s.os=X.s₀.os
 bare:AllBare s.gens
 base:Un X.fs X.ex X.H₀ H X.s₀.heap s.heap
 loc:∃ m,s.heap.Ns X.env.locals m/\∀(i:Nat) (x:Str) (v:V),X.N[i]?=some x->σ[i]?=some (some v)->Vis X.env.scope x->∃ u,RelV v u/\Look X.env s.heap m x u
 cell:∀ x c,X.env.cells.lookup x=some c->∃ v,s.heap.IsCell c v
 free:H X.env.locals=none
 freeC:∀ x c,X.env.cells.lookup x=some c->H c=none
 pin:∀ p∈X.pn++π,s.heap.get? p.1=some p.2/\H p.1=none/\p.1≠X.env.locals/\p.1 ∉ X.fs/\∀ v,p.2.data ≠ .cell v
 hok:HOk X.prog X.w H s.heap
 len:σ.length=X.N.length
section
variable {X:Cx}{π:aB}{σ:List (Option V)}{H H':Hp}{s:Shared}{h':Heap}
theorem Cx.Ok.nofr(ok:X.Ok){b:Addr}{o:Obj}(e:X.base.get? b=some o):b ∉ X.fs:=λhb=>by
 have:=(ok.funs.mem hb).1;rw[e]at this;cases this
theorem Inv.bs(I:Inv X π σ H s):∀ b o,X.base.get? b=some o->s.heap.get? b=some o/\H b=none:=λb o e =>
 ⟨I.base.keep b o (I.ok.bs b o e).1 (I.ok.bs b o e).2 (I.ok.nofr e) (I.ok.noex b o e),I.base.free b o (I.ok.bs b o e).1 (I.ok.bs b o e).2 (I.ok.noex b o e)⟩
theorem Inv.bk(I:Inv X π σ H s):∀ b o,X.base.get? b=some o->s.heap.get? b=some o:=λb o e=>(I.bs b o e).1
theorem Inv.mod(I:Inv X π σ H s):Mod X.K X.mg X.base:=I.ok.mod
theorem Inv.kIn(I:Inv X π σ H s):X.K.In s.heap:=I.ok.mod.kin.keeps I.bk
theorem Inv.fr(I:Inv X π σ H s):∃ m,Fr X.base X.env.locals s.heap m :=
 let ⟨m,hn,_⟩:=I.loc
 ⟨m,hn,I.bk,wG I.ok.bsz I.ok.above⟩
theorem Inv.lt(I:Inv X π σ H s):X.env.locals<s.heap.objs.size:=let ⟨_,hn,_⟩:=I.loc;hn.lt
theorem Inv.sz(I:Inv X π σ H s):X.s₀.heap.objs.size<=s.heap.objs.size:=wG I.ok.above (vw I.lt)
theorem Inv.nofs(I:Inv X π σ H s){a:Addr}(h:s.heap.objs.size<=a):a ∉ X.fs:=λhb=>by
 obtain⟨_,o,ho,_⟩:=I.ok.funs.mem hb;exact absurd (wB (wt ho) (wG I.sz h)) (vB _)
theorem Inv.cne(I:Inv X π σ H s):∀ x c,X.env.cells.lookup x=some c->c≠X.env.locals:=λx c e z=>by
 obtain⟨v,o,ho,hd⟩:=I.cell x c e;obtain⟨m,⟨o',es,ep,ho',hd',_⟩,_⟩:=I.loc;rw[z,ho']at ho;cases ho;rw[hd']at hd;cases hd
theorem Inv.funs(I:Inv X π σ H s):s.heap.FunFrames X.base X.outer:=by
 have all:∀(l:List Env),(∀ b∈frs l,b∈X.fs)->X.s₀.heap.FunFrames X.base l->s.heap.FunFrames X.base l:=by
  intro l
  induction l with
  | nil=>intro _ _;trivial
  | cons env r ih =>
   intro hs hl;obtain⟨hk,⟨L,o,hf,hn,ho,hd⟩,hr⟩:=hl;have hL:L∈X.fs:=hs L (by unfold frs;rw[uZ,hf];exact we);obtain⟨sl,e⟩:=I.base.slot L o ho (I.ok.frf L hL) hL λz=>I.ok.exfs L z hL;exact⟨hk,⟨L,_,hf,hn,e,hd⟩,ih (λb hb=>hs b (by unfold frs;rw[uZ,hf];exact wc _ hb)) hr⟩
 exact all X.outer (λ_ hb=>hb) I.ok.funs
theorem Inv.stack(I:Inv X π σ H s):s.heap.FunFrames X.base X.stack:=by
 rcases I.ok.stk with e|⟨e,hf⟩
 · rw[e];exact I.funs
 · rw[e];obtain⟨m,hn,_⟩:=I.loc;refine .cons (by rw[I.ok.kind];decide) hf hn ?_ I.funs;exact uT (wG I.ok.bsz I.ok.above)
theorem Inv.stkSub(I:Inv X π σ H s):∀ b∈frs X.stack,b∈X.env.locals::X.fs:=λb hb=>by
 rcases I.ok.stk with e|⟨e,hf⟩
 · rw[e]at hb;exact wc _ hb
 · rw[e]at hb;unfold frs at hb;rw[uZ,hf]at hb;exact hb
theorem Inv.stkFree(I:Inv X π σ H s):∀ b∈frs X.stack,H b=none:=λb hb=>by
 rcases wq.mp (I.stkSub b hb)with e|hb
 · rw[e];exact I.free
 · obtain⟨_,o,ho,_⟩:=I.ok.funs.mem hb;exact I.base.free b o ho (I.ok.frf b hb) λz=>I.ok.exfs b z hb
theorem Inv.step{g':Array GenState}{t':Nat}{d':Drawn}{ch:List Addr}(I:Inv X π σ H s)
   (hch:∀ b∈ch,(b∈X.ex\/X.s₀.heap.objs.size<=b)/\b≠X.env.locals/\(∀ x c,X.env.cells.lookup x=some c->c≠b)/\∀ p∈X.pn++π,p.1≠b)
   (keep:∀ b o,b≠X.env.locals->b ∉ X.fs->b ∉ ch->s.heap.get? b=some o->H b=none->h'.get? b=some o)
   (slot:∀ b o,b≠X.env.locals->b∈X.fs->b ∉ ch->s.heap.get? b=some o->H b=none->∃ sl,h'.get? b=some { o with slots:=sl }) (free:∀ b o,b ∉ ch->s.heap.get? b=some o->H b=none->H' b=none)
   (there:∀ b o,b ∉ ch->s.heap.get? b=some o->∃ o',h'.get? b=some o')
   (tups:∀ b xs,H b=some (.tup xs)->H' b=some (.tup xs)) (frzs:∀ b o u,H b=some (.frz o u)->H' b=some (.frz o u)) (tbls:∀ b ps,H b=some (.tbl ps)->∃ more,H' b=some (.tbl (ps++more)))
   (ns:∀ m,s.heap.Ns X.env.locals m->h'.Ns X.env.locals m) (hok:HOk X.prog X.w H' h') (hg:AllBare g') :
   Inv X π σ H' { s with heap:=h',gens:=g',drawn:=d',toks:=t' }:=by
 have neL:∀ b o,X.s₀.heap.get? b=some o->b≠X.env.locals:=λb o e=>wU (wB (wt e) I.ok.above);have neC:∀ b o,X.s₀.heap.get? b=some o->b ∉ X.ex->b ∉ ch:=λb o e hx hb=>by
   rcases(hch b hb).1 with z|z
   · exact hx z
   · exact absurd (wB (wt e) z) (vB _)
 have cellK:∀ x c,X.env.cells.lookup x=some c->∀ v,s.heap.IsCell c v->h'.IsCell c v:=λx c e v⟨o,ho,hd⟩=>by
   have nch:c ∉ ch:=λz=>(hch c z).2.2.1 x c e rfl;by_cases hc:c∈X.fs
   · obtain⟨sl,q⟩:=slot c o (I.cne x c e) hc nch ho (I.freeC x c e);exact⟨_,q,hd⟩
   · exact⟨o,keep c o (I.cne x c e) hc nch ho (I.freeC x c e),hd⟩
 refine⟨I.ok,I.os,hg,⟨λb o e n hb hx=>?_,λb o e n hb hx=>?_,λb o e n hx=>?_,λb o e hx=>?_,λb xs e=>tups b xs (I.base.tups b xs e),λb o xs e=>frzs b o xs (I.base.frzs b o xs e),λb ps e=>?_⟩,?_,λx c e=>?_,?_,λx c e=>?_,λp hp=>?_,hok,I.len⟩
 · exact keep b o (neL b o e) hb (neC b o e hx) (I.base.keep b o e n hb hx) (I.base.free b o e n hx)
 · obtain⟨sl,e1⟩:=I.base.slot b o e n hb hx;obtain⟨sl',e2⟩:=slot b _ (neL b o e) hb (neC b o e hx) e1 (I.base.free b o e n hx);exact⟨sl',e2⟩
 · obtain⟨o',e1⟩:=I.base.there b o e hx;exact free b o' (neC b o e hx) e1 (I.base.free b o e n hx)
 · obtain⟨o',e1⟩:=I.base.there b o e hx;exact there b o' (neC b o e hx) e1
 · obtain⟨m1,e1⟩:=I.base.tbls b ps e;obtain⟨m2,e2⟩:=tbls b _ e1;exact⟨m1++m2,by rw[e2,Array.append_assoc]⟩
 · obtain⟨m,hn,hl⟩:=I.loc;refine⟨m,ns m hn,λi x v e1 e2 e3=>?_⟩;obtain⟨u,r,l⟩:=hl i x v e1 e2 e3;refine⟨u,r,?_⟩;rcases l with l|⟨k,c,e,z⟩
   · exact .inl l
   · exact .inr ⟨k,c,e,cellK x c e _ z⟩
 · obtain⟨v,z⟩:=I.cell x c e;exact⟨v,cellK x c e v z⟩
 · obtain⟨m,⟨o,_,_,ho,_⟩,_⟩:=I.loc;exact free _ o (λz=>(hch _ z).2.1 rfl) ho I.free
 · obtain⟨v,o,ho,hd⟩:=I.cell x c e;exact free c o (λz=>(hch c z).2.2.1 x c e rfl) ho (I.freeC x c e)
 · obtain⟨e,n,ne,nf,d⟩:=I.pin p hp;have nch:p.1 ∉ ch:=λz=>(hch p.1 z).2.2.2 p hp rfl;exact⟨keep p.1 p.2 ne nf nch e n,free p.1 p.2 nch e n,ne,nf,d⟩
theorem Inv.un{t':Nat}(I:Inv X π σ H s)(u:Un X.fs [] H H' s.heap h')(hok:HOk X.prog X.w H' h'):Inv X π σ H' { s with heap:=h',toks:=t' }:=by
 obtain⟨m,⟨o,es,ep,ho,r⟩,_⟩:=id I.loc;obtain⟨sl,hL⟩:=u.any ho I.free (by simp);exact I.step (g':=s.gens) (d':=s.drawn) (ch:=[]) (λ_ z=>nomatch z) (λb o _ hb _ e n=>u.keep b o e n hb (by simp)) (λb o _ hb _ e n=>u.slot b o e n hb (by simp)) (λb o _ e n=>u.free b o e n (by simp)) (λb o _ e=>u.there b o e (by simp)) u.tups u.frzs u.tbls (λm' hm=>by
  obtain⟨o',es',ep',ho',r'⟩:=hm;rw[ho]at ho';cases ho';exact⟨_,es',ep',hL,r'⟩) hok I.bare
theorem Inv.call{g':Array GenState}{t':Nat}{d':Drawn}{ch:List Addr}(I:Inv X π σ H s)(u:Un (frs X.stack) ch H H' s.heap h')(hok:HOk X.prog X.w H' h')(hg:AllBare g')
  (hch:∀ b∈ch,(b∈X.ex\/X.s₀.heap.objs.size<=b)/\b≠X.env.locals/\(∀ x c,X.env.cells.lookup x=some c->c≠b)/\∀ p∈X.pn++π,p.1≠b) :
  Inv X π σ H' { s with heap:=h',gens:=g',drawn:=d',toks:=t' }:=by
 obtain⟨m,⟨o,es,ep,ho,r⟩,_⟩:=id I.loc;obtain⟨sl,hL⟩:=u.any ho I.free λz=>(hch _ z).2.1 rfl;exact I.step (ch:=ch) hch (λb o hL hb hc e n=>u.keep b o e n (λz=>(wq.mp (I.stkSub b z)).elim hL hb) hc) (λb o _ _ hc e n=>u.any e n hc) (λb o hc e n=>u.free b o e n hc) (λb o hc e=>u.there b o e hc) u.tups u.frzs u.tbls (λm' hm=>by
  obtain⟨o',es',ep',ho',r'⟩:=hm;rw[ho]at ho';cases ho';exact⟨_,es',ep',hL,r'⟩) hok hg
theorem Inv.turned{t':Nat}{it:Addr}(I:Inv X π σ H s)(k:∀ b o,b≠it->s.heap.get? b=some o->h'.get? b=some o)(hn:H it=none)(hL:it≠X.env.locals)
   (h1:it∈X.ex\/X.s₀.heap.objs.size<=it) (h2:∀ x c,X.env.cells.lookup x=some c->c≠it) (h3:∀ p∈X.pn++π,p.1≠it):Inv X π σ H { s with heap:=h',toks:=t' }:=by
 have nit:∀ b u,H b=some u->b≠it:=λb u e z=>by rw[z,hn]at e;cases e
 refine I.step (g':=s.gens) (d':=s.drawn) (ch:=[it]) (λb hb=>?_) (λb o _ _ hc e _=>k b o (λz=>hc (by simp[z])) e) (λb o _ _ hc e _=>⟨o.slots,k b o (λz=>hc (by simp[z])) e⟩) (λ_ _ _ _ n=>n)
   (λb o hc e=>⟨o,k b o (λz=>hc (by simp[z])) e⟩) (λ_ _ e=>e) (λ_ _ _ e=>e) (λb ps e=>⟨#[],by rw[e];simp⟩) (λm hm=>?_) (λb u e=>?_) I.bare
 · have e:b=it:=by simpa using hb
   subst e;exact⟨h1,hL,h2,h3⟩
 · obtain⟨o,es,ep,ho,r⟩:=hm;exact⟨o,es,ep,k _ o (Ne.symm hL) ho,r⟩
 · refine(I.hok b u e).stay (λc v hc q=>k c v ?_ q) (λ_ q=>q) λ_ _ q=>q;rcases hc with z|z
   · rw[z];exact nit b u e
   · exact nit c _ z
theorem Inv.tok(I:Inv X π σ H s)(t:Nat):Inv X π σ H { s with toks:=t }:=I.un (h':=s.heap) (t':=t) Un.refl I.hok
theorem Inv.kept{t':Nat}(I:Inv X π σ H s)(k:∀ b u,s.heap.get? b=some u->h'.get? b=some u):Inv X π σ H { s with heap:=h',toks:=t' }:=I.un (Un.kept k) (I.hok.kept k)
theorem Inv.laid{a:Addr}{o:HO}{t':Nat}(I:Inv X π σ H s)(k:∀ b u,s.heap.get? b=some u->h'.get? b=some u)(hp:s.heap.objs.size<=a)(new:ObjOk X.prog X.w (upd H a o) h' a o):
 Inv X π σ (upd H a o) { s with heap:=h',toks:=t' }:=I.un (Un.laid k hp (I.hok.fresh hp)) (I.hok.laid k hp new)
theorem Inv.write{x e:Addr}{o:HO}{t':Nat}(I:Inv X π σ H s)(mu:Mut (H x))(he:e=x\/H e=some (.own x))(k:∀ b u,b≠e->s.heap.get? b=some u->h'.get? b=some u)(heo:∃ u,h'.get? e=some u)
 (new:ObjOk X.prog X.w (upd H x o) h' x o):Inv X π σ (upd H x o) { s with heap:=h',toks:=t' }:=I.un (Un.write mu he k heo) (I.hok.write mu he k heo new)
theorem Inv.weak{σ':List (Option V)}(I:Inv X π σ H s)(hl:σ'.length=σ.length)(w:∀(i:Nat) v,σ'[i]?=some (some v)->σ[i]?=some (some v)):Inv X π σ' H s :=
 ⟨I.ok,I.os,I.bare,I.base,let ⟨m,hn,hl'⟩:=I.loc;⟨m,hn,λi x v e1 e2 e3=>hl' i x v e1 (w i v e2) e3⟩,I.cell,I.free,I.freeC,I.pin,I.hok,hl.trans I.len⟩
theorem Inv.pins_of{pins':aB}(I:Inv X π σ H s)(h:∀ p∈pins',s.heap.get? p.1=some p.2/\H p.1=none/\p.1≠X.env.locals/\p.1 ∉ X.fs/\∀ v,p.2.data ≠ .cell v):Inv X pins' σ H s :=
 ⟨I.ok,I.os,I.bare,I.base,I.loc,I.cell,I.free,I.freeC,λp hp=>(wo.mp hp).elim (λz=>I.pin p (uo _ z)) (h p),I.hok,I.len⟩
theorem OJ{N:List Str}(hN:N.Nodup){i j:Nat}{x:Str}(a:N[i]?=some x)(b:N[j]?=some x):i=j:=by
 obtain⟨h1,e1⟩:=vF.mp a;obtain⟨h2,e2⟩:=vF.mp b;exact(List.getElem_inj hN).mp (e1.trans e2.symm)
theorem Lp{M:Model}{A:Around}{E:aC}{i:Nat}{x:Str}{v:V}{u:Value}{Q:Unit->Shared->Prop}(I:Inv X π σ H s)(hN:X.N.Nodup)(hi:X.N[i]?=some x)(hx:Loc X.env.scope x)(r:RelV v u)
   (h:∀ s',Inv X π (σ.set i (some v)) H s'->(∃ a,Heap.SameBut a s.heap s'.heap/\(a=X.env.locals\/X.env.cells.lookup x=some a))->Q () s') (hf:X.fn x=true\/X.env.scope.names.lookup x=some .local:=by first|exact .inl rfl|exact .inr rfl|assumption):wpAny M A (storeName X.env x u) Q E s:=by
 obtain⟨m,hn,hl⟩:=id I.loc;have hcls:(X.env.scope.kind == .class||(X.env.scope.kind == .module&&X.env.locals != X.env.globals))=false:=by rw[I.ok.kind];rfl
 have hiσ:i<σ.length:=by rw[I.len];exact(vF.mp hi).1
 have cne:=I.cne;have tracked:∀{a:Addr} {h':Heap},(∃ o,s.heap.get? a=some o/\H a=none)->Heap.SameBut a s.heap h'->HOk X.prog X.w H h':=λ{a h'} ha hs b ob e=>by
   obtain⟨_,_,hfree⟩:=ha;refine(I.hok b ob e).stay (λc w' hc q=>(hs.2 c ?_).trans q) (λ_ q=>q) λ_ _ q=>q;rintro rfl;rcases hc with rfl|hc
   · rw[hfree]at e;cases e
   · rw[hfree]at hc;cases hc
 rcases hx with hk|hk
 · refine wpAny_storeName_local hk hn (λh' hn' hs=>?_) hcls;obtain⟨oL,_,_,hoL,_⟩:=id hn;refine h _ ⟨I.ok,I.os,I.bare,⟨λb o e n hb hx=>?_,λb o e n hb hx=>?_,I.base.free,λb o e hx=>?_,I.base.tups,I.base.frzs,I.base.tbls⟩,⟨_,hn',λj y v' e1 e2 e3=>?_⟩,λy c e=>?_,I.free,I.freeC,λp hp=>?_,tracked ⟨oL,hoL,I.free⟩ hs,by simpa using I.len⟩ ⟨_,hs,.inl rfl⟩
   · exact(hs.2 b (wU (wB (wt e) I.ok.above))).trans (I.base.keep b o e n hb hx)
   · obtain⟨sl,e1⟩:=I.base.slot b o e n hb hx;exact⟨sl,(hs.2 b (wU (wB (wt e) I.ok.above))).trans e1⟩
   · obtain⟨o',e1⟩:=I.base.there b o e hx;exact⟨o',(hs.2 b (wU (wB (wt e) I.ok.above))).trans e1⟩
   · by_cases hj:j=i
     · subst hj;rw[hi]at e1;cases e1;rw[w0o hiσ]at e2;cases e2;exact⟨u,r,.inl ⟨hk,by simp⟩⟩
     · rw[vo (Ne.symm hj)]at e2;obtain⟨u',r',q⟩:=hl j y v' e1 e2 e3;refine⟨u',r',?_⟩;rcases q with⟨k,e⟩|⟨k,c,e,z⟩
       · refine .inl ⟨k,?_⟩;have:y≠x:=λe=>hj (OJ hN e1 (e ▸ hi));simp[this,e]
       · exact .inr ⟨k,c,e,z.sameBut hs (cne y c e)⟩
   · obtain⟨w',z⟩:=I.cell y c e;exact⟨w',z.sameBut hs (cne y c e)⟩
   · obtain⟨e,n,ne,nf,d⟩:=I.pin p hp;exact⟨(hs.2 p.1 ne).trans e,n,ne,nf,d⟩
 · have hfn:X.fn x=true:=by
     rcases hf with z|z
     · exact z
     · rw[z]at hk;cases hk
   obtain⟨c,hc⟩:=I.ok.has x (.inl hk);obtain⟨w',z⟩:=I.cell x c hc;refine wpAny_storeName_cell I.ok.kind hk hc z (λh' hc' hs=>?_);obtain⟨oc,hoc,hocd⟩:=id z;refine h { s with heap:=h' } ⟨I.ok,I.os,I.bare,⟨λb o e n hb hx=>?_,λb o e n hb hx=>?_,I.base.free,λb o e hx=>?_,I.base.tups,I.base.frzs,I.base.tbls⟩,⟨m,hn.sameBut hs (Ne.symm (cne x c hc)),λj y v' e1 e2 e3=>?_⟩,λy c' e=>?_,I.free,I.freeC,λp hp=>?_,tracked ⟨oc,hoc,I.freeC x c hc⟩ hs,by simpa using I.len⟩ ⟨c,hs,.inr hc⟩
   · exact(hs.2 b (wU (wB (wt e) (I.ok.cab x c hfn hc)))).trans (I.base.keep b o e n hb hx)
   · obtain⟨sl,e1⟩:=I.base.slot b o e n hb hx;exact⟨sl,(hs.2 b (wU (wB (wt e) (I.ok.cab x c hfn hc)))).trans e1⟩
   · obtain⟨o',e1⟩:=I.base.there b o e hx;exact⟨o',(hs.2 b (wU (wB (wt e) (I.ok.cab x c hfn hc)))).trans e1⟩
   · by_cases hj:j=i
     · subst hj;rw[hi]at e1;cases e1;rw[w0o hiσ]at e2;cases e2;exact⟨u,r,.inr ⟨.inl hk,c,hc,hc'⟩⟩
     · rw[vo (Ne.symm hj)]at e2;obtain⟨u',r',q⟩:=hl j y v' e1 e2 e3;refine⟨u',r',?_⟩;rcases q with q|⟨k,c',e,z'⟩
       · exact .inl q
       · refine .inr ⟨k,c',e,z'.sameBut hs ?_⟩;rintro rfl;exact hj (OJ hN e1 (I.ok.inj _ _ _ e hc ▸ hi))
   · by_cases hcc:c'=c
     · subst hcc;exact⟨_,hc'⟩
     · obtain⟨w2,z2⟩:=I.cell y c' e;exact⟨w2,z2.sameBut hs hcc⟩
   · obtain⟨e,n,ne,nf,d⟩:=I.pin p hp;refine⟨(hs.2 p.1 ?_).trans e,n,ne,nf,d⟩;intro q;rw[q,hoc]at e;have q':oc=p.2:=Option.some.inj e;exact d w' (by rw[←q'];exact hocd)
theorem OK{M:Model}{A:Around}{E:aC}{i:Nat}{x:Str}{v:V}{u:Value}{Q:Unit->Shared->Prop}(I:Inv X π σ H s)(hN:X.N.Nodup)(hi:X.N[i]?=some x)(hx:Loc X.env.scope x)(r:RelV v u)
  (h:∀ s',Inv X π (σ.set i (some v)) H s'->Q () s') (hf:X.fn x=true\/X.env.scope.names.lookup x=some .local:=by first|exact .inl rfl|exact .inr rfl|assumption):wpAny M A (storeName X.env x u) Q E s :=
 Lp I hN hi hx r (λs' I' _=>h s' I') hf
theorem Inv.call'{s':Shared}{ch:List Addr}(I:Inv X π σ H s)(ho:s'.os=s.os)(u:Un (frs X.stack) ch H H' s.heap s'.heap)(hok:HOk X.prog X.w H' s'.heap)(hg:AllBare s'.gens)
  (hch:∀ b∈ch,(b∈X.ex\/X.s₀.heap.objs.size<=b)/\b≠X.env.locals/\(∀ x c,X.env.cells.lookup x=some c->c≠b)/\∀ p∈X.pn++π,p.1≠b):Inv X π σ H' s':=by
 obtain⟨h',g',d',t',o'⟩:=s';have e:o'=s.os:=ho;subst e;exact I.call (g':=g') (t':=t') (d':=d') u hok hg hch
end
abbrev XK:=Value->Option Addr->Hp->Prop
abbrev St:=List (Option V)
abbrev VK:=V->Hp->Prop
abbrev TE:=St->Hp->VK->Prop
abbrev TT:=St->Hp->(Bool->Hp->Prop)->Prop
abbrev TA:=St->Hp->(List V->Hp->Prop)->Prop
structure Ends where
 nx:St->Hp->Prop
 rt:VK
 bk:St->Hp->Prop:=λ_ _=>False
 ct:St->Hp->Prop:=λ_ _=>False
abbrev TS:=Ends->St->Hp->Prop
def EP(X:Cx)(π:aB)(σ:St)(Q:VK)(u:Value)(s':Shared):Prop:=∃ v H',Inv X π σ H' s'/\RelV v u/\Q v H'
def TP(X:Cx)(π:aB)(σ:St)(Q:Bool->Hp->Prop)(b:Bool)(s':Shared):Prop:=∃ H',Inv X π σ H' s'/\Q b H'
def AP(X:Cx)(π:aB)(σ:St)(Q:List V->Hp->Prop)(us:aF)(s':Shared):Prop:=∃ vs H',Inv X π σ H' s'/\Vals vs us/\Q vs H'
def SP(X:Cx)(π:aB)(D:Ends)(f:Flow)(s':Shared):Prop :=
 match f with
 | .next=>∃ σ' H',Inv X π σ' H' s'/\D.nx σ' H'
 | .brk=>∃ σ' H',Inv X π σ' H' s'/\D.bk σ' H'
 | .cont=>∃ σ' H',Inv X π σ' H' s'/\D.ct σ' H'
 | .ret u=>∃ v σ' H',Inv X π σ' H' s'/\RelV v u/\D.rt v H'
def PE(X:Cx)(e:Expr)(t:TE):Prop :=
 ∀(π:aB) (s:Shared) (σ:St) (H:Hp) (Q:VK),Inv X π σ H s->t σ H Q->wpAny (model X.prog X.w) X.A (eval e X.env) (EP X π σ Q) X.xe s
def PT(X:Cx)(e:Expr)(t:TT):Prop :=
 ∀(π:aB) (s:Shared) (σ:St) (H:Hp) (Q:Bool->Hp->Prop),Inv X π σ H s->t σ H Q->wpAny (model X.prog X.w) X.A (isTrue e X.env (eval e X.env)) (TP X π σ Q) X.xe s
def PW(X:Cx)(e:Expr)(t:TT):Prop :=
 ∀(whole:Sem Value) (π:aB) (s:Shared) (σ:St) (H:Hp) (Q:Bool->Hp->Prop),Inv X π σ H s->t σ H Q->wpAny (model X.prog X.w) X.A (isTrue e X.env whole) (TP X π σ Q) X.xe s
theorem PW.pt{X:Cx}{e:Expr}{t:TT}(h:PW X e t):PT X e t:=h _
def PA(X:Cx)(es:List Expr)(t:TA):Prop :=
 ∀(pos:Pos) (π:aB) (s:Shared) (σ:St) (H:Hp) (Q:List V->Hp->Prop),Inv X π σ H s->t σ H Q->wpAny (model X.prog X.w) X.A (spliced (backTo pos (starEach es X.env))) (AP X π σ Q) X.xe s
def PS(X:Cx)(st:Stmt)(t:TS):Prop :=
 ∀(π:aB) (s:Shared) (σ:St) (H:Hp) (D:Ends),Inv X π σ H s->t D σ H->wpAny (model X.prog X.w) X.A (exec st X.env) (SP X π D) X.xe s
def PSs(X:Cx)(st:List Stmt)(t:TS):Prop :=
 ∀(π:aB) (s:Shared) (σ:St) (H:Hp) (D:Ends),Inv X π σ H s->t D σ H->wpAny (model X.prog X.w) X.A (execs st X.env) (SP X π D) X.xe s
theorem thn{α:Type}{t:Sem α}{Q Q':α->Shared->Prop}{M:Model}{A:Around}{E:aC}{s:Shared}(h:wpAny M A t Q E s)(hQ:∀ a s,Q a s->Q' a s):wpAny M A t Q' E s:=wpAny_mono h hQ λ_ _ x=>x
end L2
namespace L2
open PySem PySem.Spec PyProof.Rows
section
variable {X:Cx}
def tVar(i:Nat):TE:=λσ H Q=>∃ v,σ[i]?=some (some v)/\Q v H
def tC(v:V):TE:=λ_ H Q=>Q v H
theorem Nr{i:Nat}{x:Str}{pos:Pos}(hN:X.N[i]?=some x)(hv:Vis X.env.scope x)(hd:(x==("__debug__" : Str))=false:=by decide)(hcd:(x==("__classdict__" : Str))=false:=by decide):PE X (.Name x pos) (tVar i):=by
 intro π s σ H Q I h;obtain⟨v,e,h⟩:=h;obtain⟨m,hn,hl⟩:=I.loc;obtain⟨u,r,l⟩:=hl i x v hN e hv;have fin:EP X π σ Q u s:=⟨v,H,I,r,h⟩;rcases l with⟨hk,hm⟩|⟨hk,c,hc,hcell⟩
 · exact wpAny_Name (wpAny_loadName_local I.ok.kind hk hn hm fin) hd
 · rcases hk with hk|hk
   · exact wpAny_Name (wpAny_loadName_cell I.ok.kind hk hc hcell fin) hd
   · exact wpAny_Name (wpAny_loadName_free I.ok.kind hk hc hcell fin hcd) hd
theorem pe_int{i j pos}:PE X (.Constant (.int i) j pos) (tC (.int i)):=λ_ _ _ H _ I h=>wpAny_Constant_int ⟨.int i,H,I.tok _,⟨_,rfl⟩,h⟩
theorem pe_bl{b j pos}:PE X (.Constant (.bool b) j pos) (tC (.bl b)):=λ_ _ _ H _ I h=>Constant_bool ⟨.bl b,H,I,rfl,h⟩
theorem pe_non{j pos}:PE X (.Constant .none j pos) (tC .non):=λ_ _ _ H _ I h=>Constant_none ⟨.non,H,I,rfl,h⟩
def Gl(X:Cx)(x:Str):Prop:=X.env.kindOf x=some .globalImplicit
theorem XV{E:aC}{π:aB}{s:Shared}{σ:St}{H:Hp}{x:Str}{u:Value}{pos:Pos}{Q:aC}(I:Inv X π σ H s)(hg:Gl X x)(hm:X.mg x=some u)(h:Q u s)
  (hd:(x==("__debug__" : Str))=false:=by decide):wpAny (model X.prog X.w) X.A (eval (.Name x pos) X.env) Q E s :=
 Calls.Name_function_global I.ok.kind hg (Calls.loadGlobal_global (by rw[I.ok.glob];exact I.mod.glob.keeps I.bk) hm h) hd
theorem Bk{E:aC}{π:aB}{s:Shared}{σ:St}{H:Hp}{x:Str}{u:Value}{pos:Pos}{Q:aC}(I:Inv X π σ H s)(hg:Gl X x)(hm:X.mg x=none)(hv:bootBuiltins x=some u)(h:Q u s)
  (hn:x ≠ "__name__" := by decide) (hd:(x==("__debug__" : Str))=false:=by decide):wpAny (model X.prog X.w) X.A (eval (.Name x pos) X.env) Q E s:=by
 obtain⟨mb,h1,h2⟩:=I.mod.blt;exact Calls.Name_function_global I.ok.kind hg (Calls.loadGlobal_builtin (by rw[I.ok.glob];exact I.mod.glob.keeps I.bk) hm (by rw[I.ok.blt];exact h1.keeps I.bk) ((h2 x hn).trans hv) h) hd
theorem XW{x:Str}{v:V}{u:Value}{pos:Pos}(hg:Gl X x)(hm:X.mg x=some u)(r:RelV v u)(hd:(x==("__debug__" : Str))=false:=by decide):PE X (.Name x pos) (tC v) :=
 λ_ _ _ H _ I h=>XV I hg hm ⟨v,H,I,r,h⟩ hd
theorem z4V{x:Str}{v:V}{u:Value}{pos:Pos}(hg:Gl X x)(hm:X.mg x=none)(hv:bootBuiltins x=some u)(r:RelV v u)(hn:x ≠ "__name__" := by decide)(hd:(x==("__debug__" : Str))=false:=by decide):PE X (.Name x pos) (tC v) :=
 λ_ _ _ H _ I h=>Bk I hg hm hv ⟨v,H,I,r,h⟩ hn hd
variable {a b:Expr}{ta tb:TE}{pos:Pos}
def tB(t:TE):TT:=λσ H Q=>t σ H λx H1=>∃ c,x = .bl c/\Q c H1
variable {tA tB':TT}{rest:List Expr}
def tAnd(t u:TT):TT:=λσ H Q=>t σ H λc H1=>if c=true then u σ H1 Q else Q false H1
def tOr(t u:TT):TT:=λσ H Q=>t σ H λc H1=>if c=true then Q true H1 else u σ H1 Q
def tNot(t:TT):TT:=λσ H Q=>t σ H λc H1=>Q (!c) H1
theorem z4W(ha:PT X a tA):PW X (.BoolOp .And [a] pos) tA:=by
 intro wh π s σ H Q I h;refine isTrue_and (thn (ha π s σ H Q I h) λc s1 e=>?_);cases c with
 | true=>exact isTrue_and_nil e
 | false=>exact e
theorem pw_or1(ha:PT X a tA):PW X (.BoolOp .Or [a] pos) tA:=by
 intro wh π s σ H Q I h;refine isTrue_or (thn (ha π s σ H Q I h) λc s1 e=>?_);cases c with
 | false=>exact isTrue_or_nil e
 | true=>exact e
theorem pw_and(ha:PT X a tA)(hb:PW X (.BoolOp .And (b::rest) pos) tB'):PW X (.BoolOp .And (a::b::rest) pos) (tAnd tA tB'):=by
 intro wh π s σ H Q I h;refine isTrue_and (thn (ha π s σ H _ I h) ?_);rintro c s1 ⟨H1,I1,q1⟩;cases c with
 | true=>exact hb wh π s1 σ H1 Q I1 q1
 | false=>exact⟨H1,I1,q1⟩
theorem pw_or(ha:PT X a tA)(hb:PW X (.BoolOp .Or (b::rest) pos) tB'):PW X (.BoolOp .Or (a::b::rest) pos) (tOr tA tB'):=by
 intro wh π s σ H Q I h;refine isTrue_or (thn (ha π s σ H _ I h) ?_);rintro c s1 ⟨H1,I1,q1⟩;cases c with
 | true=>exact⟨H1,I1,q1⟩
 | false=>exact hb wh π s1 σ H1 Q I1 q1
theorem pt_not(ha:PT X a tA):PT X (.UnaryOp .Not a pos) (tNot tA):=by
 intro π s σ H Q I h;exact isTrue_not (ha π s σ H (λc H1=>Q (!c) H1) I h)
def tAndV(ta tb:TE):TE:=λσ H Q=>ta σ H λx H1=>∃ c,x = .bl c/\if c=true then tb σ H1 Q else Q (.bl false) H1
def tOrV(ta tb:TE):TE:=λσ H Q=>ta σ H λx H1=>∃ c,x = .bl c/\if c=true then Q (.bl true) H1 else tb σ H1 Q
def tNotV(ta:TE):TE:=λσ H Q=>ta σ H λx H1=>∃ c,x = .bl c/\Q (.bl (!c)) H1
theorem pe_one{op}{t:TE}(h:PE X a t):PE X (.BoolOp op [a] pos) t:=λπ s σ H Q I hw=>BoolOp_one (h π s σ H Q I hw)
theorem pe_and(ha:PE X a ta)(hb:PE X (.BoolOp .And (b::rest) pos) tb):PE X (.BoolOp .And (a::b::rest) pos) (tAndV ta tb):=by
 intro π s σ H Q I h;refine BoolOp_and (thn (ha π s σ H _ I h) ?_);rintro v s1 ⟨x,H1,I1,r1,q1⟩;obtain⟨c,rfl,q1⟩:=q1;cases r1;refine wpAny_truthy_bool ?_;cases c with
 | true=>exact hb π s1 σ H1 Q I1 q1
 | false=>exact⟨.bl false,H1,I1,rfl,q1⟩
theorem pe_or(ha:PE X a ta)(hb:PE X (.BoolOp .Or (b::rest) pos) tb):PE X (.BoolOp .Or (a::b::rest) pos) (tOrV ta tb):=by
 intro π s σ H Q I h;refine BoolOp_or (thn (ha π s σ H _ I h) ?_);rintro v s1 ⟨x,H1,I1,r1,q1⟩;obtain⟨c,rfl,q1⟩:=q1;cases r1;refine wpAny_truthy_bool ?_;cases c with
 | false=>exact hb π s1 σ H1 Q I1 q1
 | true=>exact⟨.bl true,H1,I1,rfl,q1⟩
theorem pe_not(ha:PE X a ta):PE X (.UnaryOp .Not a pos) (tNotV ta):=by
 intro π s σ H Q I h;refine UnaryOp_ (thn (ha π s σ H _ I h) ?_);rintro v s1 ⟨x,H1,I1,r1,q1⟩;obtain⟨c,rfl,q1⟩:=q1;cases r1;exact not_of (wpAny_truthy_bool ⟨.bl (!c),H1,I1,rfl,q1⟩)
def tIf(t:TT)(ta tb:TE):TE:=λσ H Q=>t σ H λc H1=>if c=true then ta σ H1 Q else tb σ H1 Q
theorem z0t{c:Expr}(hc:PT X c tA)(ha:PE X a ta)(hb:PE X b tb):PE X (.IfExp c a b pos) (tIf tA ta tb):=by
 intro π s σ H Q I h;refine wpAny_IfExp (thn (hc π s σ H _ I h) ?_);rintro d s1 ⟨H1,I1,q1⟩;cases d with
 | true=>exact ha π s1 σ H1 Q I1 q1
 | false=>exact hb π s1 σ H1 Q I1 q1
end
end L2
namespace L2
open PySem PySem.Spec PyProof.Rows
def SqL(K:aD)(H:Hp)(a:Addr)(xs:List V):Prop :=
 Rd H a (.lst xs) \/
  ∃(o:Obj) (its:Array Value) (n:Nat),K.lookup a=some o/\o.cls = .type "list" /\ o.dict=none/\o.data = .seq its n/\its.size<=sizeLine/\Vals xs its.toList
def SqT(K:aD)(H:Hp)(a:Addr)(xs:List V):Prop :=
 Rd H a (.tup xs) \/
  ∃(o:Obj) (its:Array Value) (n:Nat),K.lookup a=some o/\o.cls = .type "tuple" /\ o.data = .seq its n/\its.size<=sizeLine/\Vals xs its.toList
def absV:Value->Option V
 | .none=>some .non
 | .bool b=>some (.bl b)
 | .int i _=>some (.int i)
 | .str x _=>some (.str x)
 | .bytes b _=>some (.byt b)
 | .float b _=>some (.flt b)
 | .ref a=>some (.ref a)
 | .type n=>some (.ty n)
 | _=>none
theorem RelV.abs{x:V}{u:Value}(r:RelV x u):absV u=some x:=by
 cases x with
 | non=>cases r;rfl
 | bl _=>cases r;rfl
 | int _=>obtain⟨t,rfl⟩:=r;rfl
 | str _=>obtain⟨t,rfl⟩:=r;rfl
 | byt _=>obtain⟨t,rfl⟩:=r;rfl
 | flt _=>obtain⟨t,rfl⟩:=r;rfl
 | ref _=>cases r;rfl
 | ty _=>cases r;rfl
theorem RelV.inj{x y:V}{u:Value}(r:RelV x u)(q:RelV y u):x=y:=Option.some.inj (r.abs.symm.trans q.abs)
theorem Vals.inj:∀{xs ys:List V} {us:aF},Vals xs us->Vals ys us->xs=ys
 | _,_,_,.nil,.nil=>rfl
 | _,_,_,.cons r t,.cons r' t'=>by rw[r.inj r',Vals.inj t t']
section
variable {X:Cx}{π:aB}{σ:St}{H:Hp}{s:Shared}{a:Addr}{xs ys:List V}
theorem SqL.of{K:aD}(h:H a=some (.lst xs)):SqL K H a xs := .inl (.inl h)
theorem SqT.of{K:aD}(h:H a=some (.tup xs)):SqT K H a xs := .inl (.inl h)
theorem Inv.list(I:Inv X π σ H s)(h:SqL X.K H a xs):∃ its:aF,Vals xs its/\PlainL s.heap a its.toArray/\xs.length<=sizeLine:=by
 rcases h with h|⟨o,its,n,hk,hc,hd,hs,hz,r⟩
 · obtain⟨z,its,n,r,e⟩:=h.ok I.hok;exact⟨its,r,⟨_,n,e,rfl,rfl,rfl⟩,z⟩
 · refine⟨its.toList,r,⟨o,n,I.kIn a o hk,hc,hd,by simpa using hs⟩,?_⟩;have e:=r.length;simp only[Array.length_toList]at e;rfl'
theorem Inv.tuple(I:Inv X π σ H s)(h:SqT X.K H a xs):∃ its:aF,Vals xs its/\IsTup s.heap a its.toArray/\xs.length<=sizeLine:=by
 rcases h with h|⟨o,its,n,hk,hc,hs,hz,r⟩
 · obtain⟨z,its,r,p⟩:=h.ok I.hok;exact⟨its,r,p,z⟩
 · refine⟨its.toList,r,⟨o,I.kIn a o hk,hc,n,by simpa using hs⟩,?_⟩;have e:=r.length;simp only[Array.length_toList]at e;rfl'
theorem Inv.list_inj(I:Inv X π σ H s)(h:SqL X.K H a xs)(h':SqL X.K H a ys):xs=ys:=by
 obtain⟨its,r,⟨o,n,e,_,_,d⟩,_⟩:=I.list h;obtain⟨its',r',⟨o',n',e',_,_,d'⟩,_⟩:=I.list h';rw[e]at e';cases e';rw[d]at d';injection d' with d1 _
 have:its=its':=by simpa using congrArg Array.toList d1
 subst this;exact r.inj r'
theorem Inv.tuple_inj(I:Inv X π σ H s)(h:SqT X.K H a xs)(h':SqT X.K H a ys):xs=ys:=by
 obtain⟨its,r,⟨o,e,_,n,d⟩,_⟩:=I.tuple h;obtain⟨its',r',⟨o',e',_,n',d'⟩,_⟩:=I.tuple h';rw[e]at e';cases e';rw[d]at d';injection d' with d1 _
 have:its=its':=by simpa using congrArg Array.toList d1
 subst this;exact r.inj r'
end
abbrev Cx.wish(X:Cx)(E:aC):Cx:={ X with xe:=E }
abbrev Cx.nox(X:Cx):Cx:=X.wish λ_ _=>False
theorem Cx.Ok.wish{X:Cx}(ok:X.Ok)(E:aC):(X.wish E).Ok :=
 ⟨ok.mod,ok.kind,ok.glob,ok.blt,ok.above,ok.inj,ok.has,ok.cab,ok.hd,ok.frames,ok.stk,ok.exf,ok.bs,ok.bsz,ok.noex,ok.exfs,ok.funs,ok.frf⟩
theorem Cx.Ok.unwish{X:Cx}{E:aC}(ok:(X.wish E).Ok):X.Ok :=
 ⟨ok.mod,ok.kind,ok.glob,ok.blt,ok.above,ok.inj,ok.has,ok.cab,ok.hd,ok.frames,ok.stk,ok.exf,ok.bs,ok.bsz,ok.noex,ok.exfs,ok.funs,ok.frf⟩
section
variable {X:Cx}{π:aB}{σ:St}{H:Hp}{s:Shared}{E:aC}
theorem Inv.wish(I:Inv X π σ H s)(E:aC):Inv (X.wish E) π σ H s:=⟨I.ok.wish E,I.os,I.bare,I.base,I.loc,I.cell,I.free,I.freeC,I.pin,I.hok,I.len⟩
theorem Inv.unwish(I:Inv (X.wish E) π σ H s):Inv X π σ H s:=⟨I.ok.unwish,I.os,I.bare,I.base,I.loc,I.cell,I.free,I.freeC,I.pin,I.hok,I.len⟩
theorem SP.unwish{D:Ends}{f:Flow}{s':Shared}(h:SP (X.wish E) π D f s'):SP X π D f s':=by
 cases f with
 | next=>obtain⟨σ',H',I,q⟩:=h;exact⟨σ',H',I.unwish,q⟩
 | brk=>obtain⟨σ',H',I,q⟩:=h;exact⟨σ',H',I.unwish,q⟩
 | cont=>obtain⟨σ',H',I,q⟩:=h;exact⟨σ',H',I.unwish,q⟩
 | ret u=>obtain⟨v,σ',H',I,r,q⟩:=h;exact⟨v,σ',H',I.unwish,r,q⟩
theorem PSs.nox{st:List Stmt}{t:TS}(h:PSs X.nox st t):PSs X st t:=λπ s σ H D I hw =>
 wpAny_mono (h π s σ H D (I.wish _) hw) (λ_ _ q=>q.unwish) λ_ _ z=>False.elim z
end
section
variable {X:Cx}{st:Stmt}{rest:List Stmt}{t u:TS}{e:Expr}{te:TE}{pos:Pos}
def tNext:TS:=λD σ H=>D.nx σ H
def tSeq(t u:TS):TS:=λD σ H=>t { D with nx:=u D } σ H
theorem z4X:PSs X [] tNext:=λ_ _ σ H _ I h=>wpAny_execs_nil ⟨σ,H,I,h⟩
theorem z0u(h1:PS X st t)(h2:PSs X rest u):PSs X (st::rest) (tSeq t u):=by
 intro π s σ H D I h;refine wpAny_execs_cons (thn (h1 π s σ H { D with nx:=u D } I h) λf s1 q=>?_);cases f with
 | next =>
  obtain⟨σ',H',I',q⟩:=q;exact h2 π s1 σ' H' D I' q
 | ret v=>exact q
 | brk=>exact q
 | cont=>exact q
theorem z4Y(h1:PS X st t):PSs X [st] t:=by
 intro π s σ H D I h;refine wpAny_execs_cons (thn (h1 π s σ H D I h) λf s1 q=>?_);cases f with
 | next=>exact wpAny_execs_nil q
 | ret v=>exact q
 | brk=>exact q
 | cont=>exact q
theorem Inv.quiet{π:aB}{σ:St}{H:Hp}{s:Shared}(I:Inv X π σ H s):interactive X.env=false:=by simp[interactive,I.ok.kind]
def tDrop(te:TE):TS:=λD σ H=>te σ H λ_ H1=>D.nx σ H1
theorem Nt(he:PE X e te)(hs:swapsWith e none pos.line X.env=pure false:=by rfl):PS X (.Expr e pos) (tDrop te):=by
 intro π s σ H D I h;exact wpAny_Expr_any (thn (he π s σ H _ I h) λv s1⟨x,H1,I1,r1,q1⟩=>⟨σ,H1,I1,q1⟩) I.quiet hs
def tRet(te:TE):TS:=λD σ H=>te σ H D.rt
theorem ps_ret(he:PE X e te):PS X (.Return (some e) pos) (tRet te):=by
 intro π s σ H D I h;exact wpAny_Return_some (thn (he π s σ H _ I h) λv s1⟨x,H1,I1,r1,q1⟩=>⟨x,σ,H1,I1,r1,q1⟩)
def tIfS(c:TT)(t u:TS):TS:=λD σ H=>c σ H λb H1=>if b=true then t D σ H1 else u D σ H1
theorem ps_if{c:Expr}{a b:List Stmt}{tc:TT}(hc:PT X c tc)(ha:PSs X a t)(hb:PSs X b u):PS X (.If c a b pos) (tIfS tc t u):=by
 intro π s σ H D I h;refine wpAny_If (thn (hc π s σ H _ I h) ?_);rintro d s1 ⟨H1,I1,q1⟩;cases d with
 | true=>exact ha π s1 σ H1 D I1 q1
 | false=>exact hb π s1 σ H1 D I1 q1
end
abbrev TG:=V->St->Hp->(St->Hp->Prop)->Prop
abbrev TGs:=List V->St->Hp->(St->Hp->Prop)->Prop
def PG(X:Cx)(target:Expr)(t:TG):Prop :=
 ∀(π:aB) (s:Shared) (σ:St) (H:Hp) (v:V) (u:Value) (Q:St->Hp->Prop),Inv X π σ H s->RelV v u->t v σ H Q ->
  wpAny (model X.prog X.w) X.A (assign target X.env u) (λ_ s'=>∃ σ' H',Inv X π σ' H' s'/\Q σ' H') X.xe s
def PGs(X:Cx)(ts:List Expr)(t:TGs):Prop :=
 ∀(π:aB) (s:Shared) (σ:St) (H:Hp) (vs:List V) (us:aF) (Q:St->Hp->Prop),Inv X π σ H s->Vals vs us->t vs σ H Q ->
  wpAny (model X.prog X.w) X.A (assignInOrder ((assignEach ts X.env).map (·.2)) us) (λ_ s'=>∃ σ' H',Inv X π σ' H' s'/\Q σ' H') X.xe s
abbrev TSet:=V->V->V->Hp->(Hp->Prop)->Prop
def PSet(X:Cx)(t:TSet):Prop :=
 ∀(π:aB) (s:Shared) (σ:St) (H:Hp) (o i v:V) (ov iv u:Value) (Q:Hp->Prop),Inv X π σ H s->RelV o ov->RelV i iv->RelV v u->t o i v H Q ->
  wpAny (model X.prog X.w) X.A (setItem ov iv u) (λ_ s'=>∃ H',Inv X π σ H' s'/\Q H') X.xe s
section
variable {X:Cx}{pos:Pos}
def Jb(i:Nat):TG:=λv σ H Q=>Q (σ.set i (some v)) H
theorem A4{i:Nat}{x:Str}(hN:X.N.Nodup)(hi:X.N[i]?=some x)(hx:Loc X.env.scope x)(hf:X.fn x=true\/X.env.scope.names.lookup x=some .local:=by first|exact .inl rfl|exact .inr rfl|assumption):PG X (.Name x pos) (Jb i):=by
 intro π s σ H v u Q I r h;exact wpAny_assign_Name (OK I hN hi hx r (λs' I'=>⟨_,H,I',h⟩) hf)
def gNil:TGs:=λvs σ H Q=>vs=[]/\Q σ H
def gCons(t:TG)(u:TGs):TGs:=λvs σ H Q=>∃ v r,vs=v::r/\t v σ H λσ' H'=>u r σ' H' Q
theorem z4Z:PGs X [] gNil:=by
 intro π s σ H vs us Q I r h;obtain⟨e,h⟩:=h;subst e;cases r;exact assignInOrder_nil ⟨σ,H,I,h⟩
theorem z0v{e:Expr}{es:List Expr}{t:TG}{u:TGs}(h1:PG X e t)(h2:PGs X es u)
  (hs:(assignEach (e::es) X.env).map (·.2)=assign e X.env::(assignEach es X.env).map (·.2):=by rfl):PGs X (e::es) (gCons t u):=by
 intro π s σ H vs us Q I r h;obtain⟨v,vr,e1,h⟩:=h;subst e1;cases r with
 | cons r rr =>
  rw[hs];refine assignInOrder_cons (thn (h1 π s σ H _ _ _ I r h) ?_);rintro _ s1 ⟨σ1,H1,I1,q1⟩;exact h2 π s1 σ1 H1 _ _ Q I1 rr q1
def gTup(K:aD)(n:Nat)(t:TGs):TG:=λv σ H Q=>∃ a xs,v = .ref a/\SqT K H a xs/\xs.length=n/\t xs σ H Q
theorem pg_tup{es:List Expr}{k:Nat}{t:TGs}{n:Nat}(hc:X.calm=true)(h:PGs X es t)
  (hn:(assignEach es X.env).length=n:=by rfl) (hst:(assignEach es X.env).findIdx? (·.1)=none:=by rfl):PG X (.Tuple es k pos) (gTup X.K n t):=by
 intro π s σ H v u Q I r hw;obtain⟨a,xs,e1,hq,hl,hw⟩:=hw;subst e1;cases r;obtain⟨its,rv,ht,hz⟩:=I.tuple hq;refine assign_Tuple_tuple (I.ok.hd hc) ht (by simp[hn,←hl,rv.length]) hst λh' hx=>?_;have I1:Inv X π σ H { s with heap:=h' }:=I.kept (t':=s.toks) λb o e=>hx b o (wU (wt e)) e;exact h π _ σ H xs _ Q I1 (by simpa using rv) hw
def gSub(to ti:TE)(t:TSet):TG:=λv σ H Q=>to σ H λo H1=>ti σ H1 λi H2=>t o i v H2 λH3=>Q σ H3
theorem pg_sub{o i:Expr}{to ti:TE}{t:TSet}(ho:PE X o to)(hi:PE X i ti)(hs:PSet X t)
  (ha:∀ v,assign (.Subscript o i pos) X.env v=(do
   let ov ←holding [v] (eval o X.env);let iv ←holding [v,ov] (eval i X.env)
   standAt pos
   holding [v,ov,iv] (setItem ov iv v)
   release [v,ov,iv] []):=by intro _;rfl):PG X (.Subscript o i pos) (gSub to ti t):=by
 intro π s σ H v u Q I r h;rw[ha];refine wpAny_bind (wpAny_holding (thn (ho π s σ H _ I h) ?_));rintro ov s1 ⟨x,H1,I1,r1,q1⟩;refine wpAny_bind (wpAny_holding (thn (hi π s1 σ H1 _ I1 q1) ?_));rintro iv s2 ⟨y,H2,I2,r2,q2⟩;refine wpAny_bind (wpAny_standAt (wpAny_bind (wpAny_holding (thn (hs π s2 σ H2 x y v ov iv u _ I2 r1 r2 r q2) ?_))));rintro _ s3 ⟨H3,I3,q3⟩;exact wpAny_release ⟨σ,H3,I3,q3⟩
def tAsg(te:TE)(g:TG):TS:=λD σ H=>te σ H λx H1=>g x σ H1 D.nx
theorem ps_asg{tg e:Expr}{te:TE}{g:TG}(he:PE X e te)(hg:PG X tg g)(hs:swapsWithSole [tg] e pos.line X.env=pure false:=by rfl)(hw:swappedStores [tg] e X.env=pure none:=by rfl)
  (h1:(assignEach [tg] X.env).map (·.2)=[assign tg X.env]:=by rfl):PS X (.Assign [tg] e pos) (tAsg te g):=by
 intro π s σ H D I h;refine wpAny_Assign_stores (thn (he π s σ H _ I h) λv s1⟨x,H1,I1,r1,q1⟩=>?_) hs hw;rw[h1];exact thn (hg π s1 σ H1 x v _ I1 r1 q1) λ_ s2 q=>q
theorem ps_set{i:Nat}{x:Str}{e:Expr}{te:TE}{pos':Pos}(hN:X.N.Nodup)(hi:X.N[i]?=some x)(hx:Loc X.env.scope x)(he:PE X e te)(hs:swapsWith e (some (.Name x pos')) pos.line X.env=pure false:=by rfl)(hf:X.fn x=true\/X.env.scope.names.lookup x=some .local:=by first|exact .inl rfl|exact .inr rfl|assumption):
  PS X (.Assign [.Name x pos'] e pos) (tAsg te (Jb i)):=by
 intro π s σ H D I h;refine wpAny_Assign_Name (thn (he π s σ H _ I h) λv s1⟨y,H1,I1,r1,q1⟩=>?_) hs;exact OK I1 hN hi hx r1 (λs2 I2=>⟨_,H1,I2,q1⟩) hf
end
section
variable {X:Cx}{pos:Pos}
def tWhile(c:TT)(tb:TS):TS:=λD σ H=>∃ W:Nat->St->Hp->Prop,(∃ m,W m σ H)/\∀ m σ H,W m σ H ->
 c σ H λb H1=>if b=true then ∃ N:St->Hp->Prop,(∀ σ' H',N σ' H'->∃ m',m'<m/\W m' σ' H')/\tb { D with nx:=N,ct:=N,bk:=D.nx } σ H1 else D.nx σ H1
theorem z0w{c:Expr}{body:List Stmt}{tc:TT}{tb:TS}(hp:PassesOwn (model X.prog X.w) X.A X.env X.xe)(hc:PT X c tc)(hb:PSs X body tb):PS X (.While c body [] pos) (tWhile tc tb):=by
 intro π s σ H D I h;obtain⟨W,⟨m0,w0⟩,turn⟩:=h;refine wpAny_While (codeAny_whileLoop (λn s'=>∃ σ' H',Inv X π σ' H' s'/\W n σ' H') ?_ m0 ⟨σ,H,I,w0⟩);rintro n s1 ⟨σ1,H1,I1,w1⟩;refine wpAny_passesOwn hp (thn (hc π s1 σ1 H1 _ I1 (turn n σ1 H1 w1)) ?_);rintro b s2 ⟨H2,I2,q2⟩;cases b with
 | true =>
  obtain⟨N,hN,q2⟩:=q2;rw[if_pos rfl];refine wpAny_passesOwn hp (thn (hb π s2 σ1 H2 _ I2 q2) λf s3 q3=>?_);cases f with
  | next =>
   obtain⟨σ3,H3,I3,n3⟩:=q3;obtain⟨m',hm,w3⟩:=hN σ3 H3 n3;exact⟨m',hm,σ3,H3,I3,w3⟩
  | cont =>
   obtain⟨σ3,H3,I3,n3⟩:=q3;obtain⟨m',hm,w3⟩:=hN σ3 H3 n3;exact⟨m',hm,σ3,H3,I3,w3⟩
  | brk=>exact q3
  | ret v=>exact q3
 | false =>
  rw[if_neg wN];exact wpAny_execs_nil ⟨σ1,H2,I2,q2⟩
end
structure It where
 go:Nat->Hp->Prop
 yld:Nat->Hp->V->Hp->Prop
 stop:Nat->Hp->Prop
def FpOk(X:Cx)(π:aB)(H:Hp)(b:Addr):Prop :=
 H b=none/\b≠X.env.locals/\b ∉ X.fs/\(b∈X.ex\/X.s₀.heap.objs.size<=b)/\(∀ x c,X.env.cells.lookup x=some c->c≠b)/\∀ p∈X.pn++π,p.1≠b
theorem Inv.fpOk{X:Cx}{π:aB}{σ:St}{H H':Hp}{s:Shared}{b:Addr}(I:Inv X π σ H s)(hb:s.heap.objs.size<=b)(hn:H' b=none):FpOk X π H' b:=by
 refine⟨hn,uI (wB I.lt hb),I.nofs hb,.inr (wG I.sz hb),λx c e z=>?_,λp hp z=>?_⟩
 · obtain⟨v,q⟩:=I.cell x c e;exact absurd (wB q.lt (by rw[z];exact hb)) (vB _)
 · exact absurd (wB (wt (I.pin p hp).1) (by rw[z];exact hb)) (vB _)
structure Turn(P:Program)(w:World)(K:aD)(tg:Expr)(J:It)(fp:List Addr)(it:Addr)(tn:Nat->Heap->Prop):Prop where
 mem:it∈fp
 obj:∀ i h,tn i h->∀ b∈fp,∃ o,h.get? b=some o/\∀ v,o.data ≠ .cell v
 keep:∀ i h h',tn i h->(∀ b∈fp,∀ o,h.get? b=some o->h'.get? b=some o)->tn i h'
 item:∀(X:Cx),X.prog=P->X.w=w->X.K=K->X.calm=true->∀(i:Nat) (π:aB) (s:Shared) (σ:St) (H:Hp) (E:aC),Inv X π σ H s->(∀ b∈fp,FpOk X π H b)->tn i s.heap->J.go i H ->
  wpAny (model P w) X.A (pyNext (.ref it)) (λr s1=>∃ u,r=some u /\
   wpAny (model P w) X.A (letOwnedTupleGo tg (.ref it) u) (λ_ s2=>∃ x H',Inv X π σ H' s2/\RelV x u/\J.yld i H x H'/\tn (i+1) s2.heap/\∀ b∈fp,H' b=none) E s1) E s
 done:∀(X:Cx),X.prog=P->X.w=w->X.K=K->X.calm=true->∀(i:Nat) (π:aB) (s:Shared) (σ:St) (H:Hp) (E:aC),Inv X π σ H s->(∀ b∈fp,FpOk X π H b)->tn i s.heap->J.stop i H ->
  wpAny (model P w) X.A (pyNext (.ref it)) (λr s1=>r=none/\Inv X π σ H s1) E s
 self:∀(A:Around) (i:Nat) (s:Shared) (Q:aC) (E:aC),tn i s.heap->Q (.ref it) s->wpAny (model P w) A (pyIter (.ref it)) Q E s
abbrev TI:=St->Hp->(It->Hp->Prop)->Prop
def PIE(X:Cx)(π:aB)(σ:St)(tg:Expr)(R:It->Hp->Prop)(itv:Value)(s2:Shared):Prop :=
 ∃(it:Addr) (fp:List Addr) (tn:Nat->Heap->Prop) (J:It) (H':Hp),itv = .ref it/\Inv X π σ H' s2/\Turn X.prog X.w X.K tg J fp it tn/\tn 0 s2.heap/\(∀ b∈fp,FpOk X π H' b)/\R J H'
def PI(X:Cx)(tg iter:Expr)(wi:TI):Prop :=
 ∀(π:aB) (s:Shared) (σ:St) (H:Hp) (R:It->Hp->Prop),Inv X π σ H s->wi σ H R ->
  wpAny (model X.prog X.w) X.A (eval iter X.env) (λv s1=>wpAny (model X.prog X.w) X.A (pyIter v) (PIE X π σ tg R) X.xe s1) X.xe s
theorem XX{M:Model}{A:Around}{E:Value→Shared→Prop}{s:Shared}{tg:Expr}{it:Addr}{u:Value}{o:Obj}{n:String}{vs:Array Value}{Q:Unit→Shared→Prop}(ho:s.heap.get? it=some o)(hc:o.cls = .type n)(hd:o.data = .fields vs)
    (hn:["enumerate", "zip", "dict_itemiterator", "dict_reverseitemiterator", "odict_iterator", "itertools.zip_longest", "itertools.pairwise"].contains n=false) (hQ:Q () s):wpAny M A (letOwnedTupleGo tg (.ref it) u) Q E s:=by
  unfold letOwnedTupleGo
  cases tg<;>first
    | exact wpAny_pure hQ
    | (cases u<;>first
        | exact wpAny_pure hQ
        | (refine wpAny_bind (wpAny_load ho ?_)
           rw[hc,hd];show wpAny M A (if(["enumerate", "zip", "dict_itemiterator", "dict_reverseitemiterator", "odict_iterator", "itertools.zip_longest", "itertools.pairwise"].contains n&&vs[0]?==some (rawInt _))=true then _ else _) Q E s;rw[if_neg (by intro h;rw[hn,Bool.false_and]at h;cases h)];exact wpAny_pure hQ))
def Itl(K:aD)(a:Addr):It :=
 ⟨λi H=>∃ xs x,SqL K H a xs/\xs[i]?=some x,λi H x H'=>H'=H/\∀ xs,SqL K H a xs->xs[i]?=some x,λi H=>∃ xs,SqL K H a xs/\xs.length<=i⟩
def Itt(K:aD)(a:Addr):It :=
 ⟨λi H=>∃ xs x,SqT K H a xs/\xs[i]?=some x,λi H x H'=>H'=H/\∀ xs,SqT K H a xs->xs[i]?=some x,λi H=>∃ xs,SqT K H a xs/\xs.length<=i⟩
def Itr(lo:Int)(n:Nat):It:=⟨λi _=>i<n,λi H x H'=>H'=H/\x = .int (lo+i),λi _=>n<=i⟩
theorem Zo{P:Program}{w:World}{K:aD}{tg:Expr}(a it:Addr):Turn P w K tg (Itl K a) [it] it (λi h=>h.IsListIter it a i) where
 mem:=by simp
 obj:=λi h st b hb=>by
  have e:b=it:=by simpa using hb
  subst e;obtain⟨o,e,c,d⟩:=st;exact⟨o,e,λv z=>by rw[d]at z;cases z⟩
 keep:=λi h h' st k=>st.at λo e=>k it (by simp) o e
 item:=by
  intro X hP hw hK hc i π s σ H E I hf st hg;subst hP hw hK;obtain⟨xs,x,hq,hx⟩:=hg;obtain⟨its,rv,p,hz⟩:=I.list hq;obtain⟨u,hu,ru⟩:=rv.get hx;obtain⟨f0,f1,f2,f3,f4,f5⟩:=hf it (by simp);refine wpAny_pyNext_list_item st p.isList (x:=u) (by simpa using hu) λh' st' sb=>?_;have I1:Inv X π σ H { s with heap:=h' }:=I.turned (t':=s.toks) (λb o hb e=>(sb.2 b hb).trans e) f0 f1 f3 f4 f5;obtain⟨o,e,c,d⟩:=id st';exact⟨u,rfl,XX (s:={ s with heap:=h' }) e c d (by decide) ⟨x,H,I1,ru,⟨rfl,λys hy=>by rw[I.list_inj hy hq];exact hx⟩,st',λb hb=>(hf b hb).1⟩⟩
 done:=by
  intro X hP hw hK hc i π s σ H E I hf st hg;subst hP hw hK;obtain⟨xs,hq,hx⟩:=hg;obtain⟨its,rv,p,hz⟩:=I.list hq;obtain⟨f0,f1,f2,f3,f4,f5⟩:=hf it (by simp);have hl:=rv.length;exact wpAny_pyNext_list_end (I.ok.hd hc) st p.isList (by simp;rfl') λh' eb=>⟨rfl,I.turned (t':=s.toks) (λb o hb e=>eb b o hb e) f0 f1 f3 f4 f5⟩
 self:=λ_ _ _ _ _ st h=>wpAny_pyIter_listiter st h
theorem QY{P:Program}{w:World}{K:aD}{tg:Expr}(a it:Addr):Turn P w K tg (Itt K a) [it] it (λi h=>h.IsTupleIter it a i) where
 mem:=by simp
 obj:=λi h st b hb=>by
  have e:b=it:=by simpa using hb
  subst e;obtain⟨o,e,c,d⟩:=st;exact⟨o,e,λv z=>by rw[d]at z;cases z⟩
 keep:=λi h h' st k=>st.at λo e=>k it (by simp) o e
 item:=by
  intro X hP hw hK hc i π s σ H E I hf st hg;subst hP hw hK;obtain⟨xs,x,hq,hx⟩:=hg;obtain⟨its,rv,p,hz⟩:=I.tuple hq;obtain⟨u,hu,ru⟩:=rv.get hx;obtain⟨f0,f1,f2,f3,f4,f5⟩:=hf it (by simp);refine wpAny_pyNext_tuple_item st (show s.heap.IsTuple a its.toArray from p) (x:=u) (by simpa using hu) λh' st' sb=>?_;have I1:Inv X π σ H { s with heap:=h' }:=I.turned (t':=s.toks) (λb o hb e=>(sb.2 b hb).trans e) f0 f1 f3 f4 f5;obtain⟨o,e,c,d⟩:=id st';exact⟨u,rfl,XX (s:={ s with heap:=h' }) e c d (by decide) ⟨x,H,I1,ru,⟨rfl,λys hy=>by rw[I.tuple_inj hy hq];exact hx⟩,st',λb hb=>(hf b hb).1⟩⟩
 done:=by
  intro X hP hw hK hc i π s σ H E I hf st hg;subst hP hw hK;obtain⟨xs,hq,hx⟩:=hg;obtain⟨its,rv,p,hz⟩:=I.tuple hq;obtain⟨f0,f1,f2,f3,f4,f5⟩:=hf it (by simp);have hl:=rv.length;exact wpAny_pyNext_tuple_end (I.ok.hd hc) st (show s.heap.IsTuple a its.toArray from p) (by simp;rfl') λh' eb=>⟨rfl,I.turned (t':=s.toks) (λb o hb e=>eb b o hb e) f0 f1 f3 f4 f5⟩
 self:=λ_ _ _ _ _ st h=>wpAny_pyIter_tupleiter st h
theorem QZ{P:Program}{w:World}{K:aD}{tg:Expr}(it:Addr)(lo:Int)(n:Nat):Turn P w K tg (Itr lo n) [it] it (λi h=>IsRangeIter h it (lo+(i:Nat)*1) ((n:Int)-(i:Nat)) 1) where
 mem:=by simp
 obj:=λi h st b hb=>by
  have e:b=it:=by simpa using hb
  subst e;exact⟨_,st,λv z=>by
   have z':Data.fields _=Data.cell v:=z;cases z'⟩
 keep:=λi h h' st k=>k it (by simp) _ st
 item:=by
  intro X hP hw hK hc i π s σ H E I hf st hg;subst hP hw hK;obtain⟨f0,f1,f2,f3,f4,f5⟩:=hf it (by simp);have W:=Walks.range (prog:=X.prog) (w:=X.w) (I.ok.hd hc) it lo 1 n;refine W.item i s _ _ hg st λv h' tk hv st' kk=>?_;obtain⟨t,rfl⟩:=hv;have I1:Inv X π σ H { s with heap:=h',toks:=tk }:=I.turned (λb o hb e=>kk b o (by simpa using hb) e) f0 f1 f3 f4 f5;refine⟨_,rfl,XX (s:={ s with heap:=h',toks:=tk }) (n := "range_iterator") st' rfl rfl (by decide) ⟨.int (lo+i),H,I1,⟨t,?_⟩,⟨rfl,rfl⟩,st',λb hb=>(hf b hb).1⟩⟩;rw[Int.mul_one]
 done:=by
  intro X hP hw hK hc i π s σ H E I hf st hg;subst hP hw hK;obtain⟨f0,f1,f2,f3,f4,f5⟩:=hf it (by simp);exact wpAny_pyNext_range_end (I.ok.hd hc) st (by have:n<=i:=hg;rfl') λh' eb=>⟨rfl,I.turned (t':=s.toks) (λb o hb e=>eb b o hb e) f0 f1 f3 f4 f5⟩
 self:=λ_ _ _ _ _ st h=>wpAny_pyIter_rangeiter st h
end L2
namespace L2
open PySem PySem.Spec PyProof.Rows
section
variable {X:Cx}{tg:Expr}
theorem OL{π:aB}{σ:St}{H:Hp}{s:Shared}{R:It->Hp->Prop}{E:aC}{lo hi:Int}{t u v:Tok}{tk:Nat}(I:Inv X π σ H s)(h1 : -(2 ^ 62)<=lo)(h2:lo<2 ^ 62)(h3 : -(2 ^ 62)<=hi)(h4:hi<2 ^ 62)
   (q:R (Itr lo (hi-lo).toNat) H):wpAny (model X.prog X.w) X.A (pyIter (.ref s.heap.objs.size)) (PIE X π σ tg R) E { s with heap:=s.heap.push { cls := .type "range",data := .fields #[.int lo t,.int hi u,.int 1 v] },toks:=tk }:=by
 refine wpAny_pyIter_range (IsRange.new ..) (small_one h1 h2 h3 h4) ?_;have I1:Inv X π σ H { s with heap:=s.heap.push { cls := .type "range",data := .fields #[.int lo t,.int hi u,.int 1 v] },toks:=tk }:=I.kept λb o e=>wf _ e;refine⟨(s.heap.push { cls := .type "range",data := .fields #[.int lo t,.int hi u,.int 1 v] }).objs.size,[(s.heap.push { cls := .type "range",data := .fields #[.int lo t,.int hi u,.int 1 v] }).objs.size],_,_,H,rfl,
   I1.kept (t':=tk) λb o e=>wf _ e,QZ _ lo (hi-lo).toNat,?_,λb hb=>?_,q⟩
 · have e1:lo+((0:Nat):Int)*1=lo:=by simp
   have e2:(((hi-lo).toNat:Nat):Int)-((0:Nat):Int)=Builtin.Range.rangeSize lo hi 1:=by rw[rangeSize_one];split<;>rfl'
   show IsRangeIter _ _ (lo+((0:Nat):Int)*1) ((((hi-lo).toNat:Nat):Int)-((0:Nat):Int)) 1;rw[e1,e2];exact wD _ rfl
 · have e:b=(s.heap.push { cls := .type "range",data := .fields #[.int lo t,.int hi u,.int 1 v] }).objs.size:=by simpa using hb
   subst e;exact I1.fpOk (wu _) (I1.hok.fresh (wu _))
def iRng1(ta:TA):TI:=λσ H R=>ta σ H λvs H1=>∃ j:Int,vs=[.int j] /\ -(2 ^ 62)<=j/\j<2 ^ 62/\R (Itr 0 j.toNat) H1
def iRng2(ta:TA):TI:=λσ H R=>ta σ H λvs H1=>∃ i j:Int,vs=[.int i,.int j]/\(-(2 ^ 62)<=i/\i<2 ^ 62 /\ -(2 ^ 62)<=j/\j<2 ^ 62)/\R (Itr i (j-i).toNat) H1
theorem Lq{a:Expr}{ta:TA}{p pos:Pos}(hg:Gl X "range")(hm:X.mg "range" = none)(ha:PA X [a] ta)(hs:starEach [a] X.env=[(false,eval a X.env)]:=by rfl):PI X tg (.Call (.Name "range" p) [a] [] pos) (iRng1 ta):=by
 intro π s σ H R I h;refine Call_ (Bk I hg hm boot_range (PyProof.Rows.callWith_type1 (thn (ha pos π s σ H _ I h) λus s1⟨vs,H1,I1,r1,q1⟩=>?_) hs rfl));obtain⟨j,e,q1,q2,q⟩:=q1;subst e;cases r1 with
 | cons r rr =>
  cases rr;obtain⟨t,rfl⟩:=r;exact call_range_1 (OL I1 (by rfl') (by rfl') q1 q2 (by simpa using q))
theorem Zp{a b:Expr}{ta:TA}{p pos:Pos}(hg:Gl X "range")(hm:X.mg "range" = none)(ha:PA X [a,b] ta)(hs:starEach [a,b] X.env=[(false,eval a X.env),(false,eval b X.env)]:=by rfl)(hs2:starEach [b] X.env=[(false,eval b X.env)]:=by rfl):
  PI X tg (.Call (.Name "range" p) [a,b] [] pos) (iRng2 ta):=by
 intro π s σ H R I h;refine Call_ (Bk I hg hm boot_range (PyProof.Rows.callWith_type1 (thn (ha pos π s σ H _ I h) λus s1⟨vs,H1,I1,r1,q1⟩=>?_) (by rw[hs,hs2]) (by rw[hs2];rfl)));obtain⟨i,j,e,⟨q1,q2,q3,q4⟩,q⟩:=q1;subst e;cases r1 with
 | cons r rr =>
  cases rr with
  | cons r' rr =>
   cases rr;obtain⟨t,rfl⟩:=r;obtain⟨t',rfl⟩:=r';exact call_range_2 (OL I1 q1 q2 q3 q4 q)
def tFor(wi:TI)(g:TG)(tb:TS):TS:=λD σ H=>wi σ H λJ H1=>∃ W:Nat->Nat->St->Hp->Prop,(∃ m,W 0 m σ H1)/\∀ i m σ H,W i m σ H ->
 (J.stop i H/\D.nx σ H)\/(J.go i H/\∃ N:St->Hp->Prop,(∀ σ' H',N σ' H'->∃ m',m'<m/\W (i+1) m' σ' H')/\∀ x H',J.yld i H x H'->g x σ H' λσ2 H2=>tb { D with nx:=N,ct:=N,bk:=D.nx } σ2 H2)
def Jc(fp:List Addr)(h:Heap):aB:=fp.filterMap λb=>(h.get? b).map λo=>(b,o)
theorem Bl{fp:List Addr}{h:Heap}{b:Addr}{o:Obj}(hb:b∈fp)(e:h.get? b=some o):(b,o)∈Jc fp h:=vU.mpr ⟨b,hb,by rw[e];rfl⟩
theorem Zq{fp:List Addr}{h:Heap}{p:Addr×Obj}(hp:p∈Jc fp h):p.1∈fp/\h.get? p.1=some p.2:=by
 obtain⟨b,hb,e⟩:=vU.mp hp;cases q:h.get? b with
 | none=>rw[q]at e;cases e
 | some o =>
  rw[q]at e;have e':(b,o)=p:=Option.some.inj e;subst e';exact⟨hb,q⟩
theorem Inv.pinned{π:aB}{σ:St}{H:Hp}{s:Shared}{fp:List Addr}(I:Inv X π σ H s)(hf:∀ b∈fp,FpOk X π H b)(ho:∀ b∈fp,∃ o,s.heap.get? b=some o/\∀ v,o.data ≠ .cell v):Inv X (π++Jc fp s.heap) σ H s :=
 I.pins_of λp hp=>(wo.mp hp).elim (λz=>I.pin p (wI _ z)) λz=>by
  obtain⟨hb,e⟩:=Zq z;obtain⟨f0,f1,f2,_⟩:=hf p.1 hb;obtain⟨o,e',d⟩:=ho p.1 hb;rw[e]at e';cases e';exact⟨e,f0,f1,f2,d⟩
theorem Inv.unpinned{π pl:aB}{σ:St}{H:Hp}{s:Shared}(I:Inv X (π++pl) σ H s):Inv X π σ H s:=I.pins_of λp hp=>I.pin p (wI _ (uo _ hp))
theorem z0x{iter:Expr}{body:List Stmt}{wi:TI}{g:TG}{tb:TS}{pos:Pos}(hp:PassesOwn (model X.prog X.w) X.A X.env X.xe)(hc:X.calm=true)(hi:PI X tg iter wi)(hg:PG X tg g)(hb:PSs X body tb)
   (hs:∀ x,foldedSetIterable iter X.env x=pure x:=by intro _;rfl):PS X (.For tg iter body [] pos) (tFor wi g tb):=by
 intro π s σ H D I h;refine wpAny_For (thn (hi π s σ H _ I h) λv s1 h1=>thn h1 λitv s2 h2=>?_) hs;obtain⟨it,fp,tn,J,H2,e,I2,T,st2,f2,W,⟨m0,w0⟩,turn⟩:=h2;subst e;have stat:∀{H':Hp},(∀ b∈fp,H' b=none)->∀ b∈fp,FpOk X π H' b:=λhn b hb=>⟨hn b hb,(f2 b hb).2⟩;refine codeAny_forLoop_any (λn s'=>∃ i σ' H',Inv X π σ' H' s'/\tn i s'.heap/\(∀ b∈fp,H' b=none)/\W i n σ' H') ?_ m0 ⟨0,σ,H2,I2,st2,λb hb=>(f2 b hb).1,w0⟩;rintro n s3 ⟨i,σ3,H3,I3,st3,fr3,w3⟩;rcases turn i n σ3 H3 w3 with⟨stop,qn⟩|⟨go,N,hN,step⟩
 · refine wpAny_passesOwn hp (thn (T.done X rfl rfl rfl hc i π s3 σ3 H3 X.xe I3 (stat fr3) st3 stop) ?_);rintro r s4 ⟨hr,I4⟩;subst hr;exact wpAny_execs_nil ⟨σ3,H3,I4,qn⟩
 · refine wpAny_passesOwn hp (thn (T.item X rfl rfl rfl hc i π s3 σ3 H3 X.xe I3 (stat fr3) st3 go) ?_);rintro r s4 ⟨u,hr,h4⟩;subst hr;refine wpAny_passesOwn hp (thn h4 ?_);rintro _ s5 ⟨x,H5,I5,r5,y5,st5,fr5⟩;have I5':=I5.pinned (stat fr5) (T.obj _ _ st5);refine wpAny_passesOwn hp (thn (hg _ s5 σ3 H5 x u _ I5' r5 (step x H5 y5)) ?_);rintro _ s6 ⟨σ6,H6,I6,q6⟩;refine wpAny_passesOwn hp (thn (hb _ s6 σ6 H6 _ I6 q6) λf s7 q7=>?_);have again:∀{σ7:St} {H7:Hp},Inv X (π++Jc fp s5.heap) σ7 H7 s7->N σ7 H7->∃ m,m<n/\∃ i σ' H',Inv X π σ' H' s7/\tn i s7.heap/\(∀ b∈fp,H' b=none)/\W i m σ' H':=λ{σ7 H7} I7 n7=>by
    obtain⟨m',hm,w7⟩:=hN σ7 H7 n7;refine⟨m',hm,i+1,σ7,H7,I7.unpinned,T.keep _ _ _ st5 λb hb o e=>(I7.pin (b,o) (wI _ (wI _ (Bl hb e)))).1,λb hb=>?_,w7⟩;obtain⟨o,e,d⟩:=T.obj _ _ st5 b hb;exact(I7.pin (b,o) (wI _ (wI _ (Bl hb e)))).2.1
   cases f with
   | next=>obtain⟨σ7,H7,I7,n7⟩:=q7;exact again I7 n7
   | cont=>obtain⟨σ7,H7,I7,n7⟩:=q7;exact again I7 n7
   | brk=>obtain⟨σ7,H7,I7,q7⟩:=q7;exact⟨σ7,H7,I7.unpinned,q7⟩
   | ret v=>obtain⟨x7,σ7,H7,I7,r7,q7⟩:=q7;exact⟨x7,σ7,H7,I7.unpinned,r7,q7⟩
end
end L2
namespace L2
open PySem PySem.Spec PyProof.Rows
abbrev R2:=V->V->Hp->VK->Prop
def OpR(X:Cx)(f:Value->Value->Sem Value)(r:R2):Prop :=
 ∀(π:aB) (s:Shared) (σ:St) (H:Hp) (x y:V) (v u:Value) (Q:VK),Inv X π σ H s->RelV x v->RelV y u->r x y H Q ->
  wpAny (model X.prog X.w) X.A (f v u) (EP X π σ Q) X.xe s
def UnR(X:Cx)(f:Value->Sem Value)(r:V->Hp->VK->Prop):Prop :=
 ∀(π:aB) (s:Shared) (σ:St) (H:Hp) (x:V) (v:Value) (Q:VK),Inv X π σ H s->RelV x v->r x H Q ->
  wpAny (model X.prog X.w) X.A (f v) (EP X π σ Q) X.xe s
def Fd(X:Cx)(f:Value)(r:List V->Hp->VK->Prop):Prop :=
 ∀(π:aB) (s:Shared) (σ:St) (H:Hp) (xs:List V) (us:aF) (Q:VK),Inv X π σ H s->Vals xs us->r xs H Q ->
  wpAny (model X.prog X.w) X.A (call f us) (EP X π σ Q) X.xe s
def TruR(X:Cx)(r:V->Hp->(Bool->Hp->Prop)->Prop):Prop :=
 ∀(π:aB) (s:Shared) (σ:St) (H:Hp) (x:V) (v:Value) (Q:Bool->Hp->Prop),Inv X π σ H s->RelV x v->r x H Q ->
  wpAny (model X.prog X.w) X.A (truthy v) (TP X π σ Q) X.xe s
def tOp(r:R2)(ta tb:TE):TE:=λσ H Q=>ta σ H λx H1=>tb σ H1 λy H2=>r x y H2 Q
def tUn(r:V->Hp->VK->Prop)(ta:TE):TE:=λσ H Q=>ta σ H λx H1=>r x H1 Q
def rI(C:Int->Int->Prop)(g:Int->Int->V):R2:=λx y H Q=>∃ i j,x = .int i/\y = .int j/\C i j/\Q (g i j) H
def rI0(g:Int->Int->V):R2:=λx y H Q=>∃ i j,x = .int i/\y = .int j/\Q (g i j) H
def rU(g:Int->V):V->Hp->VK->Prop:=λx H Q=>∃ i,x = .int i/\Q (g i) H
section
variable {X:Cx}{a b c:Expr}{ta tb tc:TE}{pos:Pos}
theorem binT(ha:PE X a ta)(hb:PE X b tb){π:aB}{s:Shared}{σ:St}{H:Hp}{R:V->V->Hp->Prop}(I:Inv X π σ H s)
  (h:ta σ H λx H1=>tb σ H1 λy H2=>R x y H2) {Q:aC} {f:Value->Value->Sem Value}
  (hf:∀ v u s2 x y H2,Inv X π σ H2 s2->RelV x v->RelV y u->R x y H2->wpAny (model X.prog X.w) X.A (f v u) Q X.xe s2) :
  wpAny (model X.prog X.w) X.A (eval a X.env) (λv s₁=>wpAny (model X.prog X.w) X.A (eval b X.env) (λu s₂=>wpAny (model X.prog X.w) X.A (f v u) Q X.xe s₂) X.xe s₁) X.xe s:=by
 refine thn (ha π s σ H _ I h) ?_;rintro v s1 ⟨x,H1,I1,r1,q1⟩;refine thn (hb π s1 σ H1 _ I1 q1) ?_;rintro u s2 ⟨y,H2,I2,r2,q2⟩;exact hf v u s2 x y H2 I2 r1 r2 q2
theorem pe_op{op:Operator}{r:R2}(ho:OpR X (binaryOp op) r)(ha:PE X a ta)(hb:PE X b tb):PE X (.BinOp a op b pos) (tOp r ta tb):=by
 intro π s σ H Q I h;exact wpAny_BinOp (binT ha hb I h λv u s2 x y H2 I2 rx ry q=>ho π s2 σ H2 x y v u Q I2 rx ry q)
theorem pe_un{op:UnaryOp}{r:V->Hp->VK->Prop}(ho:UnR X (unaryOp op) r)(ha:PE X a ta):PE X (.UnaryOp op a pos) (tUn r ta):=by
 intro π s σ H Q I h;exact UnaryOp_ (thn (ha π s σ H _ I h) λv s1⟨x,H1,I1,r1,q1⟩=>ho π s1 σ H1 x v Q I1 r1 q1)
theorem opI{f:Value->Value->Sem Value}{C:Int->Int->Prop}{g:Int->Int->Int}
  (rule:∀(i j:Int) (t u:Tok) (s:Shared) (Q:aC) (E:aC),C i j->Q (.int (g i j) s.toks) { s with toks:=s.toks+1 }->wpAny (model X.prog X.w) X.A (f (.int i t) (.int j u)) Q E s) :
  OpR X f (rI C λi j => .int (g i j)):=by
 intro π s σ H x y v u Q I rx ry h;obtain⟨i,j,rfl,rfl,hc,q⟩:=h;obtain⟨t,rfl⟩:=rx;obtain⟨t',rfl⟩:=ry;exact rule i j t t' s _ _ hc ⟨.int (g i j),H,I.tok _,⟨_,rfl⟩,q⟩
theorem opI0{f:Value->Value->Sem Value}{g:Int->Int->Int}
  (rule:∀(i j:Int) (t u:Tok) (s:Shared) (Q:aC) (E:aC),Q (.int (g i j) s.toks) { s with toks:=s.toks+1 }->wpAny (model X.prog X.w) X.A (f (.int i t) (.int j u)) Q E s) :
  OpR X f (rI0 λi j => .int (g i j)):=by
 intro π s σ H x y v u Q I rx ry h;obtain⟨i,j,rfl,rfl,q⟩:=h;obtain⟨t,rfl⟩:=rx;obtain⟨t',rfl⟩:=ry;exact rule i j t t' s _ _ ⟨.int (g i j),H,I.tok _,⟨_,rfl⟩,q⟩
theorem opB0{f:Value->Value->Sem Value}{g:Int->Int->Bool}
  (rule:∀(i j:Int) (t u:Tok) (s:Shared) (Q:aC) (E:aC),Q (.bool (g i j)) s->wpAny (model X.prog X.w) X.A (f (.int i t) (.int j u)) Q E s) :
  OpR X f (rI0 λi j => .bl (g i j)):=by
 intro π s σ H x y v u Q I rx ry h;obtain⟨i,j,rfl,rfl,q⟩:=h;obtain⟨t,rfl⟩:=rx;obtain⟨t',rfl⟩:=ry;exact rule i j t t' s _ _ ⟨.bl (g i j),H,I,rfl,q⟩
def CPow(i j:Int):Prop:=0<=j/\j<=1000000/\i.natAbs<2 ^ 64
def CMul(i j:Int):Prop:=(-(2 ^ 64)<i/\i<2 ^ 64)\/(-(2 ^ 64)<j/\j<2 ^ 64)
theorem CMul.ok{i j:Int}(h:CMul i j):IntMulOk i j:=by
 rcases h with⟨h1,h2⟩|⟨h1,h2⟩
 · exact .of_left (intBits_le_64 h1 h2)
 · exact .of_right (intBits_le_64 h1 h2)
theorem op_add:OpR X (binaryOp .Add) (rI0 λi j => .int (i+j)):=opI0 λ_ _ _ _ _ _ _ q=>add_int q
theorem op_sub:OpR X (binaryOp .Sub) (rI0 λi j => .int (i-j)):=opI0 λ_ _ _ _ _ _ _ q=>sub_int q
theorem z50:OpR X (binaryOp .Mod) (rI (λ_ j=>j≠0) λi j => .int (i.fmod j)):=opI λ_ _ _ _ _ _ _ hc q=>mod_int' hc q
theorem op_pow:OpR X (binaryOp .Pow) (rI CPow λi j => .int (i ^ j.toNat)):=opI λ_ _ _ _ _ _ _ hc q=>pow_int_small hc.1 hc.2.1 hc.2.2 q
theorem unI{f:Value->Sem Value}{g:Int->Int}
  (rule:∀(i:Int) (t:Tok) (s:Shared) (Q:aC) (E:aC),Q (.int (g i) s.toks) { s with toks:=s.toks+1 }->wpAny (model X.prog X.w) X.A (f (.int i t)) Q E s) :
  UnR X f (rU λi => .int (g i)):=by
 intro π s σ H x v Q I rx h;obtain⟨i,rfl,q⟩:=h;obtain⟨t,rfl⟩:=rx;exact rule i t s _ _ ⟨.int (g i),H,I.tok _,⟨_,rfl⟩,q⟩
theorem un_neg:UnR X (unaryOp .USub) (rU λi => .int (-i)):=unI λ_ _ _ _ _ q=>neg_int q
end
def scal:V->V->Bool
 | .non,.non=>true|.non,.int _=>true|.int _,.non=>true|.non,.bl _=>true|.bl _,.non=>true|.non,.str _=>true|.str _,.non=>true
 | .int _,.int _=>true|.bl _,.bl _=>true|.str _,.str _=>true|.byt _,.byt _=>true
 | .int _,.str _=>true|.str _,.int _=>true|.bl _,.str _=>true|.str _,.bl _=>true
 | _,_=>false
section
variable {X:Cx}{a b c:Expr}{ta tb tc:TE}{pos:Pos}
theorem z0y{π:aB}{σ:St}{H:Hp}{s:Shared}{Q:VK}{k k':Bool}(I:Inv X π σ H s)(q:Q (.bl k) H)(e:k=k'):EP X π σ Q (.bool k') s:=by
 subst e;exact⟨.bl k,H,I,rfl,q⟩
theorem op_lt:OpR X (compareOp .Lt) (rI0 λi j => .bl (decide (i<j))):=opB0 λ_ _ _ _ _ _ _ q=>lt_int q
theorem op_le:OpR X (compareOp .LtE) (rI0 λi j => .bl (decide (i<=j))):=opB0 λ_ _ _ _ _ _ _ q=>le_int q
theorem op_gt:OpR X (compareOp .Gt) (rI0 λi j => .bl (decide (j<i))):=opB0 λ_ _ _ _ _ _ _ q=>gt_int q
theorem op_ge:OpR X (compareOp .GtE) (rI0 λi j => .bl (decide (j<=i))):=opB0 λ_ _ _ _ _ _ _ q=>ge_int q
theorem op_isN:OpR X (compareOp .Is) (λx y H Q=>y = .non/\Q (.bl (decide (x = .non))) H):=by
 intro π s σ H x y v u Q I rx ry h;obtain⟨rfl,q⟩:=h;cases ry;refine is_none_gen (z0y I q ?_);cases x<;>first
  | (cases rx;rfl)
  | (obtain⟨t,rfl⟩:=rx;rfl)
theorem z51:OpR X (compareOp .IsNot) (λx y H Q=>y = .non/\Q (.bl (!decide (x = .non))) H):=by
 intro π s σ H x y v u Q I rx ry h;obtain⟨rfl,q⟩:=h;cases ry;refine isnot_none_gen (z0y I q ?_);cases x<;>first
  | (cases rx;rfl)
  | (obtain⟨t,rfl⟩:=rx;rfl)
theorem z0z(b:Expr){op:CmpOp}(h:op ≠ .In:=by decide)(h2:op ≠ .NotIn:=by decide):behindInMarks op b=false:=by
 have e1:(op==CmpOp.In)=false:=by cases op<;>first|rfl|exact absurd rfl h
 have e2:(op==CmpOp.NotIn)=false:=by cases op<;>first|rfl|exact absurd rfl h2
 cases b<;>simp[behindInMarks,e1,e2]
theorem z52{op:CmpOp}{r:R2}(ho:OpR X (compareOp op) r)(ha:PE X a ta)(hb:PE X b tb)(hm:behindInMarks op b=false):PE X (.Compare a [op] [b] pos) (tOp r ta tb):=by
 intro π s σ H Q I h;exact wpAny_Compare1 (binT ha hb I h λv u s2 x y H2 I2 rx ry q=>ho π s2 σ H2 x y v u Q I2 rx ry q) hm
def tTest(t:TE):TT:=λσ H Q=>t σ H λx H'=>∃ k,x = .bl k/\Q k H'
theorem z53{op:CmpOp}{r:R2}(ho:OpR X (compareOp op) r)(ha:PE X a ta)(hb:PE X b tb)(hm:behindInMarks op b=false):PT X (.Compare a [op] [b] pos) (tTest (tOp r ta tb)):=by
 intro π s σ H Q I h;refine wpAny_isTrue_Compare1 (thn (ha π s σ H _ I h) λv s1⟨x,H1,I1,r1,q1⟩=>thn (hb π s1 σ H1 _ I1 q1) λu s2 ⟨y,H2,I2,r2,q2⟩ =>
  thn (ho π s2 σ H2 x y v u _ I2 r1 r2 q2) λc s3⟨z,H3,I3,r3,k,e,q3⟩=>?_) hm
 subst e;cases r3;exact wpAny_truthy_bool ⟨H3,I3,q3⟩
def z0A(r r':R2)(ta tb tc:TE):TE:=λσ H Q=>ta σ H λx H1=>tb σ H1 λy H2=>r x y H2 λz H3=>∃ k,z = .bl k /\
 (if k=true then tc σ H3 λw' H4=>r' y w' H4 Q else Q (.bl false) H3)
theorem z0B{op op':CmpOp}{r r':R2}(ho:OpR X (compareOp op) r)(ho':OpR X (compareOp op') r')(ha:PE X a ta)(hb:PE X b tb)(hc:PE X c tc)
  (hm:lastMarks [op,op'] [b,c]=false:=by with_unfolding_all rfl):PE X (.Compare a [op,op'] [b,c] pos) (z0A r r' ta tb tc):=by
 intro π s σ H Q I h;refine Compare_chain (thn (ha π s σ H _ I h) λv s1⟨x,H1,I1,r1,q1⟩=>chain_link (thn (hb π s1 σ H1 _ I1 q1) λu s2 ⟨y,H2,I2,r2,q2⟩ =>
  thn (ho π s2 σ H2 x y v u _ I2 r1 r2 q2) λd s3⟨z,H3,I3,r3,k,e,q3⟩=>?_)) hm
 subst e;cases r3;refine wpAny_truthy_bool ?_;cases k with
 | false=>exact ite_ff ⟨.bl false,H3,I3,rfl,q3⟩
 | true=>exact ite_tt (chain_last (thn (hc π s3 σ H3 _ I3 q3) λw' s4⟨z',H4,I4,r4,q4⟩=>ho' π s4 σ H4 y z' u w' Q I4 r2 r4 q4))
def TruV(K:aD)(x:V)(H:Hp)(k:Bool):Prop :=
 match x with
 | .non=>k=false
 | .bl b=>k=b
 | .int i=>k=(i != 0)
 | .str y=>y.length<=sizeLine/\k=((y.length:Int) != 0)
 | .byt y=>y.size<=sizeLine/\k=((y.size:Int) != 0)
 | .ref p=>(∃ xs,SqL K H p xs/\k=!xs.isEmpty)\/(∃ xs,SqT K H p xs/\k=!xs.isEmpty)\/∃ kvs,H p=some (.dK kvs)/\k=!kvs.isEmpty
 | _=>False
theorem Ra{κ:Type}{kvs:List (κ×V)}{vs:List (κ×Value)}(r:KV kvs vs):(!vs.isEmpty)=!kvs.isEmpty:=by
 cases r<;>rfl
theorem Jd{xs:List V}{its:aF}(r:Vals xs its):(!its.toArray.isEmpty)=!xs.isEmpty:=by
 cases r<;>simp
theorem GE:(sizeLine:Nat)<2 ^ 63:=by rw[sizeLine_eq];decide
theorem tru_ok:TruR X (λx H Q=>∃ k,TruV X.K x H k/\Q k H):=by
 intro π s σ H x v Q I rx h;obtain⟨k,e,q⟩:=h;have hl:=GE;have hs:sizeLine=16777216:=sizeLine_eq;cases x with
 | non =>
  cases rx;have e':k=false:=e;subst e';exact truthy_none ⟨H,I,q⟩
 | bl b =>
  cases rx;have e':k=b:=e;subst e';exact wpAny_truthy_bool ⟨H,I,q⟩
 | int i =>
  obtain⟨t,rfl⟩:=rx;have e':k=(i != 0):=e;subst e';exact PySem.P.truthy_int ⟨H,I,q⟩
 | str y =>
  obtain⟨t,rfl⟩:=rx;obtain⟨hy,e'⟩:y.length<=sizeLine/\k=((y.length:Int) != 0):=e;subst e';exact PySem.P.truthy_str (by rfl') ⟨H,I.tok _,q⟩
 | byt y =>
  obtain⟨t,rfl⟩:=rx;obtain⟨hy,e'⟩:y.size<=sizeLine/\k=((y.size:Int) != 0):=e;subst e';exact PySem.W.truthy_bytes (by rfl') ⟨H,I.tok _,q⟩
 | ref p =>
  cases rx;have e':(∃ xs,SqL X.K H p xs/\k=!xs.isEmpty)\/(∃ xs,SqT X.K H p xs/\k=!xs.isEmpty)\/∃ kvs,H p=some (.dK kvs)/\k=!kvs.isEmpty:=e;rcases e' with⟨xs,hx,e'⟩|⟨xs,hx,e'⟩|⟨kvs,hx,e'⟩
  · subst e';obtain⟨its,r,pl,hz⟩:=I.list hx;have hlen:=r.length;exact wpAny_truthy_list pl.isList (by simp only[wx];rfl') ⟨H,I.tok _,by rw[Jd r];exact q⟩
  · subst e';obtain⟨its,r,pl,hz⟩:=I.tuple hx;have hlen:=r.length;exact truthy_tuple pl (by simp only[wx];rfl') ⟨H,I.tok _,by rw[Jd r];exact q⟩
  · subst e';obtain⟨hz,hS,vs,r,m⟩:kvs.length<=sizeLine/\(p==sysModules)=false/\∃ vs,KV kvs vs/\s.heap.DictOf (Nq X.prog X.w) p vs:=I.hok p _ hx;have hlen:kvs.length=vs.length:=Paired.length r;exact wpAny_truthy_dict hS m (by rfl') ⟨H,I.tok _,by rw[Ra r];exact q⟩
 | _=>exact(show False from e).elim
theorem z0C(ha:PE X a ta)(he:∀ whole,isTrue a X.env whole=(do let v ←whole;standAt a.pos;holding [v] (truthy v))):
  PT X a (λσ H Q=>ta σ H λx H'=>∃ k,TruV X.K x H' k/\Q k H'):=by
 intro π s σ H Q I h;exact isTrue_plain (thn (ha π s σ H _ I h) λv s1⟨x,H1,I1,r1,q1⟩=>tru_ok π s1 σ H1 x v Q I1 r1 q1) (he _)
theorem Lr{x:V}{us:aF}(r:Vals [x] us):∃ u,us=[u]/\RelV x u:=by
 cases r with
 | cons r1 r2=>cases r2;exact⟨_,rfl,r1⟩
theorem vals2{x y:V}{us:aF}(r:Vals [x,y] us):∃ u w',us=[u,w']/\RelV x u/\RelV y w':=by
 cases r with
 | cons r1 r2 =>
  cases r2 with
  | cons r3 r4=>cases r4;exact⟨_,_,rfl,r1,r3⟩
theorem z0D:Fd X (.builtin "abs") (λxs H Q=>∃ i,xs=[.int i]/\Q (.int (if i<0 then -i else i)) H):=by
 intro π s σ H xs us Q I r h;obtain⟨i,rfl,q⟩:=h;obtain⟨u,rfl,t,rfl⟩:=Lr r;exact call_abs_int λu tk=>⟨.int (if i<0 then -i else i),H,I.tok _,⟨_,rfl⟩,q⟩
theorem Ls:Fd X (.type "int") (λxs H Q=>(∃ i,xs=[.int i]/\Q (.int i) H)\/∃ k,xs=[.bl k]/\Q (.int (if k then 1 else 0)) H):=by
 intro π s σ H xs us Q I r h;rcases h with⟨i,rfl,q⟩|⟨k,rfl,q⟩
 · obtain⟨u,rfl,t,rfl⟩:=Lr r;exact call_int_int ⟨.int i,H,I,⟨_,rfl⟩,q⟩
 · obtain⟨u,rfl,r1⟩:=Lr r;cases r1;exact call_int_bool ⟨.int (if k then 1 else 0),H,I.tok _,⟨_,rfl⟩,q⟩
end
end L2
namespace L2
open PySem PySem.Spec PyProof.Rows
structure ObjM(h:Heap)(x dx C:Addr)(mA:aE):Prop where
 obj:h.get? x=some (PySem.W.instObj C dx)
 ns:h.Ns1 dx mA
 ne:dx≠x
theorem Zr{h:Heap}{dx:Addr}{mA:aE}(n:h.Ns1 dx mA):∃ od,h.get? dx=some od/\∀ name,PySem.W.lookIn name od=some (mA name):=by
 obtain⟨o,es,ep,ho,hd,hk,_,hm⟩:=n;refine⟨o,ho,λname=>?_⟩;have e:=hm name;unfold nsFind findBy at e;rw[←Array.find?_toList]at e;unfold PySem.W.lookIn;rw[hd];dsimp only;split
 · rename_i y q;rw[q]at e;exact congrArg some e
 · rename_i q;rw[q]at e;have a:es.toList.any (·.refKey)=false:=by
    rw[w0L];intro y hy;obtain⟨z,t,hkey⟩:=hk y (Array.mem_toList_iff.mp hy);simp[DictEntry.refKey,hkey]
   have a':¬es.toList.any (·.refKey)=true:=by rw[a];exact wN
   rw[if_neg a'];exact congrArg some e
theorem ObjM.look{h:Heap}{x dx C:Addr}{mA:aE}(I:ObjM h x dx C mA):∃ od,PySem.W.InstAt h x (PySem.W.instObj C dx) C (some od)/\∀ name,PySem.W.lookIn name od=some (mA name) :=
 let ⟨od,ho,hl⟩:=Zr I.ns
 ⟨od,⟨I.obj,rfl,rfl,ho⟩,hl⟩
section
variable {prog:Program}{w:World}{A:Around}{E:aC}{s:Shared}{K:aD}{x dx C f:Addr}{mA:aE}{name:Str}{v:Value}
end
section
variable {P:Program}{w:World}{H H':Hp}{h h':Heap}{a C dx:Addr}{fs fs':List (Str×V)}
theorem z54(hok:HOk P w H h)(e:H a=some (.ins C dx fs)):∃ mA,ObjM h a dx C mA/\(∀ f,RelO (fs.lookup f) (mA f))/\PySem.Within mA (fs.map (·.1))/\fs.length<=1000/\H dx=some (.own a):=by
 obtain⟨d,z,ne,ob,mA,n,r,q⟩:=(show ObjOk P w H h a (.ins C dx fs)from hok a _ e);exact⟨mA,⟨ob,n,ne⟩,r,q,z,d⟩
end
structure Cls(K:aD)(C:Addr):Prop where
 pg:PySem.W.plainGet K C Str.empty=true
 hd:PySem.W.hasDictIn K C=true
 po:PySem.W.plainOver K C=true
 sa:PySem.W.findIn K (.ref C) "__setattr__" = some (some (.builtin "object.__setattr__"))
theorem Cls.get{K:aD}{C:Addr}(c:Cls K C)(f:Str):PySem.W.plainGet K C f=true:=c.pg
section
variable {X:Cx}{π:aB}{σ:St}{H:Hp}{s:Shared}{a C dx:Addr}{fs:List (Str×V)}{f:Str}{v:V}{A:Around}{E:aC}
end
section
variable {X:Cx}{o e value:Expr}{f:Str}{pos pos' tpos:Pos}{ta tv:TE}
end
section
variable {X:Cx}{π:aB}{σ:St}{H:Hp}{s:Shared}{A:Around}{E:aC}{Q:aC}{c:Value}{b:Bool}
inductive TyOf (K:aD) (H:Hp):V->Value->Prop where
 | non:TyOf K H .non (.type "NoneType")
 | bl (x:Bool):TyOf K H (.bl x) (.type "bool")
 | int (i:Int):TyOf K H (.int i) (.type "int")
 | str (x:Str):TyOf K H (.str x) (.type "str")
 | flt (x:UInt64):TyOf K H (.flt x) (.type "float")
 | lst {a:Addr} {xs:List V} (e:H a=some (.lst xs)):TyOf K H (.ref a) (.type "list")
 | frz {a:Addr} {o:Obj} {xs:List V} (e:H a=some (.frz o (.lst xs))):TyOf K H (.ref a) (.type "list")
 | tup {a:Addr} {xs:List V} (e:H a=some (.tup xs)):TyOf K H (.ref a) (.type "tuple")
 | dK {a:Addr} {kvs:List (Key×V)} (e:H a=some (.dK kvs)):TyOf K H (.ref a) (.type "dict")
 | dT {a:Addr} {kvs:List (List Key×V)} (e:H a=some (.dT kvs)):TyOf K H (.ref a) (.type "dict")
 | ins {a C dx:Addr} {fs:List (Str×V)} (e:H a=some (.ins C dx fs)) (cl:Cls K C) (ha:PySem.W.findIn K (.ref C) "__class__" = some (some (.builtin "object.__class__")))
  (hn:PySem.W.specialIn K (.builtin "object.__class__") "__get__" = some (some (.builtin "getset_descriptor.__get__"))) (htk:PySem.W.takesIn K (.builtin "object.__class__")=some true)
  (hm:PySem.W.mroIn K C (.type "object")=some true):TyOf K H (.ref a) (.ref C)
theorem Ds{x:V}{u t:Value}(I:Inv X π σ H s)(rx:RelV x u)(ty:TyOf X.K H x t)(e:PySem.W.kitOne X.K t c=some b)(h:∀ tk,Q (.bool b) { s with toks:=tk }):
  wpAny (model X.prog X.w) A (call (.builtin "isinstance") [u,c]) Q E s:=by
 cases ty with
 | non=>cases (show u=Value.none from rx);exact PySem.W.kia_one PySem.W.kitx_none I.kIn True.intro e (λz=>nomatch z) h
 | bl y=>cases (show u=Value.bool y from rx);exact PySem.W.kia_one PySem.W.kitx_bool I.kIn True.intro e (λz=>nomatch z) h
 | int i=>obtain⟨t,q⟩:=(show ∃ t,u=Value.int i t from rx);cases q;exact PySem.W.kia_one PySem.W.kitx_int I.kIn True.intro e (λz=>nomatch z) h
 | str y=>obtain⟨t,q⟩:=(show ∃ t,u=Value.str y t from rx);cases q;exact PySem.W.kia_one PySem.W.kitx_str I.kIn True.intro e (λz=>nomatch z) h
 | flt y=>obtain⟨t,q⟩:=(show ∃ t,u=Value.float y t from rx);cases q;exact PySem.W.kia_one PySem.W.kitx_float I.kIn True.intro e (λz=>nomatch z) h
 | @lst a xs ea =>
  cases (show u=Value.ref a from rx);obtain⟨_,_,n,_,h1⟩:=(show ObjOk X.prog X.w H s.heap a (.lst xs)from I.hok a _ ea);exact PySem.W.kia_one PySem.W.kitx_list I.kIn ⟨_,h1,rfl⟩ e (λz=>nomatch z) h
 | @frz a ob xs ea =>
  cases (show u=Value.ref a from rx);obtain⟨_,_,_,n,_,h1⟩:=(show ObjOk X.prog X.w H s.heap a (.frz ob (.lst xs))from I.hok a _ ea);exact PySem.W.kia_one PySem.W.kitx_list I.kIn ⟨_,h1,rfl⟩ e (λz=>nomatch z) h
 | @tup a xs ea =>
  cases (show u=Value.ref a from rx);obtain⟨_,_,_,p⟩:=(show ObjOk X.prog X.w H s.heap a (.tup xs)from I.hok a _ ea);obtain⟨o,h1,h2,_⟩:=p;exact PySem.W.kia_one PySem.W.kitx_tuple I.kIn ⟨o,h1,h2⟩ e (λz=>nomatch z) h
 | @dK a kvs ea =>
  cases (show u=Value.ref a from rx);obtain⟨_,_,vs,_,p⟩:=(show ObjOk X.prog X.w H s.heap a (.dK kvs)from I.hok a _ ea);obtain⟨o,es,ep,h1,h2,_⟩:=p;exact PySem.W.kia_one PySem.W.kitx_dict I.kIn ⟨o,h1,h2.1⟩ e (λz=>nomatch z) h
 | @dT a kvs ea =>
  cases (show u=Value.ref a from rx);obtain⟨_,_,xs,_,o,es,ep,h1,h2,_⟩:=(show ObjOk X.prog X.w H s.heap a (.dT kvs)from I.hok a _ ea);exact PySem.W.kia_one PySem.W.kitx_dict I.kIn ⟨o,h1,h2.1⟩ e (λz=>nomatch z) h
 | @ins a C dx fs ea cl ha hn htk hm =>
  cases (show u=Value.ref a from rx);obtain⟨mA,O,_⟩:=z54 I.hok ea;obtain⟨od,J,_⟩:=O.look;exact PySem.W.kia_one (PySem.W.kitx_own (cl.get _) cl.hd ha hn htk hm) I.kIn J e (λz=>nomatch z) h
end
end L2
namespace L2
open PySem PySem.Spec PyProof.Rows
structure Room(k:Nat)(A:Around):Prop where
 hd:A.handled=none
 dp:A.depth+3*k+5<recursionLimit
 un:A.units+16*k+200<cLine
theorem Room.mono{j k:Nat}{A:Around}(r:Room k A)(h:j<=k):Room j A:=⟨r.hd,by have:=r.dp;rfl',by have:=r.un;rfl'⟩
theorem Room.deeper{k:Nat}{A:Around}(r:Room (k+1) A)(env:Env):Room k (A.deeper env) :=
 ⟨r.hd,by have:=r.dp;show A.depth+1+3*k+5<_;rfl',by have:=r.un;show A.units+3+16*k+200<_;rfl'⟩
theorem Room.in1{k:Nat}{A:Around}(r:Room (k+1) A):Room k A.in1 :=
 ⟨r.hd,by have:=r.dp;show A.depth+3*k+5<_;rfl',by have:=r.un;show A.units+1+16*k+200<_;rfl'⟩
theorem Room.depth{k:Nat}{A:Around}(r:Room k A):A.depth<recursionLimit:=by have:=r.dp;rfl'
theorem Room.units{k:Nat}{A:Around}(r:Room k A):A.units+64<cLine:=by have:=r.un;rfl'
def tNil:TA:=λ_ H Q=>Q [] H
def tCons(ta:TE)(tr:TA):TA:=λσ H Q=>ta σ H λx H1=>tr σ H1 λxs H2=>Q (x::xs) H2
section
variable {X:Cx}{e:Expr}{es:List Expr}{te:TE}{t:TA}{pos:Pos}
theorem Je:PA X [] tNil:=λ_ _ _ _ H Q I h=>Calls.spliced_nil ⟨[],H,I,.nil,h⟩
theorem Bm(ha:PE X e te)(hr:PA X es t)(hs:starEach (e::es) X.env=(false,eval e X.env)::starEach es X.env:=by rfl):PA X (e::es) (tCons te t):=by
 intro pos π s σ H Q I h;rw[hs];show wpAny _ _ (spliced ((false,eval e X.env)::backTo pos (starEach es X.env))) _ _ s;refine Calls.spliced_cons (thn (ha π s σ H _ I h) ?_);rintro u s1 ⟨x,H1,I1,r1,q1⟩;exact thn (hr pos π s1 σ H1 _ I1 q1) λus s2⟨xs,H2,I2,r2,q2⟩=>⟨x::xs,H2,I2,.cons r1 r2,q2⟩
def tTup(t:TA):TE:=λσ H Q=>t σ H λxs H1=>xs.length<=sizeLine/\∀ p,H1 p=none->Q (.ref p) (upd H1 p (.tup xs))
def tLst(t:TA):TE:=λσ H Q=>t σ H λxs H1=>xs.length<=sizeLine/\∀ p,H1 p=none->Q (.ref p) (upd H1 p (.lst xs))
theorem pe_tup{x1}(h:PA X es t):PE X (.Tuple es x1 pos) (tTup t):=by
 intro π s σ H Q I hq;refine wpAny_Tuple_spliced (thn (h pos π s σ H _ I hq) λus s1⟨xs,H1,I1,r,z,q⟩=>⟨by rw[←r.length];exact z,?_⟩);have hf:H1 s1.heap.objs.size=none:=I1.hok.fresh (wu _);refine⟨.ref s1.heap.objs.size,upd H1 s1.heap.objs.size (.tup xs),I1.laid (t':=s1.toks) (λb u e=>wf _ e) (wu _) ?_,rfl,q _ hf⟩;exact⟨z,us,r,⟨_,wD _ rfl,rfl,_,rfl⟩⟩
theorem pe_lst(h:PA X es t):PE X (.List es pos) (tLst t):=by
 intro π s σ H Q I hq;refine wpAny_List_spliced (thn (h pos π s σ H _ I hq) λus s1⟨xs,H1,I1,r,z,q⟩=>⟨by rw[←r.length];exact z,?_⟩);have hf:H1 s1.heap.objs.size=none:=I1.hok.fresh (wu _);refine⟨.ref s1.heap.objs.size,upd H1 s1.heap.objs.size (.lst xs),I1.laid (t':=s1.toks) (λb u e=>wf _ e) (wu _) ?_,rfl,q _ hf⟩;exact⟨z,us,0,r,wD _ rfl⟩
end
abbrev Sp:=List V->Hp->VK->XK->Prop
abbrev CXT:=List Env->Hp->Shared->XK->aC
structure Env0(P:Program)(w:World)(K:aD)(mg:aE)(base:Heap)(A:Around)(outer:List Env)(s:Shared)(H:Hp):Prop where
 frames:A.frames=some outer
 mod:Mod K mg base
 bs:∀ b o,base.get? b=some o->s.heap.get? b=some o/\H b=none
 bsz:base.objs.size<=s.heap.objs.size
 funs:s.heap.FunFrames base outer
 frf:∀ b∈frs outer,H b=none
 hok:HOk P w H s.heap
 bare:AllBare s.gens
def CE(outer:List Env)(P:Program)(w:World)(H:Hp)(s:Shared)(Q:VK)(u:Value)(s':Shared):Prop :=
 ∃ v H',s'.os=s.os/\AllBare s'.gens/\Un (frs outer) [] H H' s.heap s'.heap/\HOk P w H' s'.heap/\RelV v u/\Q v H'
def CR(CX:CXT)(outer:List Env)(P:Program)(w:World)(H:Hp)(s:Shared)(Q:VK)(E:XK)(r:Result)(s':Shared):Prop :=
 match r with
 | .ok (.ret u)=>CE outer P w H s Q u s'
 | .ok _=>False
 | .error e=>CX outer H s E e s'
structure FnOk(P:Program)(w:World)(K:aD)(mg:aE)(base:Heap)(CX:CXT)(k:Nat)(f:Addr)(fd:FuncData)(ps:List Str)(sp:Sp):Prop where
 len:∀ vs H Q E,sp vs H Q E->vs.length=ps.length
 run:∀(A:Around) (outer:List Env) (s:Shared) (H:Hp) (args:Args) (us:aF) (vs:List V) (Q:VK) (E:XK),Room k A->Env0 P w K mg base A outer s H->BindsTo s fd args (ps.zip us)->Vals vs us->sp vs H Q E ->
  codeAny (model P w) A (.call (.ref f) args) (CR CX outer P w H s Q E) s
theorem Env0.in1{P:Program}{w:World}{K:aD}{mg:aE}{base:Heap}{A:Around}{outer:List Env}{s:Shared}{H:Hp}(e:Env0 P w K mg base A outer s H):
 Env0 P w K mg base A.in1 outer s H:=⟨e.frames,e.mod,e.bs,e.bsz,e.funs,e.frf,e.hok,e.bare⟩
section
variable {X:Cx}{π:aB}{σ:St}{H:Hp}{s s':Shared}
theorem Inv.env0(I:Inv X π σ H s):Env0 X.prog X.w X.K X.mg X.base X.A X.stack s H :=
 ⟨I.ok.frames,I.ok.mod,I.bs,wG I.ok.bsz I.sz,I.stack,I.stkFree,I.hok,I.bare⟩
theorem Inv.after{Q:VK}{u:Value}(I:Inv X π σ H s)(h:CE X.stack X.prog X.w H s Q u s'):EP X π σ Q u s':=by
 obtain⟨v,H',os,bare,un,hok,r,q⟩:=h;obtain⟨hh,g,d,t,os'⟩:=s';obtain rfl:os'=s.os:=os;exact⟨v,H',I.call (h':=hh) (g':=g) (d':=d) (t':=t) (ch:=[]) un hok bare (λb z=>absurd z (by simp)),r,q⟩
end
def tCall(sp:Sp)(dvs:List V)(E:XK)(t:TA):TE:=λσ H Q=>t σ H λvs H1=>sp (vs++dvs) H1 Q E
def Binds(K:aD)(fd:FuncData)(ps:List Str)(ds:aF):Prop :=
 ∀(s:Shared) (us:aF),K.In s.heap->(us++ds).length=ps.length->BindsTo s fd ⟨us,[]⟩ (ps.zip (us++ds))
theorem Binds.all{K:aD}{fd:FuncData}{ps:List Str}(h:∀ us:aF,us.length=ps.length->bindArgs fd ⟨us,[]⟩=pure (ps.zip us)):Binds K fd ps []:=λs us _ hl=>by
 rw[uf]at hl ⊢;exact .of_eq (h us hl)
def Nu(CX:CXT)(X:Cx)(E:XK):Prop:=∀(π:aB) (σ:St) (H:Hp) (s:Shared) (e:Value) (s':Shared),Inv X π σ H s->CX X.stack H s E e s'->X.xe e s'
section
variable {X:Cx}{CX:CXT}{k:Nat}{f C:Addr}{fd:FuncData}{ps:List Str}{sp:Sp}{dvs:List V}{ds:aF}{E:XK}{x m:Str}{p pos apos:Pos}{e o:Expr}{es:List Expr}{ta:TE}{t:TA}
theorem run_fn{π:aB}{σ:St}{H:Hp}{s:Shared}{Q:VK}{us:aF}{vs:List V}(F:FnOk X.prog X.w X.K X.mg X.base CX k f fd ps sp)(hr:Room k X.A)(hb:Binds X.K fd ps ds)(hd:Vals dvs ds)(hx:Nu CX X E)
  (I:Inv X π σ H s) (r:Vals vs us) (h:sp (vs++dvs) H Q E):wpAny (model X.prog X.w) X.A (call (.ref f) us) (EP X π σ Q) X.xe s:=by
 have r2:Vals (vs++dvs) (us++ds):=r.append hd;have hl:(us++ds).length=ps.length:=by rw[←r2.length];exact F.len _ _ _ _ h
 refine wpAny_call (codeAny_mono (F.run X.A X.stack s H ⟨us,[]⟩ (us++ds) (vs++dvs) Q E hr I.env0 (hb s us I.kIn hl) r2 h) λr s' hq=>?_);cases r with
 | error e=>exact hx π σ H s e s' I hq
 | ok fl =>
  cases fl with
  | ret u=>exact I.after hq
  | next=>exact False.elim hq
  | brk=>exact False.elim hq
  | cont=>exact False.elim hq
theorem z55(F:FnOk X.prog X.w X.K X.mg X.base CX k f fd ps sp)(hr:Room k X.A)(hg:Gl X x)(hm:X.mg x=some (.ref f))(hk:PySem.W.keepIn X.K (.ref f)=true)(hb:Binds X.K fd ps ds)(hd:Vals dvs ds)(hx:Nu CX X E)
  (ha:PA X (e::es) t) (hdb:(x==("__debug__" : Str))=false:=by decide) (he:starEach (e::es) X.env=(false,eval e X.env)::starEach es X.env:=by rfl) (hpl:(backTo pos (starEach es X.env)).any (·.1)=false:=by rfl) :
  PE X (.Call (.Name x p) (e::es) [] pos) (tCall sp dvs E t):=by
 intro π s σ H Q I h;refine wpAny_Call_Name_kw (XV I hg hm ?_ hdb);refine PySem.W.callWith_K (h₀:=X.base) I.ok.mod.kin hk (thn (ha pos π s σ H _ I h) λus s1⟨vs,H1,I1,r,q⟩=>⟨I1.kIn,?_⟩) he hpl;exact run_fn F hr hb hd hx I1 r q
end
def PK(X:Cx)(kws:List Keyword)(t:TA):Prop :=
 ∀(pos:Pos) (π:aB) (s:Shared) (σ:St) (H:Hp) (Q:List V->Hp->Prop),Inv X π σ H s->t σ H Q->wpAny (model X.prog X.w) X.A (evalAll ((backToKw pos (keywordEach kws X.env)).map (·.2))) (AP X π σ Q) X.xe s
section
variable {X:Cx}{CX:CXT}{k:Nat}{f C:Addr}{fd:FuncData}{ps ks:List Str}{sp:Sp}{E:XK}{x m:Str}{p pos apos kpos:Pos}{e o:Expr}{es:List Expr}{kws:List Keyword}{te ta:TE}{t tk:TA}{nm:Option Str}
theorem z0E:PK X [] tNil:=λ_ _ _ _ H Q I h=>wpAny_evalAll_nil ⟨[],H,I,.nil,h⟩
theorem XY(ha:PE X e te)(hr:PK X kws t):PK X (⟨nm,e,kpos⟩::kws) (tCons te t):=by
 intro pos π s σ H Q I h;show wpAny _ _ (evalAll ((do let v ←eval e X.env;standAt pos;pure v)::(backToKw pos (keywordEach kws X.env)).map (·.2))) _ _ s;refine wpAny_evalAll_cons (wpAny_bind (thn (ha π s σ H _ I h) λu s1⟨x,H1,I1,r1,q1⟩=>wpAny_bind (wpAny_standAt (wpAny_pure ?_))));exact thn (hr pos π s1 σ H1 _ I1 q1) λus s2⟨xs,H2,I2,r2,q2⟩=>⟨x::xs,H2,I2,.cons r1 r2,q2⟩
variable {g:aF->aF->aF}{gV:List V->List V->List V}
end
structure FnScope(N P:List Str)(sc:Scope):Prop where
 kind:sc.kind = .function
 co:sc.isCoroutine=false
 gen:sc.isGenerator=false
 nd:N.Nodup
 pre:N.take P.length=P
 par:∀ x∈P,sc.names.lookup x=some .local\/sc.names.lookup x=some .cell
 nofree:∀ y∈sc.names,y.2 ≠ .free
theorem Lu{kindOf:Str->Option NameKind}{x:Str}:∀{binds:List (Str×Value)} {m:aE},(∀ v,(x,v) ∉ binds)->bindL kindOf binds m x=m x
 | [],_,_=>rfl
 | (n,v)::r,m,h=>by
  unfold bindL;rw[Lu λw hw=>h w (wc _ hw)];split
  · have:x≠n:=by rintro rfl;exact h v we
    simp[this]
  · rfl
theorem Lv{kindOf:Str->Option NameKind}{x:Str}:∀{binds:List (Str×Value)} {m:aE},(∀ v,(x,v) ∉ binds)->bindC kindOf binds m x=m x
 | [],_,_=>rfl
 | (n,v)::r,m,h=>by
  unfold bindC;rw[Lv λw hw=>h w (wc _ hw)];split
  · rfl
  · have:x≠n:=by rintro rfl;exact h v we
    simp[this]
theorem Lw{kindOf:Str->Option NameKind}{x:Str}{v:Value}:∀{P:List Str} {vs:aF} {i:Nat} {m:aE},P.Nodup->P[i]?=some x->vs[i]?=some v->kindOf x=some .local ->
  bindL kindOf (P.zip vs) m x=some v
 | [],_,_,_,_,h,_,_=>by simp at h
 | _::_,[],_,_,_,_,h,_=>by simp at h
 | p::P,w::vs,0,m,nd,h1,h2,hk=>by
  simp at h1 h2;subst h1;subst h2;show bindL kindOf ((p,w)::P.zip vs) m p=_;unfold bindL;rw[Lu λv hv=>(vq.mp nd).1 (vt hv).1,if_pos hk];simp
 | p::P,w::vs,i+1,m,nd,h1,h2,hk=>by
  show bindL kindOf ((p,w)::P.zip vs) m x=_;unfold bindL;exact Lw (i:=i) (vq.mp nd).2 (by simpa using h1) (by simpa using h2) hk
theorem Lx{kindOf:Str->Option NameKind}{x:Str}{v:Value}:∀{P:List Str} {vs:aF} {i:Nat} {m:aE},P.Nodup->P[i]?=some x->vs[i]?=some v->kindOf x≠some .local ->
  bindC kindOf (P.zip vs) m x=some v
 | [],_,_,_,_,h,_,_=>by simp at h
 | _::_,[],_,_,_,_,h,_=>by simp at h
 | p::P,w::vs,0,m,nd,h1,h2,hk=>by
  simp at h1 h2;subst h1;subst h2;show bindC kindOf ((p,w)::P.zip vs) m p=_;unfold bindC;rw[Lv λv hv=>(vq.mp nd).1 (vt hv).1,if_neg hk];simp
 | p::P,w::vs,i+1,m,nd,h1,h2,hk=>by
  show bindC kindOf ((p,w)::P.zip vs) m x=_;unfold bindC;exact Lx (i:=i) (vq.mp nd).2 (by simpa using h1) (by simpa using h2) hk
def start(N:List Str)(vs:List V):St:=vs.map some++List.replicate (N.length-vs.length) none
def cxOf(CX:CXT)(P:Program)(w:World)(K:aD)(mg:aE)(base:Heap)(N:List Str)(qual:Str)(scope:Scope)(f:Addr)(cd:Value)(A:Around)(outer:List Env)(s:Shared)(H:Hp)(E:XK):Cx where
 prog:=P
 w:=w
 K:=K
 mg:=mg
 base:=base
 A:=A.deeper (envOfC qual scope s.heap.objs.size f cd)
 N:=N
 s₀:=s
 H₀:=H
 env:=envOfC qual scope s.heap.objs.size f cd
 outer:=outer
 stack:=envOfC qual scope s.heap.objs.size f cd::outer
 ex:=[]
 calm:=true
 fn:=λ_=>true
 pn:=[]
 xe:=λe s'=>wpAny (model P w) (A.deeper (envOfC qual scope s.heap.objs.size f cd)) (leaving (envOfC qual scope s.heap.objs.size f cd) e) (λ_ s''=>CX outer H s E e s'') (λe' s''=>CX outer H s E e' s'') s'
theorem OM{sc:Scope}{n:Nat}{x:Str}(h:sc.names.lookup x=some .cell):∃ c,(cellsFrom n sc.names []).lookup x=some c:=by
 have q:=PySem.W.cellsFrom_some sc.names n [] (.inl h);exact uC.mp q
theorem Zs{CX:CXT}{P:Program}{w:World}{K:aD}{mg:aE}{base:Heap}{N ps:List Str}{qual:Str}{scope:Scope}{f:Addr}{cd:Value}{A:Around}{outer:List Env}{s s1:Shared}{H:Hp}{E:XK}{us:aF}{vs:List V}
   (S:FnScope N ps scope) (hd:A.handled=none) (e0:Env0 P w K mg base A outer s H) (hl:vs.length=ps.length) (r:Vals vs us)
   (x:InCallC s s.heap.objs.size (bindL (envOfC qual scope s.heap.objs.size f cd).kindOf (ps.zip us) λ_=>none) (cellsFrom (s.heap.objs.size+1) scope.names []) (bindC (envOfC qual scope s.heap.objs.size f cd).kindOf (ps.zip us) λ_=>none) s1) :
   Inv (cxOf CX P w K mg base N qual scope f cd A outer s H E) [] (start N vs) H s1:=by
 have hpl:ps.length<=N.length:=by have:=congrArg List.length S.pre;rw[vx]at this;rfl'
 obtain⟨h1,tk,rfl,hk⟩:=x.done;have noA:∀ b:Addr,b ∉ (cxOf CX P w K mg base N qual scope f cd A outer s H E).ex:=λb z=>absurd (show b∈([]:List Addr)from z) (by simp);refine⟨⟨e0.mod,S.kind,rfl,rfl,wu _,λy z c h1 h2=>?_,λy hy=>?_,λy c _ h=>?_,λ_=>hd,Around.frames_deeper e0.frames,.inr ⟨rfl,rfl⟩,λb z=>absurd z (noA b),e0.bs,e0.bsz,λb _ _=>noA b,λb z=>absurd z (noA b),e0.funs,e0.frf⟩,
   rfl,e0.bare,Un.kept hk,⟨_,x.toInCall.ns,λi y v h1 h2 h3=>?_⟩,λy c h=>⟨_,x.cell y c h⟩,e0.hok.fresh (wu _),λy c h=>?_,λp hp=>absurd (show p∈([]:aB)from hp) (by simp),e0.hok.kept hk,?_⟩
 · exact name_of_addr x.apart (PySem.mem_of_lookup h1) (PySem.mem_of_lookup h2)
 · have hy:scope.names.lookup y=some .cell\/scope.names.lookup y=some .free:=hy;rcases hy with hy|hy
   · exact OM hy
   · exact absurd rfl (S.nofree _ (PySem.mem_of_lookup hy))
 · exact vw (x.above y c (PySem.mem_of_lookup h))
 · have hi:i<vs.length:=by
     unfold start at h2;by_cases hi:i<vs.length
     · exact hi
     · rw[vi (by simpa using hi)]at h2;rw[vj]at h2;split at h2<;>cases h2
   have ha:vs[i]?=some v:=by
     unfold start at h2;rw[wX (by simpa using hi),wF]at h2;cases e:vs[i]? with
     | none=>rw[e]at h2;cases h2
     | some a=>rw[e]at h2;cases h2;rfl
   obtain⟨u,hu,rv⟩:=r.get ha;have hp:ps[i]?=some y:=by
     rw[←S.pre,List.getElem?_take_of_lt (by rfl')];exact h1
   have ndP:ps.Nodup:=by rw[←S.pre];exact S.nd.sublist (List.take_sublist _ _)
   refine⟨u,rv,?_⟩;rcases S.par y (uq hp)with k|k
   · exact .inl ⟨k,Lw ndP hp hu k⟩
   · obtain⟨c,e⟩:=OM (n:=s.heap.objs.size+1) k;refine .inr ⟨.inl k,c,e,?_⟩;have q:=x.cell y c e;rw[Lx ndP hp hu (by show scope.names.lookup y≠_;rw[k];decide)]at q;exact q
 · exact e0.hok.fresh (vw (x.above y c (PySem.mem_of_lookup h)))
 · unfold start;show _=N.length;rw[ww,wv,vA];rfl'
theorem fn_of{CX:CXT}{P:Program}{w:World}{K:aD}{mg:aE}{base:Heap}{k:Nat}{f:Addr}{name qual:Str}{params:Arguments}{body:List Stmt}{scope:Scope}{dV kV doc pm cdv ct oc:Value}{an od:Option Addr}
  {osl:Array (Option Value)} {N ps:List Str} {sp:Sp} (lk:K.lookup f=some ⟨oc,od,.func (PySem.W.fnOf name qual params body scope dV kV doc pm an cdv ct),osl⟩) (hcd:PySem.W.codeIn K cdv qual=true) (S:FnScope N ps scope)
  (len:∀ vs H Q E,sp vs H Q E->vs.length=ps.length)
  (hbody:∀(A:Around) (outer:List Env) (s:Shared) (H:Hp) (vs:List V) (Q:VK) (E:XK),Room k (A.deeper (envOfC qual scope s.heap.objs.size f cdv))->sp vs H Q E ->
    ∃ t,PSs (cxOf CX P w K mg base N qual scope f cdv A outer s H E) body t/\t { nx:=λ_ H'=>Q .non H',rt:=Q } (start N vs) H) :
  FnOk P w K mg base CX (k+1) f (PySem.W.fnOf name qual params body scope dV kV doc pm an cdv ct) ps sp:=by
 refine⟨len,λA outer s H args us vs Q E hr e0 hb r hsp=>?_⟩;have hl:=len _ _ _ _ hsp;have KX:K.In s.heap:=e0.mod.kin.keeps λb o e=>(e0.bs b o e).1;have lim:s.heap.NoLimit:=e0.mod.nolimit.keeps λb o e=>(e0.bs b o e).1;have hkind:∀ y∈ps.zip us,scope.names.lookup y.1=some .local\/(scope.names.lookup y.1=some .cell/\((cellsFrom (s.heap.objs.size+1) scope.names []).lookup y.1).isSome=true):=λ⟨n,v⟩ hy=>by
  rcases S.par n (vt hy).1 with q|q
  · exact .inl q
  · exact .inr ⟨q,PySem.W.cellsFrom_some _ _ _ (.inl q)⟩
 refine codeAny_call_function hr.depth (KX _ _ lk) rfl S.co S.gen rfl (PySem.W.codeRec_of KX hcd) (hb _ _ _ _ ?_);refine wpAny_newFunctionEnv_cells S.kind hkind λenv he s1 x=>?_;subst he;refine⟨lim.keeps x.toInCall.keep,codeAny_func ?_⟩;obtain⟨t,ht,hq⟩:=hbody A outer s H vs Q E (hr.deeper _) hsp;have I:Inv (cxOf CX P w K mg base N qual scope f cdv A outer s H E) [] (start N vs) H s1:=Zs S hr.hd e0 hl r x;refine wpAny_mono (ht [] s1 (start N vs) H _ I hq) (λfl s' hs=>?_) λe s' hs=>hs;have fin:∀{σ':St} {H':Hp} {v:V} {u:Value},Inv (cxOf CX P w K mg base N qual scope f cdv A outer s H E) [] σ' H' s'->RelV v u->Q v H'->CE outer P w H s Q u s' :=
  λ{σ' H' v u} J rv q=>⟨v,H',J.os,J.bare,J.base,J.hok,rv,q⟩
 cases fl with
 | ret u =>
  obtain⟨v,σ',H',J,rv,q⟩:=hs;exact fin J rv q
 | next =>
  obtain⟨σ',H',J,q⟩:=hs;exact fin (v:=V.non) (u:=Value.none) J rfl q
 | brk =>
  obtain⟨_,_,_,q⟩:=hs;exact False.elim q
 | cont =>
  obtain⟨_,_,_,q⟩:=hs;exact False.elim q
end L2
namespace L2
open PySem PySem.Spec PyProof.Rows
section
variable {X:Cx}{x:Str}{p pos:Pos}{e:Expr}{es:List Expr}{t:TA}{id T:String}{r:List V->Hp->VK->Prop}
def tCB(r:List V->Hp->VK->Prop)(t:TA):TE:=λσ H Q=>t σ H λvs H1=>r vs H1 Q
theorem ON(hc:Fd X (.builtin id) r)(hg:Gl X x)(hm:X.mg x=none)(hv:bootBuiltins x=some (.builtin id))(ha:PA X (e::es) t)(hn:x ≠ "__name__" := by decide)(hdb:(x==("__debug__" : Str))=false:=by decide)
  (he:starEach (e::es) X.env=(false,eval e X.env)::starEach es X.env:=by rfl) (hpl:(backTo pos (starEach es X.env)).any (·.1)=false:=by rfl):PE X (.Call (.Name x p) (e::es) [] pos) (tCB r t):=by
 intro π s σ H Q I h;refine wpAny_Call_Name_kw (Bk I hg hm hv ?_ hn hdb);exact PyProof.Rows.callWith_builtin1 (thn (ha pos π s σ H _ I h) λus s1⟨vs,H1,I1,r1,q1⟩=>hc π s1 σ H1 vs us Q I1 r1 q1) he hpl
theorem Zt(hc:Fd X (.type T) r)(hg:Gl X x)(hm:X.mg x=none)(hv:bootBuiltins x=some (.type T))(ha:PA X (e::es) t)(hn:x ≠ "__name__" := by decide)(hdb:(x==("__debug__" : Str))=false:=by decide)
  (he:starEach (e::es) X.env=(false,eval e X.env)::starEach es X.env:=by rfl) (hpl:(backTo pos (starEach es X.env)).any (·.1)=false:=by rfl):PE X (.Call (.Name x p) (e::es) [] pos) (tCB r t):=by
 intro π s σ H Q I h;refine wpAny_Call_Name_kw (Bk I hg hm hv ?_ hn hdb);exact PyProof.Rows.callWith_type1 (thn (ha pos π s σ H _ I h) λus s1⟨vs,H1,I1,r1,q1⟩=>hc π s1 σ H1 vs us Q I1 r1 q1) he hpl
end
end L2
namespace HT
open PySem PyProof.Rows
section
open PySem.SeqAt
open PySem.AutoSeq1 (wpAny_loadPart')
open PySem.MeetsSeq PySem.MeetsSeq2 PySem.MeetsSeq3
end
section
variable {prog:Program}{w:World}{A:Around}{E:aC}{s:Shared}
theorem cat_tup{t b:Addr}{vs ws:aF}{Q:aC}(ht:IsTup s.heap t vs.toArray)(hb:IsTup s.heap b ws.toArray)(hv:vs≠[])
   (h1:ws=[]->Q (.ref t) s) (h2:ws≠[]->Q (.ref s.heap.objs.size) { s with heap:=s.heap.push { cls := .type "tuple",data := .seq (vs++ws).toArray } })
   (hsz:vs.length+ws.length<=sizeLine):wpAny (model prog w) A (binaryOp .Add (.ref t) (.ref b)) Q E s:=by
 obtain⟨⟨cls,dd,data,sl⟩,ho,hc,n,hd⟩:=id ht;obtain⟨⟨cls2,dd2,data2,sl2⟩,ho2,hc2,n2,hd2⟩:=id hb;simp only at hc hd hc2 hd2;subst hc hd hc2 hd2;have e:vs.toArray++ws.toArray=(vs++ws).toArray:=by simp
 by_cases hw:ws=[]
 · exact concat_meets ⟨_,ho,rfl⟩ ⟨_,ho2,rfl⟩ noFill_tuple_add seq_tuple_add PySem.F.slot_tuple_add PySem.F.entry_tuple_add (PySem.F.args_tuple_add_2 _ _)
    (tuple_addW1 t b vs.toArray ws.toArray n n2 dd dd2 sl sl2 (by simpa using hv) (by simp[hw])) ⟨ho,ho2,h1 hw⟩
 · refine concat_meets ⟨_,ho,rfl⟩ ⟨_,ho2,rfl⟩ noFill_tuple_add seq_tuple_add PySem.F.slot_tuple_add PySem.F.entry_tuple_add (PySem.F.args_tuple_add_2 _ _)
    (tuple_addW2 t b vs.toArray ws.toArray n n2 dd dd2 sl sl2 (by simpa using hv) (by simpa using hw) (by rw[wx,wx];exact hsz)) ⟨ho,ho2,?_⟩
   rw[e];exact h2 hw
def sIx(n d:Nat):Option Int->Nat
 | none=>d
 | some v=>if v<0 then(v+(n:Int)).toNat else min v.toNat n
theorem sIx_none(n d:Nat):sIx n d none=d:=rfl
theorem sIx_nat(n d k:Nat):sIx n d (some (k:Int))=min k n:=by
 show(if(k:Int)<0 then((k:Int)+(n:Int)).toNat else min (k:Int).toNat n)=min k n;rw[if_neg (by rfl'),w09]
end
end HT
namespace L2
open PySem PySem.Spec PyProof.Rows
abbrev TO:=St->Hp->(Option Int->Hp->Prop)->Prop
def PO(X:Cx)(e:Option Expr)(t:TO):Prop :=
 ∀(π:aB) (s:Shared) (σ:St) (H:Hp) (Q:Option Int->Hp->Prop),Inv X π σ H s->t σ H Q ->
  wpAny (model X.prog X.w) X.A (evalPart e X.env) (λu s'=>∃ o H',Inv X π σ H' s'/\IsPart u o/\Q o H') X.xe s
def z56:TO:=λ_ H Q=>Q none H
def tPart(t:TE):TO:=λσ H Q=>t σ H λx H1=>∃ i,x = .int i/\Q (some i) H1
section
variable {X:Cx}{e:Expr}{te:TE}{lo hi:Option Expr}{tl th:TO}{pos p2:Pos}
theorem z57:PO X none z56:=by
 intro π s σ H Q I h;rw[evalPart_none];exact wpAny_pure ⟨none,H,I,.none,h⟩
theorem z58(h:PE X e te):PO X (some e) (tPart te):=by
 intro π s σ H Q I hw;rw[evalPart_some];refine thn (h π s σ H _ I hw) ?_;rintro u s1 ⟨x,H1,I1,r1,q1⟩;obtain⟨i,rfl,q⟩:=q1;obtain⟨t,rfl⟩:=r1;exact⟨some i,H1,I1,.int i t,q⟩
def SlR(X:Cx)(r:V->Option Int->Option Int->Hp->VK->Prop):Prop :=
 ∀(π:aB) (s:Shared) (σ:St) (H:Hp) (x:V) (v vl vu:Value) (lo hi:Option Int) (sl:Addr) (Q:VK),Inv X π σ H s->RelV x v->s.heap.IsSliceOf sl vl vu .none->IsPart vl lo->IsPart vu hi->r x lo hi H Q ->
  ∃ T id,typeLookup (.type T) "__getitem__" = pure (some (.builtin id))/\s.TypeIs v T/\wpAny (model X.prog X.w) X.A (getItem v (.ref sl)) (EP X π σ Q) X.xe s
def tSl(r:V->Option Int->Option Int->Hp->VK->Prop)(te:TE)(tl th:TO):TE:=λσ H Q=>te σ H λx H1=>tl σ H1 λl H2=>th σ H2 λu H3=>r x l u H3 Q
theorem z0F{r:V->Option Int->Option Int->Hp->VK->Prop}(hr:SlR X r)(he:PE X e te)(hl:PO X lo tl)(hu:PO X hi th):PE X (.Subscript e (.Slice lo hi none p2) pos) (tSl r te tl th):=by
 intro π s σ H Q I h;refine Subscript_ (thn (he π s σ H _ I h) ?_);rintro v s1 ⟨x,H1,I1,r1,q1⟩;refine wpAny_Slice (thn (hl π s1 σ H1 _ I1 q1) λvl s2⟨l,H2,I2,pl,q2⟩=>thn (hu π s2 σ H2 _ I2 q2) ?_);rintro vu s3 ⟨u,H3,I3,pu,q3⟩;rw[evalPart_none];refine wpAny_pure ?_;have I4:Inv X π σ H3 { s3 with heap:=s3.heap.push { cls := .type "slice",data := .fields #[vl,vu,.none] } }:=I3.kept (t':=s3.toks) λb ob q=>wf _ q;obtain⟨T,id,hT,ht,hg⟩:=hr π { s3 with heap:=s3.heap.push { cls := .type "slice",data := .fields #[vl,vu,.none] } } σ H3 x v vl vu l u s3.heap.objs.size Q I4 r1 (Heap.IsSliceOf.new ..) pl pu q3;show wpAny (model X.prog X.w) X.A (subscriptTail e (.Slice lo hi none p2) v (.ref s3.heap.objs.size)) (EP X π σ Q) X.xe { s3 with heap:=s3.heap.push { cls := .type "slice",data := .fields #[vl,vu,.none] } };exact tail_any (ops:=[.ref s3.heap.objs.size,v]) ht hT hg (by with_unfolding_all rfl)
def cutV(xs:List V)(lo hi:Option Int):List V:=(xs.drop (HT.sIx xs.length 0 lo)).take (HT.sIx xs.length xs.length hi-HT.sIx xs.length 0 lo)
theorem OO(xs:List V)(lo hi:Option Int):(cutV xs lo hi).length<=xs.length:=by
 unfold cutV;rw[vx,wY];rfl'
def rCatT(K:aD):R2:=λx y H Q=>∃ a b xs ys,x = .ref a/\y = .ref b/\SqT K H a xs/\SqT K H b ys/\xs≠[]/\xs.length+ys.length<=sizeLine /\
 (ys=[]->Q (.ref a) H)/\(ys≠[]->∀ p,H p=none->Q (.ref p) (upd H p (.tup (xs++ys))))
theorem Vals.nil_iff{xs:List V}{us:aF}(r:Vals xs us):us=[]↔xs=[]:=by
 cases r with
 | nil=>simp
 | cons _ _=>simp
theorem z59:OpR X (binaryOp .Add) (rCatT X.K):=by
 intro π s σ H x y v u Q I rx ry h;obtain⟨a,b,xs,ys,rfl,rfl,ha,hb,hx,hz,q1,q2⟩:=h;cases rx;cases ry;obtain⟨its,r1,p1,_⟩:=I.tuple ha;obtain⟨its2,r2,p2,_⟩:=I.tuple hb;refine HT.cat_tup p1 p2 (λz=>hx (r1.nil_iff.mp z)) (λz=>⟨.ref a,H,I,rfl,q1 (r2.nil_iff.mp z)⟩) (λz=>?_) (by rw[←r1.length,←r2.length];exact hz);refine⟨.ref s.heap.objs.size,_,I.laid (t':=s.toks) (o := .tup (xs++ys)) (λb ob q=>wf _ q) (wu _) ?_,rfl,q2 (λw=>z (r2.nil_iff.mpr w)) _ (I.hok.fresh (wu _))⟩;exact⟨by rw[ww];exact hz,_,r1.append r2,IsTup.new _ _⟩
end
end L2
namespace L2
open PySem PySem.Spec PyProof.Rows
def ixN(n:Nat)(i:Int):Option Nat:=if 0<=i then(if i<n then some i.toNat else none) else if -(n:Int)<=i then some (i+n).toNat else none
def atI{α:Type}(xs:List α)(i:Int):Option α:=(ixN xs.length i).bind λj=>xs[j]?
theorem XZ{n:Nat}{i:Int}{j:Nat}(h:ixN n i=some j):seqIndex? i n=some j/\j<n /\ -(n:Int)<=i/\i<n:=by
 unfold ixN at h;by_cases h0:0<=i
 · rw[if_pos h0]at h;by_cases h1:i<n
   · rw[if_pos h1]at h;have e:i.toNat=j:=Option.some.inj h;exact⟨by rw[seqIndex_of h0 h1,e],by rfl',by rfl',h1⟩
   · rw[if_neg h1]at h;cases h
 · rw[if_neg h0]at h;by_cases h1 : -(n:Int)<=i
   · rw[if_pos h1]at h;have e:(i+n).toNat=j:=Option.some.inj h;exact⟨by rw[seqIndex_neg (by rfl') h1,e],by rfl',h1,by rfl'⟩
   · rw[if_neg h1]at h;cases h
theorem Nv{α:Type}{xs:List α}{i:Int}{v:α}(h:atI xs i=some v):∃ j,seqIndex? i xs.length=some j/\xs[j]?=some v/\j<xs.length /\ -(xs.length:Int)<=i/\i<xs.length:=by
 unfold atI at h;cases e:ixN xs.length i with
 | none=>rw[e]at h;cases h
 | some j =>
  rw[e]at h;obtain⟨h1,h2,h3,h4⟩:=XZ e;exact⟨j,h1,h,h2,h3,h4⟩
theorem Bn{α:Type}{xs:List α}{j:Nat}{v:α}(h:xs[j]?=some v):atI xs (j:Int)=some v:=by
 have hj:j<xs.length:=(vF.mp h).1;have e:ixN xs.length (j:Int)=some j:=by
  unfold ixN;rw[if_pos (by rfl'),if_pos (by rfl')];simp
 unfold atI;rw[e];exact h
def Nw(b:Expr):Prop:=∀ o i,subscripted b false o i=operate [o,i] (getItem o i)
def IxR(X:Cx)(r:R2):Prop :=
 ∀(value slice:Expr) (π:aB) (s:Shared) (σ:St) (H:Hp) (x y:V) (v u:Value) (Q:VK),Inv X π σ H s->RelV x v->RelV y u->r x y H Q ->
  subscripted slice false v u=operate [v,u] (getItem v u)->wpAny (model X.prog X.w) X.A (subscriptTail value slice v u) (EP X π σ Q) X.xe s
def MtR(X:Cx)(id:String)(r:V->List V->Hp->VK->Prop):Prop :=
 ∀(π:aB) (s:Shared) (σ:St) (H:Hp) (x:V) (xs:List V) (v:Value) (us:aF) (Q:VK),Inv X π σ H s->RelV x v->Vals xs us->r x xs H Q ->
  wpAny (model X.prog X.w) X.A (call (.builtin id) (v::us)) (EP X π σ Q) X.xe s
section
variable {X:Cx}{a b:Expr}{ta tb:TE}{pos:Pos}
theorem IxR.or{r r':R2}(h:IxR X r)(h':IxR X r'):IxR X (λx y H Q=>r x y H Q\/r' x y H Q):=by
 intro value slice π s σ H x y v u Q I rx ry q hs;rcases q with q|q
 · exact h value slice π s σ H x y v u Q I rx ry q hs
 · exact h' value slice π s σ H x y v u Q I rx ry q hs
theorem pe_ix{r:R2}(hr:IxR X r)(ha:PE X a ta)(hb:PE X b tb)(hs:Nw b):PE X (.Subscript a b pos) (tOp r ta tb):=by
 intro π s σ H Q I h;exact Subscript_ (binT ha hb I h λv u s2 x y H2 I2 rx ry q=>hr a b π s2 σ H2 x y v u Q I2 rx ry q (hs _ _))
def rIxL(K:aD):R2:=λx y H Q=>∃ p xs i v,x = .ref p/\y = .int i/\SqL K H p xs/\atI xs i=some v/\Q v H
def rIxT(K:aD):R2:=λx y H Q=>∃ p xs i v,x = .ref p/\y = .int i/\SqT K H p xs/\atI xs i=some v/\Q v H
def rIxS:R2:=λx y H Q=>∃ z i c,x = .str z/\y = .int i/\z.length<=sizeLine/\atI z.cps.toList i=some c/\Q (.str ⟨#[c]⟩) H
theorem z5a:IxR X (rIxL X.K):=by
 intro value slice π s σ H x y v u Q I rx ry h hs;obtain⟨p,xs,i,z,rfl,rfl,hq,he,q⟩:=h;cases rx;obtain⟨t,rfl⟩:=ry;obtain⟨its,r,pl,hz⟩:=I.list hq;obtain⟨j,h1,h2,h3,h4,h5⟩:=Nv he;obtain⟨w,ew,rw'⟩:=r.get h2;have hl:=r.length;have hn:=GE;have fin:EP X π σ Q w s:=⟨z,H,I,rw',q⟩;by_cases h0:0<=i
 · have hj:i.toNat=j:=by
    rw[seqIndex_of h0 h5]at h1;exact Option.some.inj h1
   exact item_listR pl.isList h0 (by rfl') (by rw[hj];simpa using ew) fin hs
 · have hj:(i+(its.toArray.size:Int)).toNat=j:=by
    rw[seqIndex_neg (by rfl') h4]at h1;rw[wx,←hl];exact Option.some.inj h1
   exact subscriptTail_builtinR (x:=w) pl.isList.typeIs slot_list_getitem.lookup
    (wpAny_getItem_list_neg (Q:=λr s'=>r=w/\EP X π σ Q r s') pl.isList (by rfl') (by rw[wx]<;>rfl') (by rfl') (by rw[hj];simpa using ew) ⟨rfl,fin⟩) hs
theorem ix_tup:IxR X (rIxT X.K):=by
 intro value slice π s σ H x y v u Q I rx ry h hs;obtain⟨p,xs,i,z,rfl,rfl,hq,he,q⟩:=h;cases rx;obtain⟨t,rfl⟩:=ry;obtain⟨its,r,pl,hz⟩:=I.tuple hq;obtain⟨j,h1,h2,h3,h4,h5⟩:=Nv he;obtain⟨w,ew,rw'⟩:=r.get h2;have hl:=r.length;have hn:=GE;have fin:EP X π σ Q w s:=⟨z,H,I,rw',q⟩;exact subscriptTail_builtinR (x:=w) pl.typeIs slot_tuple_getitem.lookup
  (getItem_tuple (j:=j) (Q:=λr s'=>r=w/\EP X π σ Q r s') pl (by rfl') (by rfl') (by rw[wx,←hl];exact h1) (by simpa using ew) ⟨rfl,fin⟩) hs
theorem ix_str:IxR X rIxS:=by
 intro value slice π s σ H x y v u Q I rx ry h hs;obtain⟨z,i,c,rfl,rfl,hz,he,q⟩:=h;obtain⟨t,rfl⟩:=rx;obtain⟨t',rfl⟩:=ry;obtain⟨j,h1,h2,h3,h4,h5⟩:=Nv he;have hl:z.cps.toList.length=z.length:=by simp[Str.length]
 rw[hl]at h1 h4 h5;have hn:=GE;exact tail_any (typeIs_str s z t) slot_str_getitem.lookup (getItem_str (c:=c) (by
  have e1:decide (i < -(2 ^ 63:Int))=false:=decide_eq_false (by rfl');have e2:decide (i≥2 ^ 63)=false:=decide_eq_false (by rfl');rw[e1,e2,Bool.or_false]) (by rw[h1];simpa using h2) ⟨.str ⟨#[c]⟩,H,I.tok _,⟨_,rfl⟩,q⟩) hs
def rIx(K:aD):R2:=λx y H Q=>rIxL K x y H Q\/rIxT K x y H Q\/rIxS x y H Q
theorem ix_seq:IxR X (rIx X.K):=z5a.or (ix_tup.or ix_str)
theorem Rb(its:aF)(n j:Nat)(u:Value):Obj.mapSeq (·.setIfInBounds j u) { cls := .type "list",data := .seq its.toArray n }={ cls := .type "list",data := .seq (its.set j u).toArray n }:=by
 simp[Obj.mapSeq]
theorem Inv.lst{π:aB}{σ:St}{H:Hp}{s:Shared}{p:Addr}{xs:List V}(I:Inv X π σ H s)(h:H p=some (.lst xs)):
  ∃(its:aF) (n:Nat),Vals xs its/\s.heap.get? p=some { cls := .type "list",data := .seq its.toArray n }/\xs.length<=sizeLine:=by
 obtain⟨z,its,n,r,e⟩:=I.hok p _ h;exact⟨its,n,r,e,z⟩
theorem Inv.lstUpd{π:aB}{σ:St}{H:Hp}{s:Shared}{p:Addr}{xs ys:List V}{its its':aF}{n n':Nat}{f:Obj->Obj}(I:Inv X π σ H s)(h:H p=some (.lst xs))
  (ho:s.heap.get? p=some { cls := .type "list",data := .seq its.toArray n }) (hf:f { cls := .type "list",data := .seq its.toArray n }={ cls := .type "list",data := .seq its'.toArray n' }) (r:Vals ys its') (hz:ys.length<=sizeLine) (t:Nat) :
  Inv X π σ (upd H p (.lst ys)) { s with heap:=s.heap.update p f,toks:=t }:=by
 have e:(s.heap.update p f).get? p=some { cls := .type "list",data := .seq its'.toArray n' }:=by
  rw[w0w f ho (by rw[hf]<;>rfl),hf]
 refine I.write (x:=p) (e:=p) (by rw[h];trivial) (.inl rfl) (λb u hb q=>(w0p _ _ (Ne.symm hb)).trans q) ⟨_,e⟩ ?_;exact⟨hz,its',n',r,e⟩
def rSetL:V->V->V->Hp->(Hp->Prop)->Prop:=λo i v H Q=>∃ p xs k j,o = .ref p/\i = .int k/\H p=some (.lst xs)/\ixN xs.length k=some j/\Q (upd H p (.lst (xs.set j v)))
theorem z0G:PSet X rSetL:=by
 intro π s σ H o i v ov iv u Q I ro ri rv h;obtain⟨p,xs,k,j,rfl,rfl,hp,hj,q⟩:=h;cases ro;obtain⟨t,rfl⟩:=ri;obtain⟨its,n,r,ho,hz⟩:=I.lst hp;obtain⟨h1,h2,h3,h4⟩:=XZ hj;have hl:=r.length;have hn:=GE;have I':Inv X π σ (upd H p (.lst (xs.set j v))) { s with heap:=s.heap.update p (Obj.mapSeq (·.setIfInBounds j u)) } :=
   I.lstUpd hp ho (Rb its n j u) (r.set rv j) (by rw[vv];exact hz) s.toks
 by_cases h0:0<=k
 · have hk:k.toNat=j:=by
    rw[seqIndex_of h0 h4]at h1;exact Option.some.inj h1
   exact PySem.W.ki_setAt ho h0 (by rfl') (by rw[wx,←hl];exact h4) (by rw[hk];exact⟨_,I',q⟩)
 · have hk:(k+(its.toArray.size:Int)).toNat=j:=by
    rw[seqIndex_neg (by rfl') h3]at h1;rw[wx,←hl];exact Option.some.inj h1
   exact PySem.W.ki_setBack ho (by rfl') (by rw[wx,←hl];exact h3) (by rfl') (by rw[hk];exact⟨_,I',q⟩)
theorem Nx(lo hi:Option Int)(n:Nat):(sliceBounds lo hi none n).1=((HT.sIx n 0 lo:Nat):Int)/\(sliceBounds lo hi none n).2.1=((HT.sIx n n hi:Nat):Int)/\(sliceBounds lo hi none n).2.2=1:=by
 refine⟨?_,?_,rfl⟩
 · cases lo with
   | none=>simp[sliceBounds,HT.sIx]
   | some i =>
    simp only[sliceBounds,HT.sIx,w0W,show(1:Int) > 0 by decide,if_true];by_cases h:i<0
    · simp only[h,if_true]<;>rfl'
    · simp only[h,if_false]<;>rfl'
 · cases hi with
   | none=>simp[sliceBounds,HT.sIx]
   | some i =>
    simp only[sliceBounds,HT.sIx,w0W,show(1:Int) > 0 by decide,if_true];by_cases h:i<0
    · simp only[h,if_true]<;>rfl'
    · simp only[h,if_false]<;>rfl'
theorem Lj(its:aF)(lo hi:Option Int):slicePick its.toArray lo hi none=((its.drop (HT.sIx its.length 0 lo)).take (HT.sIx its.length its.length hi-HT.sIx its.length 0 lo)).toArray:=by
 obtain⟨h1,h2,h3⟩:=Nx lo hi its.toArray.size;unfold slicePick;rw[h1,h2,h3];simp only[sliceRange_one,pick_run,wx]<;>rfl
def rSlL(K:aD):V->Option Int->Option Int->Hp->VK->Prop:=λx lo hi H Q=>∃ a xs,x = .ref a/\SqL K H a xs/\∀ p,H p=none->Q (.ref p) (upd H p (.lst (cutV xs lo hi)))
theorem z5b:SlR X (rSlL X.K):=by
 intro π s σ H x v vl vu lo hi sl Q I rx hs pl pu h;obtain⟨a,xs,rfl,hx,q⟩:=h;cases rx;obtain⟨its,r,ht,hz⟩:=I.list hx;have hlen:=r.length;refine⟨"list",_,slot_list_getitem.lookup,ht.isList.typeIs,?_⟩;refine wpAny_getItem_list_slice ht.isList hs pl pu .none (by simp) ?_ (by rw[wx]<;>rfl');rw[Lj,←hlen];refine⟨.ref s.heap.objs.size,_,I.laid (t':=s.toks) (o := .lst (cutV xs lo hi)) (λb ob q=>wf _ q) (wu _) ?_,rfl,q _ (I.hok.fresh (wu _))⟩;exact⟨wG (OO xs lo hi) hz,_,0,(r.drop (HT.sIx xs.length 0 lo)).take (HT.sIx xs.length xs.length hi-HT.sIx xs.length 0 lo),wD _ rfl⟩
theorem Bo:Fd X (.builtin "len") (λxs H Q=>∃ p ys,xs=[.ref p]/\(SqL X.K H p ys\/SqT X.K H p ys)/\Q (.int ys.length) H):=by
 intro π s σ H xs us Q I r h;obtain⟨p,ys,rfl,hq,q⟩:=h;obtain⟨u,rfl,rx⟩:=Lr r;cases rx;have hn:=GE;rcases hq with hq|hq
 · obtain⟨its,r',pl,hz⟩:=I.list hq;have hlen:=r'.length;exact Calls.call_len_list pl.isList (by simp only[wx]<;>rfl') ⟨.int ys.length,H,I.tok _,⟨s.toks+1,by rw[wx,hlen]⟩,q⟩
 · obtain⟨its,r',pl,hz⟩:=I.tuple hq;have hlen:=r'.length;exact len_tuple pl (by simp only[wx]<;>rfl') ⟨.int ys.length,H,I.tok _,⟨s.toks+1,by rw[wx,hlen]⟩,q⟩
theorem Ff:Fd X (.type "list") (λxs H Q=>∃ p ys,xs=[.ref p]/\(SqL X.K H p ys\/SqT X.K H p ys)/\∀ l,H l=none->Q (.ref l) (upd H l (.lst ys))):=by
 intro π s σ H xs us Q I r h;obtain⟨p,ys,rfl,hq,q⟩:=h;obtain⟨u,rfl,rx⟩:=Lr r;cases rx;have fin:∀(its:aF),Vals ys its->ys.length<=sizeLine->∀(h':Heap) (c':Nat),(∀ b o',s.heap.get? b=some o'->h'.get? b=some o') ->
    h'.get? s.heap.objs.size=some { cls := .type "list",dict:=none,data := .seq its.toArray c',slots:=#[] }->EP X π σ Q (.ref s.heap.objs.size) { s with heap:=h' }:=λits r' hz h' c' kp e =>
   ⟨.ref s.heap.objs.size,_,I.laid (t':=s.toks) kp (wu _) (show ObjOk X.prog X.w _ h' _ (.lst ys) from⟨hz,its,c',r',e⟩),rfl,q _ (I.hok.fresh (wu _))⟩
 rcases hq with hq|hq
 · obtain⟨its,r',pl,hz⟩:=I.list hq;have hlen:=r'.length;obtain⟨o,ho,hc,n,hd⟩:=pl.isList;exact call_list_seq p (.inl rfl) ho hc hd (λh' c' kp e=>fin its r' hz h' c' kp e) (by simp only[wx]<;>rfl')
 · obtain⟨its,r',pl,hz⟩:=I.tuple hq;have hlen:=r'.length;obtain⟨o,ho,hc,n,hd⟩:=pl;exact call_list_seq p (.inr rfl) ho hc hd (λh' c' kp e=>fin its r' hz h' c' kp e) (by simp only[wx]<;>rfl')
theorem Eg:Fd X (.type "tuple") (λxs H Q=>∃ p ys,xs=[.ref p]/\((SqL X.K H p ys/\∀ l,H l=none->Q (.ref l) (upd H l (.tup ys)))\/(SqT X.K H p ys/\Q (.ref p) H))):=by
 intro π s σ H xs us Q I r h;obtain⟨p,ys,rfl,h⟩:=h;obtain⟨u,rfl,rx⟩:=Lr r;cases rx;rcases h with⟨hq,q⟩|⟨hq,q⟩
 · obtain⟨its,r',pl,hz⟩:=I.list hq;have hlen:=r'.length;refine call_tuple_list pl.isList (λh' kp=>?_) (by simp only[wx]<;>rfl');have I1:Inv X π σ H { s with heap:=h' }:=I.kept (t':=s.toks) kp;have I2:Inv X π σ (upd H h'.objs.size (.tup ys)) { s with heap:=h'.push { cls := .type "tuple",data := .seq its.toArray } } :=
    I1.laid (t':=s.toks) (λb o e=>wf _ e) (wu _) (show ObjOk X.prog X.w _ _ _ (.tup ys) from⟨hz,its,r',IsTup.new _ _⟩)
   exact⟨.ref h'.objs.size,_,I2,rfl,q _ (I1.hok.fresh (wu _))⟩
 · obtain⟨its,r',pl,hz⟩:=I.tuple hq;exact call_tuple_same pl ⟨.ref p,H,I,rfl,q⟩
def tyV(K:aD)(T:String)(x:V)(H:Hp):Prop:=match x with
 | .str _=>T = "str"
 | .int _=>T = "int"
 | .ref p=>(T = "list" /\ ∃ xs,SqL K H p xs)\/(T = "tuple" /\ ∃ o,K.lookup p=some o/\o.cls = .type "tuple" /\ o.dict=none) \/
  (T = "dict" /\ ((∃ kvs,H p=some (.dK kvs))\/∃ kvs,H p=some (.dT kvs)))\/(T = "set" /\ ∃ S n,H p=some (.set S n))
 | _=>False
theorem tyV_is{π:aB}{σ:St}{H:Hp}{s:Shared}{T:String}{x:V}{v:Value}(I:Inv X π σ H s)(r:RelV x v)(ty:tyV X.K T x H):
  s.TypeIs v T/\∀ a,v = .ref a->∃ ob,s.heap.get? a=some ob/\ob.dict=none:=by
 cases x with
 | str z =>
  obtain⟨t,rfl⟩:=r;cases (show T = "str" from ty);exact⟨typeIs_str s z t,λ_ e=>nomatch e⟩
 | int i =>
  obtain⟨t,rfl⟩:=r;cases (show T = "int" from ty);exact⟨typeIs_int s i t,λ_ e=>nomatch e⟩
 | ref p =>
  cases r;rcases ty with⟨rfl,xs,hq⟩|⟨rfl,o,hk,hc,hd⟩|⟨rfl,hk⟩|⟨rfl,S,n,hk⟩
  · obtain⟨its,_,pl,_⟩:=I.list hq;refine⟨pl.isList.typeIs,λa e=>?_⟩;cases e;obtain⟨o,n,e,c,hd,_⟩:=pl;exact⟨o,e,hd⟩
  · refine⟨⟨o,I.kIn p o hk,hc⟩,λa e=>?_⟩;cases e;exact⟨o,I.kIn _ o hk,hd⟩
  · have z:∃ o,s.heap.get? p=some o/\o.ExactDict:=by
     rcases hk with⟨kvs,hk⟩|⟨kvs,hk⟩
     · obtain⟨_,_,_,_,o,_,_,e,ex,_⟩:=I.hok p _ hk;exact⟨o,e,ex⟩
     · obtain⟨_,_,_,_,o,_,_,e,ex,_⟩:=I.hok p _ hk;exact⟨o,e,ex⟩
    obtain⟨o,e,ex⟩:=z;refine⟨⟨o,e,ex.1⟩,λa e2=>?_⟩;cases e2;exact⟨o,e,ex.2.1⟩
  · obtain⟨o,_,_,_,e,ex,_⟩:=I.hok p _ hk;refine⟨⟨o,e,ex.1⟩,λa e2=>?_⟩;cases e2;exact⟨o,e,ex.2.1⟩
 | _=>exact False.elim ty
def tBM(K:aD)(T:String)(r:V->List V->Hp->VK->Prop)(to:TE)(t:TA):TE:=λσ H Q=>to σ H λx H1=>tyV K T x H1/\t σ H1 λxs H2=>r x xs H2 Q
variable {o e:Expr}{es:List Expr}{to:TE}{t:TA}{name:Str}{apos cpos:Pos}{T id:String}{r:V->List V->Hp->VK->Prop}
theorem pe_bm(pa:PlainAttrs T)(slot:Slot T name id)(hty:typeOf (.builtin id)=pure (.type "method_descriptor"))(hm:MtR X id r)(ho:PE X o to)(ha:PA X (e::es) t)
  (hbase:attributeBase o name X.env (eval o X.env)=eval o X.env:=by rfl)
  (hfew:((backTo cpos (starEach (e::es) X.env)).all (fun x=>!x.1)&&(backToKw cpos (keywordEach [] X.env)).all (fun x=>x.1.isSome)
   && decide ((e::es).length+([]:List Keyword).length+(if([]:List Keyword).isEmpty then 0 else 1)<30))=true:=by rfl)
  (hline:(apos.endLine==cpos.line)=true:=by rfl) (hs:starEach (e::es) X.env=(false,eval e X.env)::starEach es X.env:=by rfl) (hplain:(backTo cpos (starEach es X.env)).any (·.1)=false:=by rfl) :
  PE X (.Call (.Attribute o name apos) (e::es) [] cpos) (tBM X.K T r to t):=by
 intro π s σ H Q I h;refine wpAny_Call_method_late hbase hfew hline rfl (thn (ho π s σ H _ I h) ?_);rintro v s1 ⟨x,H1,I1,r1,ty,q1⟩;obtain⟨h1,h2⟩:=tyV_is I1 r1 ty;refine⟨T,id,pa,slot,hty,h1,h2,?_⟩;have hA:=ha cpos π s1 σ H1 _ I1 q1;rw[hs]at hA ⊢;refine Calls.callWith_builtin (by show(false||(backTo cpos (starEach es X.env)).any (·.1))=false;rw[hplain]<;>rfl) (Calls.evalArgs_plain ?_);exact thn hA λus s2⟨vs,H2,I2,r2,q2⟩=>hm π s2 σ H2 x vs v us Q I2 r1 r2 q2
end
end L2
namespace L2
open PySem PySem.Spec PyProof.Rows
def MtM(X:Cx)(id:String)(r:V->List V->Hp->VK->Prop):Prop :=
 ∀(π:aB) (s:Shared) (σ:St) (H:Hp) (x:V) (xs:List V) (v:Value) (us:aF) (Q:VK),Inv X π σ H s->RelV x v->Vals xs us->r x xs H Q ->
  wpAny (model X.prog X.w) X.A (call (.builtin id) (v::us)) (EP X π σ Q) X.xe s
theorem Vals.zero:∀{us:aF},Vals [] us->us=[]
 | _,.nil=>rfl
theorem Vals.uncons{x:V}{xs:List V}{us:aF}(h:Vals (x::xs) us):∃ u vs,us=u::vs/\RelV x u/\Vals xs vs:=by
 cases h with
 | cons r t=>exact⟨_,_,rfl,r,t⟩
theorem Vals.one{x:V}{us:aF}(h:Vals [x] us):∃ u,us=[u]/\RelV x u:=by
 obtain⟨u,vs,e,r,t⟩:=h.uncons;rw[t.zero]at e;exact⟨u,e,r⟩
theorem Vals.two{x y:V}{us:aF}(h:Vals [x,y] us):∃ u v,us=[u,v]/\RelV x u/\RelV y v:=by
 obtain⟨u,vs,e,r,t⟩:=h.uncons;obtain⟨v,e2,q⟩:=t.one;rw[e2]at e;exact⟨u,v,e,r,q⟩
section
variable {X:Cx}{π:aB}{σ:St}{H:Hp}{s:Shared}{l b:Addr}{xs ys zs:List V}
theorem Inv.lset{its its':aF}{n:Nat}{f:Array Value->Array Value}{t':Nat}(I:Inv X π σ H s)(hH:H l=some (.lst xs))
  (e:s.heap.get? l=some { cls := .type "list",data := .seq its.toArray n }) (hf:f its.toArray=its'.toArray) (hv:Vals ys its') (hz:ys.length<=sizeLine) :
  Inv X π σ (upd H l (.lst ys)) { s with heap:=s.heap.update l (Obj.mapSeq f),toks:=t' }:=by
 have q:=PySem.IsL.update e f;rw[hf]at q;refine I.write (x:=l) (e:=l) (by rw[hH];exact trivial) (.inl rfl) (λb' u hb hu=>(w0p s.heap (Obj.mapSeq f) (Ne.symm hb)).trans hu) ⟨_,q⟩ ?_;exact⟨hz,its',_,hv,q⟩
theorem Inv.lnew{its:aF}{t':Nat}(I:Inv X π σ H s)(hv:Vals ys its)(hz:ys.length<=sizeLine):
  Inv X π σ (upd H s.heap.objs.size (.lst ys)) { s with heap:=s.heap.push { cls := .type "list",data := .seq its.toArray },toks:=t' } :=
 I.laid (λ_ _ q=>wf _ q) (wu _) ⟨hz,its,0,hv,wD _ rfl⟩
theorem Inv.fresh(I:Inv X π σ H s):H s.heap.objs.size=none:=I.hok.fresh (wu _)
theorem Inv.lstM(I:Inv X π σ H s)(hH:H l=some (.lst xs)):xs.length<=sizeLine/\∃(its:aF) (n:Nat),Vals xs its/\xs.length=its.length/\s.heap.get? l=some { cls := .type "list",data := .seq its.toArray n }:=by
 obtain⟨z,its,n,r,e⟩:=I.hok l _ hH;exact⟨z,its,n,r,r.length,e⟩
end
section
variable {X:Cx}
def z5c:V->List V->Hp->VK->Prop:=λx vs H Q=>∃ l xs y,x = .ref l/\vs=[y]/\H l=some (.lst xs)/\xs.length<sizeLine/\Q .non (upd H l (.lst (xs++[y])))
theorem Ly:MtM X "list.append" z5c:=by
 intro π s σ H x vs v us Q I rx rv h;obtain⟨l,xs,y,rfl,rfl,hH,hz,q⟩:=h;cases rx;obtain⟨u,rfl,ru⟩:=rv.one;obtain⟨z,its,n,r,hl,e⟩:=I.lstM hH;refine call_meets F.slot_list_append ⟨_,e,rfl⟩ F.entry_list_append (F.args_list_append_2 _ _) (PySem.list_append l its.toArray n u (by rw[wx];rfl')) ⟨e,?_⟩;refine⟨.non,_,I.lset (its':=its++[u]) hH e (by simp) (r.append (.cons ru .nil)) ?_,rfl,q⟩;rw[ww,List.length_singleton];rfl'
def rCat:R2:=λx y H Q=>∃ l b xs zs,x = .ref l/\y = .ref b/\H l=some (.lst xs)/\H b=some (.lst zs)/\xs.length+zs.length<=sizeLine/\∀ p,H p=none->Q (.ref p) (upd H p (.lst (xs++zs)))
theorem op_cat:OpR X (binaryOp .Add) rCat:=by
 intro π s σ H x y v u Q I rx ry h;obtain⟨l,b,xs,zs,rfl,rfl,hH,hB,hz,q⟩:=h;cases rx;cases ry;obtain⟨z,its,n,r,hl,e⟩:=I.lstM hH;obtain⟨z2,its2,n2,r2,hl2,e2⟩:=I.lstM hB;refine PySem.P.add_list e e2 ?_ (by rw[wx,wx];rfl');have ea:its.toArray++its2.toArray=(its++its2).toArray:=by simp
 rw[ea];exact⟨.ref _,_,I.lnew (t':=s.toks) (r.append r2) (by rw[ww];rfl'),rfl,q _ I.fresh⟩
end
section
variable {prog:Program}{w:World}{A:Around}{E:aC}{s:Shared}
end
section
variable {X:Cx}
end
end L2
namespace Att
open PySem PySem.W PySem.Calls PyProof.Rows
theorem II{P:Params}{h:Heap}:∀(ns:aG) (vs:aF),WellAll P h vs (ns.map WData.int)->IntsAre vs ns:=by
 intro ns
 induction ns with
 | nil =>
  intro vs w;rw[w0M]at w;cases w;exact .nil
 | cons n ns ih =>
  intro vs w;rw[wm]at w;cases w with
  | cons a b =>
   cases a;exact .cons _ _ (ih _ b)
theorem Zu{l:OpenLaw}{n:Nat}(hn:l.most=some n){P:Params}{h:Heap}{args:List WData}{vals:aF}
  (hpre:l.row.toRowW.claim.pre args=true) (hwl:WellAll P h vals args) :
  ∃ a vs ns,vals=[Value.ref a]/\args=[WData.list (ns.map WData.int)]/\h.get? a=some { cls := .type "list",data := .seq vs.toArray }/\IntsAre vs ns/\ns.length<=n:=by
 have hsh:WShape.hasAll [] args [.list .int]=true:=(pre_splitW hpre).1;have hc:l.pre.holds [] { args:=args }=true:=(pre_splitW hpre).2;obtain⟨d,r,rfl,h1,h2⟩:=hasAllW_cons hsh;obtain rfl:=hasAllW_nil h2;obtain⟨xs,rfl,h3⟩:=hasW_list h1;obtain⟨ns,rfl⟩:=items_int h3;have hlen:ns.length<=n:=by
  unfold OpenLaw.pre at hc;have h4:(WTm.not (.lt (.lit (.int (n:Int))) (.len (.arg 0)))).holds [] { args:=[.list (ns.map .int)] }=true:=by
   have h4:=(holds_andW hc).1;rw[hn]at h4;exact h4
  have h5:=condW_of h4 (w_not (w_lt w_lit (w_len_list (w_arg rfl))));rw[wv]at h5;refine vG λq=>?_;have q':(n:Int)<((ns.length:Nat):Int):=by rfl'
  first
   | (rw[decide_eq_true q']at h5;exact absurd h5 (by decide))
   | (simp at h5;rfl')
 cases hwl with
 | cons w1 w2 =>
  cases w2;cases w1 with
  | list ho hall=>exact⟨_,_,ns,rfl,rfl,ho,II ns _ hall,hlen⟩
theorem Zv(l:OpenLaw)(args:List WData):l.row.toRowW.claim.post args (.bool true) args=true :=
 postW_of (r:=l.row.toRowW) (X:=(true==true))
  (show WShape.has [] (.bool true) .bool=true by first|rfl|decide|simp[WShape.has,WShape.arms,WShape.armsAll])
  (show(WTm.eq .res (.lit (.bool true))).value [] { args:=args,res:=some (.bool true),after:=args }=some (.bool (true==true))from w_eq_bool (w_res rfl) w_lit) rfl
theorem attach_call{l:OpenLaw}{n:Nat}{q:Program}{loose:List Str}{XP:(aE)->Heap->Prop}{YP:World->Heap->Prop}{d:DefRec}
  (hn:l.most=some n) (hdf:d.params.defaults=[])
  (call:∀(w:World) (s₀ s₁:Shared) (mg mb:Str→Option Value) (fa:Addr) (o:Obj) (pm cd doc:Value) (a:Addr) (vs:List Value) (ns:List Int),
   Ground q loose [] XP w s₀ mg mb s₁.heap->YP w s₁.heap ->
   s₁.heap.get? fa=some o->o.data = .func (docDef d.name d.params d.body d.scope pm cd doc)->s₁.heap.CodeRec cd d.name->mg d.name=some (.ref fa) ->
   s₁.heap.get? a=some { cls := .type "list",data := .seq vs.toArray }->IntsAre vs ns->ns.length<=n->s₁.gens=#[] ->
   codeAny (model l.prog w) callerA (.call (.ref fa) ⟨[.ref a],[]⟩) (λr s'=>r = .ok (.ret (.bool true))/\OldK s₁.heap s'.heap/\s'.os=s₁.os/\AllBare s'.gens) s₁) :
  WalkO q loose XP YP l.row.toRowW d [] (λf vs=>PySem.call f vs):=by
 intro w s₀ s₁ mg mb G Y fa o pm cd doc dV kV ho hd hcd hD hmg hg args vals as hpre hlay hrd hwl hlo;obtain rfl:dV = .none:=Dflts.none hD hdf;obtain rfl:kV = .none:=Dflts.noKw hD;obtain⟨a,vs,ns,rfl,rfl,hobj,hints,hlen⟩:=Zu hn hpre hwl;refine enter_call (codeAny_mono (call w s₀ s₁ mg mb fa o pm cd doc a vs ns G Y ho (fd_plain hd) hcd hmg hobj hints hlen hg) λr s' hq=>?_);obtain⟨rfl,h2,h3,h4⟩:=hq;exact⟨.inl ⟨.bool true,.bool true,[],rfl,λ_=>rfl,.bool true,Zv l _,λ_=>⟨List.Pairwise.nil,λ_ hm=>(nomatch hm)⟩⟩,h2,h3,h4⟩
section
variable {prog:Program}{w:World}{A:Around}{E:aC}{s:Shared}{K:Frag}
end
end Att
namespace L2
open PySem PySem.Spec PyProof.Rows
theorem Lz:∀{vs:aF} {ns:aG},IntsAre vs ns->Vals (ns.map V.int) vs
 | _,_,.nil => .nil
 | _,_,.cons n t h => .cons ⟨t,rfl⟩ (Lz h)
def Only(H:Hp):Prop:=∀ b,H b=none\/∃ o xs,H b=some (.frz o (.lst xs))
theorem z0H{P:Program}{w:World}{K:aD}{mg mb:aE}{CX:CXT}{k:Nat}{fa a:Addr}{fd:FuncData}{x:Str}{sp:Sp}{s₁:Shared}{vs:aF}{ns:aG}
  (KX:K.In s₁.heap) (hns:s₁.heap.Ns mainGlobals mg) (hb:s₁.heap.Ns builtinsNs mb) (hbb:∀ x:Str,x ≠ "__name__" -> mb x=bootBuiltins x) (hlim:s₁.heap.NoLimit) (hg:s₁.gens=#[])
  (ha:s₁.heap.get? a=some { cls := .type "list",data := .seq vs.toArray }) (hi:IntsAre vs ns) (hl:ns.length<=sizeLine) (hr:Room k callerA)
  (F:∀ base:Heap,K.In base->base.Ns mainGlobals mg->FnOk P w K mg base CX k fa fd [x] sp) (hbind:∀(s:Shared) (u:Value),BindsTo s fd ⟨[u],[]⟩ [(x,u)])
  (hsp:∀ H:Hp,Only H->SqL K H a (ns.map V.int)->sp [.ref a] H (λv _=>v = .bl true) λ_ _ _=>False)
  (hCX:∀ H e s',CX [] H s₁ (λ_ _ _=>False) e s'->False) :
  codeAny (model P w) callerA (.call (.ref fa) ⟨[.ref a],[]⟩) (λr s'=>r = .ok (.ret (.bool true))/\OldK s₁.heap s'.heap/\s'.os=s₁.os/\AllBare s'.gens) s₁:=by
 have rv:=Lz hi;have lenV:=hi.length
 have core:∀ H:Hp,Only H→SqL K H a (ns.map V.int)→HOk P w H s₁.heap→(∀ b,H b≠none→b=a)→(H a≠none→K.lookup a=none) →
    codeAny (model P w) callerA (.call (.ref fa) ⟨[.ref a],[]⟩) (λr s'=>r = .ok (.ret (.bool true))/\OldK s₁.heap s'.heap/\s'.os=s₁.os/\AllBare s'.gens) s₁:=by
  intro H hO hS hok hA hK;have base_of:∀{b:Addr} {o:Obj},s₁.heap.get? b=some o->H b=none->(hidT s₁.heap H).get? b=some o:=λe n=>z0s e n;have noA:∀{b:Addr} {o:Obj} {es:Array DictEntry} {ep:Nat},s₁.heap.get? b=some o->o.data = .dict es ep->H b=none:=λ{b o es ep} e d=>by
    cases q:H b with
    | none=>rfl
    | some u =>
      have e':b=a:=hA b (by rw[q];simp);subst e';rw[ha]at e;cases e;have d':Data.seq vs.toArray _=Data.dict es ep:=d;cases d'
  have nsK:∀{b:Addr} {m:aE},s₁.heap.Ns b m->(hidT s₁.heap H).Ns b m:=λ{b m} ⟨o,es,ep,e,d,r⟩=>⟨o,es,ep,base_of e (noA e d),d,r⟩;have hKb:K.In (hidT s₁.heap H):=λb o e=>base_of (KX b o e) (by
    cases q:H b with
    | none=>rfl
    | some u =>
      have e':b=a:=hA b (by rw[q];simp);subst e';rw[hK (by rw[q];simp)]at e;cases e)
  have hM:Mod K mg (hidT s₁.heap H):=⟨hKb,nsK hns,⟨mb,nsK hb,hbb⟩,let ⟨mc,h1,h2⟩:=hlim;⟨mc,nsK h1,h2⟩⟩;have e0:Env0 P w K mg (hidT s₁.heap H) callerA [] s₁ H:=⟨rfl,hM,λb o e=>z4T e,Nat.le_of_eq (Zn _ _),trivial,λb hb=>absurd (show b∈([]:List Addr)from hb) (by simp),hok,.of_eq hg⟩;refine codeAny_mono ((F _ hKb (nsK hns)).run callerA [] s₁ H ⟨[.ref a],[]⟩ [.ref a] [.ref a] _ _ hr e0 (hbind s₁ (.ref a)) (.cons rfl .nil) (hsp H hO hS)) λr s' h=>?_;cases r with
  | error e=>exact(hCX H e s' h).elim
  | ok fl =>
    cases fl with
    | next=>exact False.elim h
    | brk=>exact False.elim h
    | cont=>exact False.elim h
    | ret u =>
      obtain⟨v,H',os,bare,un,hok',r',q⟩:=h;have q':v = .bl true:=q;subst q';obtain rfl:u=Value.bool true:=r';refine⟨rfl,OldK.of_keep λb o e=>?_,os,bare⟩;cases q:H b with
      | none=>exact un.keep b o e q (by intro z;exact absurd (show b∈([]:List Addr)from z) (by simp)) (by simp)
      | some u =>
       rcases hO b with z|⟨ob,xs,z⟩
       · rw[q]at z;cases z
       · have z2:=un.frzs b ob _ z;obtain⟨e1,_⟩:=hok b _ z;obtain⟨e2,_⟩:=hok' b _ z2;rw[e]at e1;cases e1;exact e2
 cases hk:K.lookup a with
 | some o =>
  have e:=KX a o hk;rw[ha]at e;cases e;refine core (λ_=>none) (λ_ => .inl rfl) (.inr ⟨_,vs.toArray,_,hk,rfl,rfl,rfl,by rw[wx,lenV];exact hl,by simpa using rv⟩) (λb u z=>by have z':(none:Option HO)=some u:=z;cases z') (λb z=>absurd rfl z) λz=>absurd rfl z
 | none =>
  refine core (λb=>if b=a then some (.frz { cls := .type "list",data := .seq vs.toArray } (.lst (ns.map V.int))) else none) (λb=>?_) (.inl (.inr ⟨{ cls := .type "list",data := .seq vs.toArray },if_pos rfl⟩)) (λb u z=>?_) (λb z=>?_) λ_=>hk
  · by_cases hb:b=a
    · exact .inr ⟨_,_,if_pos hb⟩
    · exact .inl (if_neg hb)
  · by_cases hb:b=a
    · have z':=(if_pos hb).symm.trans z;cases z';subst hb;exact⟨ha,by rw[wv];exact hl,vs,_,rv,ha⟩
    · have z':=(if_neg hb).symm.trans z;cases z'
  · by_cases hb:b=a
    · exact hb
    · exact absurd (if_neg hb) z
end L2
namespace L2
open PySem PySem.Spec PyProof.Rows
theorem z5d{l:PySem.W.OpenLaw}{n k:Nat}{q:Program}{loose:List Str}{XP:(aE)->Heap->Prop}{YP:World->Heap->Prop}{d:DefRec}{K:Params->aD}{CX:World->CXT}{sp:World->Sp}{x:Str}
  (hn:l.most=some n) (hn2:n<=sizeLine) (hdf:d.params.defaults=[]) (hr:Room k callerA)
  (hY:∀(w:World) (h:Heap),YP w h->(K w.params).In h)
  (F:∀(w:World) (mg:Str→Option Value) (fa:Addr) (h:Heap),(K w.params).In h→h.Ns mainGlobals mg→mg d.name=some (.ref fa) →
   ∃ fd:FuncData,(∀(s:Shared) (u:Value),BindsTo s fd ⟨[u],[]⟩ [(x,u)]) /\
    ∀ base:Heap,(K w.params).In base->base.Ns mainGlobals mg->FnOk l.prog w (K w.params) mg base (CX w) k fa fd [x] (sp w))
  (hsp:∀(w:World) (H:Hp) (a:Addr) (ns:aG),ns.length<=n->Only H->SqL (K w.params) H a (ns.map V.int)->sp w [.ref a] H (λv _=>v = .bl true) λ_ _ _=>False)
  (hCX:∀(w:World) (H:Hp) (s:Shared) (e:Value) (s':Shared),CX w [] H s (λ_ _ _=>False) e s'->False) :
  PySem.W.WalkO q loose XP YP l.row.toRowW d [] (λf vs=>PySem.call f vs):=by
 refine Att.attach_call hn hdf λw s₀ s₁ mg mb fa o pm cd doc a vs ns G Y ho hd hcd hmg hobj hints hlen hg=>?_;have KX:=hY w _ Y;obtain⟨fd,hb,hF⟩:=F w mg fa _ KX G.T.g hmg;exact z0H KX G.T.g G.T.b G.T.builtins G.T.nolimit hg hobj hints (wG hlen hn2) hr hF hb (λH hO hS=>hsp w H a ns hlen hO hS) λH e s'=>hCX w H s₁ e s'
end L2
namespace L2
open PySem PySem.Spec PyProof.Rows
def T5(s:Stmt):Arguments:=match s with
 | .FunctionDef _ a _ _ _ _ _ _ _ _=>a
 | _=>{ posonlyargs:=[],args:=[],vararg:=none,kwonlyargs:=[],kw_defaults:=[],kwarg:=none,defaults:=[] }
def K3(s:Stmt):List Stmt:=match s with
 | .FunctionDef _ _ b _ _ _ _ _ _ _=>b
 | _=>[]
def i6(s:Stmt):Scope:=match s with
 | .FunctionDef _ _ _ _ _ _ sc _ _ _=>sc
 | _=>{ kind := .function,names:=[],isGenerator:=false,isCoroutine:=false }
abbrev CX0:CXT:=λ_ _ _ _ _ _=>False
abbrev E0:XK:=λ_ _ _=>False
theorem pass0{X:Cx}:Nu CX0 X E0:=λ_ _ _ _ _ _ _ h=>h.elim
structure Fun(K:aD)(x qual:Str)(st:Stmt)(f:Addr)(fd:FuncData):Prop where
 ex:∃(oc:Value) (od:Option Addr) (kV doc pm:Value) (an:Option Addr) (cdv ct:Value) (osl:Array (Option Value)),
  fd=PySem.W.fnOf x qual (T5 st) (K3 st) (i6 st) .none kV doc pm an cdv ct/\K.lookup f=some ⟨oc,od,.func fd,osl⟩/\PySem.W.codeIn K cdv qual=true
 kp:PySem.W.keepIn K (.ref f)=true
section
variable {P:Program}{w:World}{K:aD}{mg:aE}{base:Heap}
theorem Fun.ok{x qual:Str}{st:Stmt}{f:Addr}{fd:FuncData}{N ps:List Str}{k:Nat}{sp:Sp}(F:Fun K x qual st f fd)(S:FnScope N ps (i6 st))(len:∀ vs H Q E,sp vs H Q E->vs.length=ps.length)
  (hbody:∀(cdv:Value) (A:Around) (outer:List Env) (s:Shared) (H:Hp) (vs:List V) (Q:VK) (E:XK),Room k (A.deeper (envOfC qual (i6 st) s.heap.objs.size f cdv))→sp vs H Q E →
   ∃ t,PSs (cxOf CX0 P w K mg base N qual (i6 st) f cdv A outer s H E).nox (K3 st) t/\t { nx:=λ_ H'=>Q .non H',rt:=Q } (start N vs) H):FnOk P w K mg base CX0 (k+1) f fd ps sp:=by
 obtain⟨oc,od,kV,doc,pm,an,cdv,ct,osl,rfl,lk,hcd⟩:=F.ex;refine fn_of lk hcd S len λA outer s H vs Q E hr hsp=>?_;obtain⟨t,h,q⟩:=hbody cdv A outer s H vs Q E hr hsp;exact⟨t,h.nox,q⟩
theorem Fun.binds{x qual:Str}{st:Stmt}{f:Addr}{fd:FuncData}{ps:List Str}(F:Fun K x qual st f fd)
  (h:∀(kV doc pm:Value) (an:Option Addr) (cdv ct:Value) (us:aF),us.length=ps.length->bindArgs (PySem.W.fnOf x qual (T5 st) (K3 st) (i6 st) .none kV doc pm an cdv ct) ⟨us,[]⟩=pure (ps.zip us)):Binds K fd ps []:=by
 obtain⟨oc,od,kV,doc,pm,an,cdv,ct,osl,rfl,lk,hcd⟩:=F.ex;exact .all (h kV doc pm an cdv ct)
theorem z0I{x qual:Str}{st:Stmt}{f:Addr}{oc:Value}{od an:Option Addr}{osl:Array (Option Value)}{kV doc pm cdv ct:Value}(l:K.lookup f=some ⟨oc,od,.func (PySem.W.fnOf x qual (T5 st) (K3 st) (i6 st) .none kV doc pm an cdv ct),osl⟩)
 (c:PySem.W.codeIn K cdv qual=true) (k:PySem.W.keepIn K (.ref f)=true):Fun K x qual st f (PySem.W.fnOf x qual (T5 st) (K3 st) (i6 st) .none kV doc pm an cdv ct):=⟨⟨oc,od,kV,doc,pm,an,cdv,ct,osl,rfl,l,c⟩,k⟩
end
section
variable {X:Cx}
end
def Same(H H':Hp):Prop:=∀ b o,H b=some o->H' b=some o
theorem Same.refl(H:Hp):Same H H:=λ_ _ h=>h
theorem Same.trans{H H1 H2:Hp}(a:Same H H1)(b:Same H1 H2):Same H H2:=λc o h=>b c o (a c o h)
theorem Same.free{H H':Hp}(e:Same H H'){l:Addr}(h:H' l=Option.none):H l=Option.none:=by
 cases q:H l with
 | none=>rfl
 | some o =>
  rw[e l o q]at h;cases h
theorem Same.seq{K:aD}{H H':Hp}{a:Addr}{xs:List V}(e:Same H H')(h:SqL K H a xs):SqL K H' a xs:=by
 rcases h with(h|⟨o,h⟩)|h
 · exact .inl (.inl (e _ _ h))
 · exact .inl (.inr ⟨o,e _ _ h⟩)
 · exact .inr h
end L2

end
section
namespace L2
open PySem PySem.Spec PyProof.Rows
theorem z0J{x:Str}{lo:Nat}:∀(names:List (Str×NameKind)) (n:Nat) (acc:List (Str×Addr)) (c:Addr),lo<=n->(∀ c,acc.lookup x=some c->lo<=c)->(cellsFrom n names acc).lookup x=some c->lo<=c
 | [],_,_,_,_,h,e=>h _ e
 | (y,k)::r,n,acc,c,hn,h,e=>by
  unfold cellsFrom at e;split at e
  · refine z0J r (n+1) _ c (w0a hn) (λc' e'=>?_) e;rw[wS]at e';split at e'
    · cases e';exact hn
    · exact h c' e'
  · exact z0J r n acc c hn h e
theorem Rc{x:Str}:∀(names:List (Str×NameKind)) (n:Nat) (acc:List (Str×Addr)) (c:Addr),names.lookup x=some .cell->(cellsFrom n names acc).lookup x=some c->n<=c
 | [],_,_,_,h,_=>by cases h
 | (y,k)::r,n,acc,c,h,e=>by
  rw[wS]at h;unfold cellsFrom at e;cases hb:x==y with
  | true =>
   rw[hb]at h;have hk:k = .cell:=by cases h;rfl
   subst hk;rw[if_pos (show(NameKind.cell==NameKind.cell)=true from rfl)]at e;refine z0J r (n+1) _ c (Nat.le_succ _) (λc' e'=>?_) e;rw[wS,hb]at e';cases e';exact wu _
  | false =>
   rw[hb]at h;split at e
   · exact uJ (Rc r (n+1) _ c h e)
   · exact Rc r n acc c h e
theorem Re{x:Str}:∀(names:List (Str×NameKind)) (n:Nat) (acc:List (Str×Addr)),(∀ y∈names,y.1=x->y.2 ≠ .cell)->(cellsFrom n names acc).lookup x=acc.lookup x
 | [],_,_,_=>rfl
 | (y,k)::r,n,acc,h=>by
  unfold cellsFrom;have hr:∀ y∈r,y.1=x->y.2 ≠ .cell:=λz hz=>h z (wc _ hz);split
  · rename_i hk;rw[Re r (n+1) _ hr,wS];have hne:(x==y)=false:=by
     cases hb:x==y with
     | false=>rfl
     | true=>exact absurd (beq_iff_eq.mp hk) (h (y,k) we (beq_iff_eq.mp hb).symm)
    rw[hne]
  · exact Re r n acc hr
theorem Rf:∀(names:List (Str×NameKind)) (n:Nat) (acc:List (Str×Addr)) (p:Str×Addr),p∈cellsFrom n names acc->n<=p.2\/p∈acc
 | [],_,_,_,e => .inr e
 | (y,k)::r,n,acc,p,e=>by
  unfold cellsFrom at e;split at e
  · rcases Rf r (n+1) _ p e with q|q
    · exact .inl (uJ q)
    · rcases wq.mp q with q|q
      · subst q;exact .inl (wu _)
      · exact .inr q
  · exact Rf r n acc p e
theorem Jf:∀(names:List (Str×NameKind)) (n:Nat) (acc:List (Str×Addr)),(∀ p∈acc,p.2<n)->(acc.Pairwise λx y=>x.2≠y.2)->(cellsFrom n names acc).Pairwise λx y=>x.2≠y.2
 | [],_,_,_,h=>h
 | (y,k)::r,n,acc,hl,h=>by
  unfold cellsFrom;split
  · refine Jf r (n+1) _ (λp hp=>?_) (vg.mpr ⟨λp hp e=>?_,h⟩)
    · rcases wq.mp hp with q|q
      · subst q;exact vy _
      · exact w0N (hl p q)
    · have e':n=p.2:=e;have q:=hl p hp;rw[←e']at q;exact absurd q (vB _)
  · exact Jf r n acc hl h
theorem Jg:∀(names:List (Str×NameKind)) (n:Nat) (acc:List (Str×Addr)),cellsFrom n names acc=cellsFrom n names []++acc
 | [],_,_=>rfl
 | (y,k)::r,n,acc=>by
  unfold cellsFrom;split
  · rw[Jg r (n+1) ((y,n)::acc),Jg r (n+1) [(y,n)],vW];rfl
  · exact Jg r n acc
def B6(env:Env):List (Str×NameKind)->List (Str×Addr)->List (Str×Addr)
 | [],acc=>acc
 | (y,k)::r,acc=>if k == .free then B6 env r (match env.cells.lookup y with|some c=>(y,c)::acc|none=>acc) else B6 env r acc
theorem Ax{env:Env}{x:Str}:∀(names:List (Str×NameKind)) (acc:List (Str×Addr)),(∀ c,acc.lookup x=some c->env.cells.lookup x=some c)->∀ c,(B6 env names acc).lookup x=some c->env.cells.lookup x=some c
 | [],_,h=>h
 | (y,k)::r,acc,h=>by
  unfold B6;split
  · refine Ax r _ λc e=>?_;cases hy:env.cells.lookup y with
    | none=>rw[hy]at e;exact h c e
    | some d =>
     rw[hy]at e;dsimp only at e;rw[wS]at e;split at e
     · rename_i hb;cases e;rw[beq_iff_eq.mp hb];exact hy
     · exact h c e
  · exact Ax r acc h
theorem Es{env:Env}:∀(names:List (Str×NameKind)) (acc:List (Str×Addr)) (p:Str×Addr),p∈B6 env names acc->p∈acc\/env.cells.lookup p.1=some p.2
 | [],_,_,h => .inl h
 | (y,k)::r,acc,p,h=>by
  unfold B6 at h;split at h
  · rcases Es r _ p h with q|q
    · cases hy:env.cells.lookup y with
      | none=>rw[hy]at q;exact .inl q
      | some d =>
       rw[hy]at q;rcases wq.mp q with q|q
       · subst q;exact .inr hy
       · exact .inl q
    · exact .inr q
  · exact Es r acc p h
theorem Bp{env:Env}{x:Str}:∀(names:List (Str×NameKind)) (acc:List (Str×Addr)),(acc.lookup x).isSome=true->((B6 env names acc).lookup x).isSome=true
 | [],_,h=>h
 | (y,k)::r,acc,h=>by
  unfold B6;split
  · refine Bp r _ ?_;cases hy:env.cells.lookup y with
    | none=>exact h
    | some d =>
     show(List.lookup x ((y,d)::acc)).isSome=true;rw[wS];split
     · rfl
     · exact h
  · exact Bp r acc h
theorem Et{env:Env}{x:Str}{c:Addr}:∀(names:List (Str×NameKind)) (acc:List (Str×Addr)),names.lookup x=some .free->env.cells.lookup x=some c->((B6 env names acc).lookup x).isSome=true
 | [],_,h,_=>by cases h
 | (y,k)::r,acc,h,hc=>by
  rw[wS]at h;unfold B6;cases hb:x==y with
  | true =>
   rw[hb]at h;have hk:k = .free:=by cases h;rfl
   subst hk;rw[if_pos (show(NameKind.free==NameKind.free)=true from rfl)];refine Bp r _ ?_;have hxy:x=y:=beq_iff_eq.mp hb;subst hxy;rw[hc];show(List.lookup x ((x,c)::acc)).isSome=true;rw[wS,hb];rfl
  | false =>
   rw[hb]at h;split
   · exact Et r _ h hc
   · exact Et r _ h hc
theorem Eu{env:Env}:∀(names:List (Str×NameKind)) (acc:List (Str×Addr)) (f:Str×NameKind->List (Str×Addr)->Sem (ForInStep (List (Str×Addr)))),
  (∀ name kind cs,f (name,kind) cs=if kind == .free then(do let a ←cellOf env name;pure (.yield ((name,a)::cs))) else pure (.yield cs)) ->
  (∀ y∈names,y.2 = .free->∃ c,env.cells.lookup y.1=some c)->forIn names acc f=(pure (B6 env names acc):Sem _)
 | [],acc,f,hf,h=>by rw[uK];rfl
 | (y,k)::r,acc,f,hf,h=>by
  have hr:∀ z∈r,z.2 = .free->∃ c,env.cells.lookup z.1=some c:=λz hz=>h z (wc _ hz);rw[uW,hf];unfold B6;by_cases hk:(k==NameKind.free)=true
  · rw[if_pos hk,if_pos hk];obtain⟨c,hc⟩:=h (y,k) we (beq_iff_eq.mp hk);have hc':env.cells.lookup y=some c:=hc;have e:cellOf env y=(pure c:Sem Addr):=by unfold cellOf;rw[hc']
    rw[e,hc'];simp only[pure_bind];exact Eu r _ f hf hr
  · rw[if_neg hk,if_neg hk];simp only[pure_bind];exact Eu r _ f hf hr
theorem Rg{scope:Scope}{env:Env}(h:∀ y∈scope.names,y.2 = .free->∃ c,env.cells.lookup y.1=some c):closureFor scope env=pure (B6 env scope.names []):=by
 unfold closureFor;simp only[];rw[Eu scope.names [] _ (λname kind cs=>by cases hk:kind==NameKind.free<;>simp[hk]) h];rfl
end L2

end
section
namespace L2
open PySem
section
variable {prog:Program}{w:World}{A:Around}{R:Result->Shared->Prop}{s:Shared}
theorem Ny{elt target iter:Expr}{ifs:List Expr}{scope:Scope}{pos:Pos}{it acc:Value}{env:Env}(I:Nat->Shared->Prop)
  (turn:∀ n s,I n s→wpAny (model prog w) A (pyNext it) (fun r s₁=>match r with
   | none=>R (.ok .next) s₁
   | some v=>wpAny (model prog w) A (letOwnedTupleGo target it v) (fun _ s₁'=>wpAny (model prog w) A (assign target env v) (fun _ s₂ =>
    wpAny (model prog w) A (forIn ifs true λc r=>if r=true then do let ok ←isTrue c env (eval c env);pure (ForInStep.yield ok) else pure (ForInStep.yield r)) (λok s₃ =>
     if ok=true then wpAny (model prog w) A (eval elt env) (λx s₄ =>
      wpAny (model prog w) A (call (.builtin "list.append") [acc,x]) (λ_ s₅=>∃ m,m<n/\I m s₅) (notedBy (model prog w) A env λe s'=>R (.error e) s') s₄) (notedBy (model prog w) A env λe s'=>R (.error e) s') s₃
     else ∃ m,m<n/\I m s₃) (notedBy (model prog w) A env λe s'=>R (.error e) s') s₂) (notedBy (model prog w) A env λe s'=>R (.error e) s') s₁')
    (notedBy (model prog w) A env λe s'=>R (.error e) s') s₁) (notedBy (model prog w) A env λe s'=>R (.error e) s') s)
  (n:Nat) (h:I n s) :
  codeAny (model prog w) A (.compLoop (.ListComp elt [⟨target,iter,ifs,0⟩] scope pos) 0 it acc env) R s:=by
 refine codeAny_loop rfl I (λn s hI=>?_) n h;show wpAny _ A ((compTurn (.ListComp elt [⟨target,iter,ifs,0⟩] scope pos) 0 it acc env).onRaise (λx=>do noteFrame x env;theTreesLotGoes x)) _ _ s;refine wpAny_noted ?_;rw[compTurn_list];refine wpAny_bind (wpAny_standAt (wpAny_bind (wpAny_mono (turn n s hI) (λr s₁ h₁=>?_) λ_ _ h'=>h')));cases r with
 | none=>exact wpAny_pure h₁
 | some v =>
  refine wpAny_bind (wpAny_mono h₁ (λ_ s₁' h₁'=>?_) λ_ _ h'=>h');refine wpAny_bind (wpAny_mono h₁' (λ_ s₂ h₂=>wpAny_bind (wpAny_mono h₂ (λok s₃ h₃=>?_) λ_ _ h'=>h')) λ_ _ h'=>h');cases ok with
  | false=>exact wpAny_pure ⟨rfl,h₃⟩
  | true =>
   exact wpAny_bind (wpAny_bind (wpAny_mono h₃ (λx s₄ h₄=>wpAny_bind (wpAny_mono h₄ (λ_ s₅ h₅=>wpAny_pure (wpAny_pure ⟨rfl,h₅⟩)) λ_ _ h'=>h')) λ_ _ h'=>h'))
theorem z0K{M:Model}{E:aC}{scope:Scope}{globals:Addr}{cl:List (Str×Addr)}{qual:Str}{func:Option Addr}{code:Value}{env:Env}{Q:Env->Shared->Prop}
  (hQ:∀ h',h'.Ns s.heap.objs.size (fun _=>none)→(∀ b o,s.heap.get? b=some o→h'.get? b=some o)→(∀ n c,(n,c)∈cellsFrom (s.heap.objs.size+1) scope.names []→h'.IsCell c none) →
   Q (newEnv scope s.heap.objs.size globals (cellsFrom (s.heap.objs.size+1) scope.names cl) qual func code (some env) builtinsNs) { s with heap:=h' }) :
  wpAny M A (newFunctionEnv scope globals cl [] qual func code (some env)) Q E s:=by
 simp only[newFunctionEnv,Option.isSome_some,if_true];refine wpAny_bind (wpAny_alloc ?_);refine wpAny_bind (wpAny_layCells _ (λname kind cells=>by cases hkc:kind==NameKind.cell<;>simp[hkc]) _ _ _ _ ?_);have ok:=cellsFrom_ok scope.names (s.heap.push { cls := .type "dict",data := .dict #[] }) (s.heap.objs.size+1) [] ⟨λ_ _ hm=>(nomatch hm),List.Pairwise.nil⟩ (by rw[vE];exact wu _);rw[vE]at ok;rw[show({ s with heap:=s.heap.push { cls := .type "dict",data := .dict #[] } }:Shared).heap.objs.size=s.heap.objs.size+1 from vE ..];refine wpAny_bind ?_;rw[uK];refine wpAny_pure (wpAny_pure ?_);exact hQ _ ((Heap.Ns.new s.heap (.type "dict")).keeps (pushCells_keeps _ _)) (λb o e=>pushCells_keeps _ _ b o (wf _ e)) λn c hm=>(ok.empty n c hm).1
end
end L2

end
section
namespace L2
open PySem PySem.Spec PyProof.Rows
def C4(X:Cx)(N:List Str)(scope:Scope)(cl:List (Str×Addr))(C:Addr)(fp:List Addr)(s:Shared)(H:Hp):Cx where
 prog:=X.prog
 w:=X.w
 K:=X.K
 mg:=X.mg
 base:=X.base
 A:=X.A
 N:=N
 s₀:=s
 H₀:=H
 env:=compEnvC scope cl C X.env
 outer:=X.stack
 stack:=X.stack
 ex:=fp
 fn:=λx=>scope.names.lookup x==some .cell
 calm:=X.calm
 pn:=[]
 xe:=λ_ _=>False
structure CompScope(X:Cx)(N:List Str)(scope:Scope)(nt:Nat)(js:List Nat):Prop where
 kind:scope.kind = .function
 nd:(scope.names.map (·.1)).Nodup
 loc:∀ x∈scope.names,x.2 = .local->scope.names.lookup x.1=some .local
 len:N.length=nt+js.length
 names:∀ k j,js[k]?=some j->∃ x,N[nt+k]?=some x/\X.N[j]?=some x/\scope.names.lookup x=some .free
 fre:∀ x∈scope.names,x.2 = .free->X.env.kindOf x.1=some .cell\/X.env.kindOf x.1=some .free
def sig(nt:Nat)(js:List Nat)(σ:St):St:=List.replicate nt none++js.map λj=>(σ[j]?).join
def PTs(X:Cx)(ifs:List Expr)(t:TT):Prop :=
 ∀(π:aB) (s:Shared) (σ:St) (H:Hp) (Q:Bool->Hp->Prop),Inv X π σ H s->t σ H Q ->
  wpAny (model X.prog X.w) X.A (forIn ifs true λc r=>if r=true then do let ok ←isTrue c X.env (eval c X.env);pure (ForInStep.yield ok) else pure (ForInStep.yield r)) (TP X π σ Q) X.xe s
def tYes:TT:=λ_ H Q=>Q true H
theorem z5e{X:Cx}:PTs X [] tYes:=λπ s σ H Q I h=>wpAny_tests_nil ⟨H,I,h⟩
theorem z5f{X:Cx}{c:Expr}{t:TT}(hc:PT X c t):PTs X [c] t:=λπ s σ H Q I h=>wpAny_tests_one (hc π s σ H Q I h)
theorem nlt{a b:Nat}(h1:a+1<=b)(h2:b<a):False:=by rfl'
theorem U8{α:Type}:∀{l:List (Str×α)} {p:Str×α},(l.map (·.1)).Nodup->p∈l->l.lookup p.1=some p.2
 | [],_,_,h=>by cases h
 | (y,k)::r,p,nd,h=>by
  have nd:(y::r.map (·.1)).Nodup:=nd;obtain⟨n1,n2⟩:=vq.mp nd;rw[wS];rcases wq.mp h with e|e
  · subst e;show(match y==y with|true=>some k|false=>_)=some k;rw[beq_self_eq_true]
  · cases hb:p.1==y with
    | true =>
     rw[←beq_iff_eq.mp hb]at n1;exact absurd (wg.mpr ⟨p,e,rfl⟩) n1
    | false=>exact U8 n2 e
theorem Ci{env:Env}{x:Str}:∀{names:List (Str×NameKind)} {k:NameKind},names.lookup x=some k ->
  (names.map λ(n,k)=>if(k==NameKind.free&&env.scope.kind == .function&&env.kindOf n==some .cell) then(n,NameKind.cell) else(n,k)).lookup x=some (if(k==NameKind.free&&env.scope.kind == .function&&env.kindOf x==some .cell)=true then .cell else k)
 | [],_,h=>by cases h
 | (y,k')::r,k,h=>by
  rw[wS]at h;show List.lookup x ((if(k'==NameKind.free&&env.scope.kind == .function&&env.kindOf y==some .cell)=true then(y,NameKind.cell) else(y,k'))::_)=_;cases hb:x==y with
  | true =>
   rw[hb]at h;have hk:k'=k:=by cases h;rfl
   have hxy:x=y:=beq_iff_eq.mp hb;subst hk;subst hxy;split<;>(rw[wS];rw[hb])
  | false =>
   rw[hb]at h;have ih:=@Ci env x r k h;split<;>(rw[wS];rw[hb];exact ih)
theorem Bq{env:Env}{x:Str}{k:NameKind}:∀{names:List (Str×NameKind)},
  (names.map λ(n,k)=>if(k==NameKind.free&&env.scope.kind == .function&&env.kindOf n==some .cell) then(n,NameKind.cell) else(n,k)).lookup x=some k->∃ k',names.lookup x=some k'/\(k=k'\/(k' = .free/\k = .cell))
 | [],h=>by cases h
 | (y,k')::r,h=>by
  have h:List.lookup x ((if(k'==NameKind.free&&env.scope.kind == .function&&env.kindOf y==some .cell)=true then(y,NameKind.cell) else(y,k'))::r.map λ(n,k)=>if(k==NameKind.free&&env.scope.kind == .function&&env.kindOf n==some .cell) then(n,NameKind.cell) else(n,k))=some k:=h;rw[wS];cases hb:x==y with
  | true =>
   split at h
   · rename_i hc;rw[wS,hb]at h;have hf:(k'==NameKind.free)=true:=by
      rw[wR,wR]at hc;exact hc.1.1
     cases h;exact⟨k',rfl,.inr ⟨beq_iff_eq.mp hf,rfl⟩⟩
   · rw[wS,hb]at h;cases h;exact⟨k,rfl,.inl rfl⟩
  | false =>
   split at h
   all_goals
     rw[wS,hb]at h;exact Bq h
section
variable {X:Cx}{N:List Str}{scope:Scope}{nt:Nat}{js:List Nat}{π:aB}{σ:St}{H:Hp}{s:Shared}{fp:List Addr}
theorem z0L{s2:Shared}{H2:Hp}(S:CompScope X N scope nt js)(I2:Inv X π σ H2 s2)(I:Inv X π σ H s)(hu:Un (frs X.stack) fp H2 H s2.heap s.heap)(hos:s.os=s2.os)(hz:s2.heap.objs.size<=s.heap.objs.size)
   (hf:∀ b∈fp,FpOk X π H b) (ho:∀ b∈fp,∃ o,s.heap.get? b=some o) {h':Heap}
   (ns:h'.Ns s.heap.objs.size (λ_=>none)) (k:∀ b o,s.heap.get? b=some o->h'.get? b=some o) (nc:∀ n c,(n,c)∈cellsFrom (s.heap.objs.size+1) scope.names []->h'.IsCell c none) :
   Inv (C4 X N scope (cellsFrom (s.heap.objs.size+1) scope.names (B6 X.env scope.names [])) s.heap.objs.size fp s2 H2) [] (sig nt js σ) H { s with heap:=h' }:=by
 have ok:=I.ok;have hcl:∀ p∈B6 X.env scope.names [],X.env.cells.lookup p.1=some p.2:=λp hp=>(Es _ _ p hp).resolve_left (by simp);have hlt:∀ x c,X.env.cells.lookup x=some c->c<s.heap.objs.size:=λx c e=>by
   obtain⟨v,o,ho,_⟩:=I.cell x c e;exact wt ho
 have mem:∀ x c,(cellsFrom (s.heap.objs.size+1) scope.names (B6 X.env scope.names [])).lookup x=some c->s.heap.objs.size+1<=c\/X.env.cells.lookup x=some c:=λx c e=>by
   rcases Rf _ _ _ _ (PySem.mem_of_lookup e)with q|q
   · exact .inl q
   · exact .inr (hcl _ q)
 have frec:∀ x,scope.names.lookup x=some .free->∃ c,X.env.cells.lookup x=some c/\(cellsFrom (s.heap.objs.size+1) scope.names (B6 X.env scope.names [])).lookup x=some c:=λx hx=>by
   obtain⟨c,hc⟩:=ok.has x (S.fre (x,.free) (PySem.mem_of_lookup hx) rfl);refine⟨c,hc,?_⟩;rw[Re _ _ _ λy hy e=>?_]
   · obtain⟨d,hd⟩:=uC.mp (Et (env:=X.env) scope.names [] hx hc);have:=Ax (env:=X.env) (x:=x) scope.names [] (λc e=>by simp at e) d hd;rw[hc]at this;cases this;exact hd
   · have q:=U8 S.nd hy;rw[e,hx]at q;intro z;rw[z]at q;cases q
 refine⟨⟨ok.mod,S.kind,ok.glob,ok.blt,hz,λx y c hx hy=>?_,λx hx=>?_,λx c hx e=>?_,ok.hd,ok.frames,.inl rfl,λb hb=>⟨?_,λx c e=>?_⟩,λb o e=>?_,?_,λb o e hb=>?_,λb hb=>?_,I2.stack,I2.stkFree⟩,
   hos,I.bare,hu.trans (Un.kept k),⟨_,ns,λi x v h1 h2 h3=>?_⟩,λx c e=>?_,?_,λx c e=>?_,λp hp=>absurd (show p∈([]:aB)from hp) (by simp),I.hok.kept k,?_⟩
 ·
   rcases mem x c hx with q|q
   · rcases mem y c hy with q'|q'
     · have in1:∀ z:Str,(z,c)∈cellsFrom (s.heap.objs.size+1) scope.names (B6 X.env scope.names [])->(z,c)∈cellsFrom (s.heap.objs.size+1) scope.names []:=λz hz=>by
         rw[Jg]at hz;rcases wo.mp hz with hz|hz
         · exact hz
         · exact(nlt q (hlt _ _ (hcl _ hz))).elim
       exact name_of_addr (Jf scope.names (s.heap.objs.size+1) [] (λp hp=>by simp at hp) List.Pairwise.nil) (in1 x (PySem.mem_of_lookup hx)) (in1 y (PySem.mem_of_lookup hy))
     · exact(nlt q (hlt _ _ q')).elim
   · rcases mem y c hy with q'|q'
     · exact(nlt q' (hlt _ _ q)).elim
     · exact ok.inj x y c q q'
 ·
   have hx:(relabel scope X.env).names.lookup x=some .cell\/(relabel scope X.env).names.lookup x=some .free:=hx;have cs:scope.names.lookup x=some .cell\/scope.names.lookup x=some .free:=by
     rcases hx with q|q
     · obtain⟨k',e1,e2⟩:=Bq q;rcases e2 with e2|⟨e2,_⟩
       · rw[←e2]at e1;exact .inl e1
       · rw[e2]at e1;exact .inr e1
     · obtain⟨k',e1,e2⟩:=Bq q;rcases e2 with e2|⟨_,e2⟩
       · rw[←e2]at e1;exact .inr e1
       · cases e2
   rcases cs with q|q
   · exact uC.mp (PySem.W.cellsFrom_some scope.names _ _ (.inl q))
   · obtain⟨c,_,e⟩:=frec x q;exact⟨c,e⟩
 ·
   have hx:(scope.names.lookup x==some .cell)=true:=hx;exact wG hz (uJ (Rc scope.names _ _ c (beq_iff_eq.mp hx) e))
 ·
   intro e;obtain⟨o,hb'⟩:=ho b hb;exact absurd (wt hb') (by rw[e];exact vB _)
 · rcases mem x c e with q|q
   · intro z;obtain⟨o,hb'⟩:=ho b hb;have:=wt hb';rw[←z]at this;exact nlt q this
   · exact(hf b hb).2.2.2.2.1 x c q
 · exact I2.bs b o e
 · exact wG ok.bsz I2.sz
 ·
   rcases(hf b hb).2.2.2.1 with q|q
   · exact ok.noex b o e q
   · exact absurd (wB (wt e) (wG ok.bsz q)) (vB _)
 ·
   intro z;rcases wq.mp (I.stkSub b z)with q|q
   · exact(hf b hb).2.1 q
   · exact(hf b hb).2.2.1 q
 ·
   have hi:nt<=i:=by
     by_cases hi:i<nt
     · unfold sig at h2;rw[wX (by simpa using hi),vj]at h2;split at h2<;>cases h2
     · rfl'
   unfold sig at h2;rw[vi (by simpa using hi),vA,wF]at h2;cases ej:js[i-nt]? with
   | none=>rw[ej]at h2;cases h2
   | some j =>
     rw[ej]at h2;have h2:(σ[j]?).join=some v:=Option.some.inj h2;obtain⟨y,n1,n2,n3⟩:=S.names _ _ ej;have hxy:x=y:=by
       have e:nt+(i-nt)=i:=by rfl'
       rw[e]at n1;have h1:N[i]?=some x:=h1;rw[h1]at n1;exact Option.some.inj n1
     subst hxy;have h2':σ[j]?=some (some v):=by
       cases eσ:σ[j]? with
       | none=>rw[eσ]at h2;cases h2
       | some a =>
         rw[eσ]at h2;have h2:a=some v:=h2;rw[h2]
     obtain⟨m,hn,hl⟩:=I.loc;have kd:=S.fre (x,.free) (PySem.mem_of_lookup n3) rfl;obtain⟨u,ru,lk⟩:=hl j x v n2 h2' (.inr kd);refine⟨u,ru,?_⟩;obtain⟨c,c1,c2⟩:=frec x n3;rcases lk with⟨z,_⟩|⟨_,d,d1,d2⟩
     · have kd':X.env.kindOf x=some .cell\/X.env.kindOf x=some .free:=kd;rw[z]at kd';rcases kd' with q|q<;>cases q
     · rw[c1]at d1;cases d1;refine .inr ⟨?_,c,c2,d2.keeps k⟩;have:=Ci (env:=X.env) n3;show(relabel scope X.env).names.lookup x=some .cell\/(relabel scope X.env).names.lookup x=some .free;unfold relabel;dsimp only;rw[this];split
       · exact .inl rfl
       · exact .inr rfl
 ·
   have e:(cellsFrom (s.heap.objs.size+1) scope.names (B6 X.env scope.names [])).lookup x=some c:=e;have hm:=PySem.mem_of_lookup e;rw[Jg]at hm;rcases wo.mp hm with q|q
   · exact⟨none,nc x c q⟩
   · obtain⟨v,hv⟩:=I.cell x c (hcl _ q);exact⟨v,hv.keeps k⟩
 · exact I.hok.fresh (wu _)
 · rcases mem x c e with q|q
   · exact I.hok.fresh (uJ q)
   · exact I.freeC x c q
 · show(sig nt js σ).length=N.length;unfold sig;rw[ww,vA,wv,S.len]
end
end L2

end
section
namespace L2
open PySem PySem.Spec PyProof.Rows
def Yb(nt:Nat)(js:List Nat)(wi:TI)(g:TG)(tc:Hp->TT)(te:Hp->TE):TE:=λσ H Q=>wi σ H λJ H1=>∀ D,H1 D=none ->
 ∃ W:Nat→Nat→List V→Hp→Prop,(∃ m,W 0 m [] (upd H1 D (.lst [])))∧∀ i m ys H,W i m ys H →
  (J.stop i H∧Q (.ref D) H)∨(J.go i H∧∀ x H',J.yld i H x H'→g x (sig nt js σ) H' fun σ2 H2=>tc H1 σ2 H2 fun b H3 =>
   if b=true then te H1 σ2 H3 λv H4=>H4 D=some (.lst ys)/\ys.length<sizeLine/\∃ m',m'<m/\W (i+1) m' (ys++[v]) (upd H4 D (.lst (ys++[v])))
   else ∃ m',m'<m/\W (i+1) m' ys H3)
section
variable {X:Cx}{N:List Str}{scope:Scope}{nt:Nat}{js:List Nat}{tg elt iter:Expr}{ifs:List Expr}{wi:TI}{g:TG}{tc:Hp->TT}{te:Hp->TE}{pos:Pos}
theorem z0M{σ σ2:St}(hl:σ2.length=(sig nt js σ).length)(h:∀ i,nt<=i->σ2[i]?=(sig nt js σ)[i]?):∀(i:Nat) v,(sig nt js σ)[i]?=some (some v)->σ2[i]?=some (some v):=λi v e=>by
 by_cases hi:nt<=i
 · rw[h i hi];exact e
 · unfold sig at e;rw[wX (by rw[vA];rfl'),vj]at e;split at e<;>cases e
def TgOk(nt:Nat)(g:TG):Prop:=∀ x σ H (Q:St->Hp->Prop),g x σ H Q->g x σ H λσ2 H2=>(σ2.length=σ.length/\∀ i,nt<=i->σ2[i]?=σ[i]?)/\Q σ2 H2
theorem OP(S:CompScope X N scope nt js)(hc:X.calm=true)(hi:PI X tg iter wi)
  (hg:∀ cl C fp s H,PG (C4 X N scope cl C fp s H) tg g) (ht:TgOk nt g) (hcs:∀ cl C fp s H,PTs (C4 X N scope cl C fp s H) ifs (tc H)) (he:∀ cl C fp s H,PE (C4 X N scope cl C fp s H) elt (te H))
  {use:Option (Value->Sem Unit)} {π:aB} {s:Shared} {σ:St} {H:Hp} {Q:VK} {Q':aC} (I:Inv X π σ H s) (h:Yb nt js wi g tc te σ H Q)
  (hs:∀ x,foldedSetIterable iter X.env x=pure x)
  (fin:∀(D C:Addr) (H':Hp) (s':Shared),Inv X π σ H' s'->Q (.ref D) H'->H' C=none->C≠X.env.locals->(X.s₀.heap.objs.size<=C)->(∀ x c,X.env.cells.lookup x=some c->c≠C)->(∀ p∈X.pn++π,p.1≠C)->(∃ m,s'.heap.Ns C m) ->
    compPost (model X.prog X.w) X.A X.xe use Q' (.ref D) C (.ok .next) s') :
  wpAny (model X.prog X.w) X.A (comprehension (.ListComp elt [⟨tg,iter,ifs,0⟩] scope pos) scope X.env (firstIterPos [⟨tg,iter,ifs,0⟩] pos) (newList []) false (eval iter X.env) use) Q' X.xe s:=by
 have clo:closureFor scope X.env=pure (B6 X.env scope.names []):=Rg λy hy e=>I.ok.has y.1 (S.fre y hy e);refine wpAny_comprehension_free (cl:=B6 X.env scope.names []) rfl hs clo S.kind S.loc (thn (hi π s σ H _ I h) λxv s1 h1=>thn h1 λitv s2 h2=>?_);obtain⟨it,fp,tn,J,H2,rfl,I2,T,st2,f2,q2⟩:=h2;refine wpAny_newObj_type (hd:=by size_fits) ?_;have fresh2:H2 s2.heap.objs.size=none:=I2.fresh;have I3:=I2.lnew (ys:=[]) (its:=[]) (t':=s2.toks) .nil (wK _);obtain⟨W,⟨m0,w0⟩,turn⟩:=q2 s2.heap.objs.size fresh2;have ltf:∀ b∈fp,b<s2.heap.objs.size:=λb hb=>by
  obtain⟨o,e,_⟩:=T.obj 0 _ st2 b hb;exact wt e
 have ned:∀ b∈fp,b≠s2.heap.objs.size:=λb hb=>wU (ltf b hb);have f3:∀ b∈fp,FpOk X π (upd H2 s2.heap.objs.size (.lst [])) b:=λb hb=>⟨by rw[w6 (ned b hb)];exact(f2 b hb).1,(f2 b hb).2⟩;generalize e3:({ s2 with heap:=s2.heap.push { cls := .type "list",dict:=none,data := .seq ([]:aF).toArray } }:Shared)=s3 at *;have k3:∀ b o,s2.heap.get? b=some o->s3.heap.get? b=some o:=λb o e=>by rw[←e3];exact wf _ e
 have os3:s3.os=s2.os:=by rw[←e3]
 have sz3:s2.heap.objs.size<s3.heap.objs.size:=by rw[←e3];show _<(s2.heap.push _).objs.size;rw[vE];exact vy _
 refine z0K λh4 ns4 k4 nc4=>?_;have I4:=z0L S I2 I3 (Un.laid k3 (wu _) fresh2) os3 (vw sz3) f3 (λb hb=>by obtain⟨o,e,_⟩:=T.obj 0 _ st2 b hb;exact⟨o,k3 b o e⟩) ns4 k4 nc4;have st4:tn 0 h4:=T.keep _ _ _ st2 λb _ o e=>k4 b o (k3 b o e);generalize eC:s3.heap.objs.size=C at *;have stat:∀{H':Hp},(∀ b∈fp,H' b=none)->∀ b∈fp,FpOk (C4 X N scope (cellsFrom (C+1) scope.names (B6 X.env scope.names [])) C fp s2 H2) [] H' b:=λhn b hb =>
  ⟨hn b hb,(I4.ok.exf b hb).1,I4.ok.exfs b hb,.inl hb,(I4.ok.exf b hb).2,λp hp=>absurd (show p∈([]:aB)from hp) (by simp)⟩
 have loop:∀ s4:Shared,s4={ s3 with heap:=h4 }→codeAny (model X.prog X.w) X.A (.compLoop (.ListComp elt [⟨tg,iter,ifs,0⟩] scope pos) 0 (.ref it) (.ref s2.heap.objs.size) (compEnvC scope (cellsFrom (C+1) scope.names (B6 X.env scope.names [])) C X.env))
    (compPost (model X.prog X.w) X.A X.xe use Q' (.ref s2.heap.objs.size) C) s4:=by
  rintro s4 rfl;refine Ny (λn s'=>∃ i ys H',Inv (C4 X N scope (cellsFrom (C+1) scope.names (B6 X.env scope.names [])) C fp s2 H2) [] (sig nt js σ) H' s'/\tn i s'.heap/\(∀ b∈fp,H' b=none)/\W i n ys H') ?_ m0
    ⟨0,[],_,I4,st4,λb hb=>(f3 b hb).1,w0⟩
  rintro n s5 ⟨i,ys,H5,I5,st5,fr5,w5⟩;rcases turn i n ys H5 w5 with⟨stop,q⟩|⟨go,step⟩
  · refine wpAny_mono (T.done (C4 X N scope (cellsFrom (C+1) scope.names (B6 X.env scope.names [])) C fp s2 H2) rfl rfl rfl hc i [] s5 _ H5 _ I5 (stat fr5) st5 stop) (λr s6⟨hr,I6⟩=>?_) λ_ _ z=>z;subst hr;have u:Un (frs X.stack) fp H2 H5 s2.heap s6.heap:=I6.base;have J6:Inv X π σ H5 s6:=I2.call' I6.os u I6.hok I6.bare λb hb=>⟨(f2 b hb).2.2.2.1,(f2 b hb).2.1,(f2 b hb).2.2.2.2.1,(f2 b hb).2.2.2.2.2⟩;have hCs:s2.heap.objs.size<=C:=vw sz3;refine fin _ C H5 s6 J6 q I6.free (λz=>?_) (wG I2.sz hCs) (λx c e z=>?_) (λp hp z=>?_) ?_
    · exact absurd I2.lt (by rw[←z];exact w1j.mpr hCs)
    · obtain⟨v,o,ho,_⟩:=I2.cell x c e;exact absurd (wt ho) (by rw[z];exact w1j.mpr hCs)
    · exact absurd (wt (I2.pin p hp).1) (by rw[z];exact w1j.mpr hCs)
    · obtain⟨m,hm,_⟩:=I6.loc;exact⟨m,hm⟩
  · refine wpAny_mono (T.item (C4 X N scope (cellsFrom (C+1) scope.names (B6 X.env scope.names [])) C fp s2 H2) rfl rfl rfl hc i [] s5 _ H5 _ I5 (stat fr5) st5 go) (λr s6⟨u,hr,h6⟩=>?_) λ_ _ z=>z;subst hr;refine wpAny_mono h6 (λ_ s7⟨x,H7,I7,r7,y7,st7,fr7⟩=>?_) λ_ _ z=>z;have I7':=I7.pinned (stat fr7) (T.obj _ _ st7);refine wpAny_mono (hg _ _ _ _ _ _ s7 _ H7 x u _ I7' r7 (ht _ _ _ _ (step x H7 y7))) (λ_ s8 ⟨σ8,H8,I8,⟨l8,o8⟩,q8⟩=>?_) λ_ _ z=>z.elim;have again:∀{s9:Shared} {H9:Hp} {ys9:List V},Inv (C4 X N scope (cellsFrom (C+1) scope.names (B6 X.env scope.names [])) C fp s2 H2) ([]++Jc fp s7.heap) σ8 H9 s9->(∃ m',m'<n/\W (i+1) m' ys9 H9) ->
       ∃ m,m<n/\∃ i ys H',Inv (C4 X N scope (cellsFrom (C+1) scope.names (B6 X.env scope.names [])) C fp s2 H2) [] (sig nt js σ) H' s9/\tn i s9.heap/\(∀ b∈fp,H' b=none)/\W i m ys H':=λ{s9 H9 ys9} I9 ⟨m',hm,w9⟩=>by
      refine⟨m',hm,i+1,ys9,H9,I9.unpinned.weak l8.symm (z0M l8 o8),T.keep _ _ _ st7 λb hb o e=>(I9.pin (b,o) (wI _ (wI _ (Bl hb e)))).1,λb hb=>?_,w9⟩;obtain⟨o,e,_⟩:=T.obj _ _ st7 b hb;exact(I9.pin (b,o) (wI _ (wI _ (Bl hb e)))).2.1
    refine wpAny_mono (hcs _ _ _ _ _ _ s8 σ8 H8 _ I8 q8) (λok s9⟨H9,I9,q9⟩=>?_) λ_ _ z=>z.elim;cases ok with
    | false =>
      rw[if_neg wN]at q9 ⊢;exact again I9 q9
    | true =>
      rw[if_pos rfl]at q9 ⊢;refine wpAny_mono (he _ _ _ _ _ _ s9 σ8 H9 _ I9 q9) (λy s10⟨v,H10,I10,r10,d10,l10,w10⟩=>?_) λ_ _ z=>z.elim;refine wpAny_mono (Ly (X:=C4 X N scope (cellsFrom (C+1) scope.names (B6 X.env scope.names [])) C fp s2 H2) _ s10 σ8 H10 (.ref s2.heap.objs.size) [v] (.ref s2.heap.objs.size) [y] (λz H'=>∃ m',m'<n/\W (i+1) m' (ys++[v]) H') I10 rfl (.cons r10 .nil) ⟨_,ys,v,rfl,rfl,d10,l10,w10⟩) (λ_ s11⟨_,H11,I11,_,w11⟩=>?_) λ_ _ z=>z.elim;exact again I11 w11
 exact codeAny_compStart_list (loop _ rfl) (T.self _ _ _ _ _ st4 (loop _ rfl))
theorem z5g(S:CompScope X N scope nt js)(hc:X.calm=true)(hi:PI X tg iter wi)
  (hg:∀ cl C fp s H,PG (C4 X N scope cl C fp s H) tg g) (ht:TgOk nt g) (hcs:∀ cl C fp s H,PTs (C4 X N scope cl C fp s H) ifs (tc H)) (he:∀ cl C fp s H,PE (C4 X N scope cl C fp s H) elt (te H))
  (hs:∀ x,foldedSetIterable iter X.env x=pure x:=by intro _;rfl):PE X (.ListComp elt [⟨tg,iter,ifs,0⟩] scope pos) (Yb nt js wi g tc te):=by
 intro π s σ H Q I h;rw[eval_ListComp];refine OP (use:=none) S hc hi hg ht hcs he I h hs ?_;rintro D C H' s' I' q hC hL hz hcl hpn ⟨m,hm⟩;exact⟨m,hm,λh' sb=>⟨.ref D,H',I'.turned (λb o hb e=>sb.extBut b o hb e) hC hL (.inr hz) hcl hpn,rfl,q⟩⟩
theorem z5h{i:Nat}{x:Str}{pos' spos:Pos}(hN:X.N.Nodup)(hix:X.N[i]?=some x)(hx:X.env.scope.names.lookup x=some .local)(S:CompScope X N scope nt js)(hc:X.calm=true)(hi:PI X tg iter wi)
  (hg:∀ cl C fp s H,PG (C4 X N scope cl C fp s H) tg g) (ht:TgOk nt g) (hcs:∀ cl C fp s H,PTs (C4 X N scope cl C fp s H) ifs (tc H)) (he:∀ cl C fp s H,PE (C4 X N scope cl C fp s H) elt (te H))
  (hsw:swapsWith (.ListComp elt [⟨tg,iter,ifs,0⟩] scope pos) (some (.Name x pos')) spos.line X.env=pure true)
  (hs:∀ x,foldedSetIterable iter X.env x=pure x:=by intro _;rfl):PS X (.Assign [.Name x pos'] (.ListComp elt [⟨tg,iter,ifs,0⟩] scope pos) spos) (tAsg (Yb nt js wi g tc te) (Jb i)):=by
 intro π s σ H D0 I h;rw[exec_Assign_Name_used _ _ _ _ hsw];refine wpAny_bind (wpAny_standAt (wpAny_bind ?_));show wpAny _ X.A (do let _ ←comprehension (.ListComp elt [⟨tg,iter,ifs,0⟩] scope pos) scope X.env _ (newList []) false (eval iter X.env) (some (assign (.Name x pos') X.env))) _ _ s;refine wpAny_bind (wpAny_mono (OP (use:=some (assign (.Name x pos') X.env)) (Q':=λ_ s'=>SP X π D0 .next s') S hc hi hg ht hcs he I h hs λD C H' s' I' q hC hL hz hcl hpn⟨m,hm⟩=>?_) (λ_ s' hq=>wpAny_pure (wpAny_pure hq)) λ_ _ e=>e);show wpAny _ X.A (assign (.Name x pos') X.env (.ref D)) _ _ s';refine wpAny_assign_Name (Lp (v := .ref D) I' hN hix (.inl hx) rfl (λs'' I''⟨a,sb,ha⟩=>?_) (.inr hx));have hCa:C≠a:=by
  rintro rfl;rcases ha with ha|ha
  · exact hL ha
  · exact hcl x C ha rfl
 refine⟨m,hm.sameBut sb hCa,λh' sb'=>⟨_,H',I''.turned (λb o hb e=>sb'.extBut b o hb e) hC hL (.inr hz) hcl hpn,q⟩⟩
end
end L2

end
section
namespace L2
open PySem PySem.Spec PyProof.Rows
section
variable {X:Cx}
def CDivG(_ j:Int):Prop:=j≠0/\j.natAbs.log2<9000
theorem z0N:OpR X (binaryOp .FloorDiv) (rI CDivG λi j => .int (i.fdiv j)):=opI λ_ _ _ _ _ _ _ hc q=>floordiv_int hc.1 q (.inl (PyProof.noPylong_of_log2 hc.2))
theorem Nz{i:Int}{k:Nat}(h:i.natAbs<2 ^ k):Builtin.Int.intBits i<=k:=by
 unfold Builtin.Int.intBits;split
 · exact wK _
 · rename_i h0;have h1:i.natAbs≠0:=by
    intro e;apply h0;have:i=0:=w0I.mp e;subst this;rfl
   exact Nat.succ_le_of_lt ((w18 h1).mpr h)
theorem pe_ty{x:Str}{T:String}{pos:Pos}(hg:Gl X x)(hm:X.mg x=none)(hv:bootBuiltins x=some (.type T))(hn:x ≠ "__name__" := by decide)(hd:(x==("__debug__" : Str))=false:=by decide):PE X (.Name x pos) (tC (.ty T)):=z4V (v:=V.ty T) hg hm hv rfl hn hd
end
end L2

end
section
namespace L2
open PySem PySem.Spec PyProof.Rows
def hidL(A:List Addr)(H:Hp):Hp:=λb=>if b∈A then none else H b
def G4(A:List Addr)(H H':Hp):Hp:=λb=>if b∈A then H b else H' b
section
variable {A:List Addr}{H H' H1:Hp}{a b:Addr}{o:HO}
theorem T6(h:b∈A):hidL A H b=none:=if_pos h
theorem u7(h:b ∉ A):hidL A H b=H b:=if_neg h
theorem Bs(h:hidL A H b=some o):b ∉ A/\H b=some o:=by
 unfold hidL at h;split at h
 · cases h
 · rename_i q;exact⟨q,h⟩
theorem A7:Same (hidL A H) H:=λb o e=>(Bs e).2
theorem OQ:hidL [] H=H:=funext λb=>by unfold hidL;simp
theorem Du(h:b∈A):G4 A H H' b=H b:=if_pos h
theorem F2(h:b ∉ A):G4 A H H' b=H' b:=if_neg h
theorem Same.glue(h:Same (hidL A H) H')(hn:∀ a∈A,H' a=none):Same H (G4 A H H'):=λb o e=>by
 by_cases q:b∈A
 · rw[Du q];exact e
 · rw[F2 q];exact h b o (by rw[u7 q];exact e)
theorem X3(hn:∀ a∈A,H' a=none):hidL A (G4 A H H')=H':=funext λb=>by
 by_cases q:b∈A
 · rw[T6 q,hn b q]
 · rw[u7 q,F2 q]
end
def OwnL(X:Cx)(A:List Addr)(H:Hp):Prop:=∀ a∈A,(∃ vs,H a=some (.lst vs))/\X.H₀ a=none
section
variable {X:Cx}{A:List Addr}{π:aB}{σ:St}{H H':Hp}{s s':Shared}
def OR(h:Heap)(A:List Addr):aB:=A.filterMap λa=>(h.get? a).map λo=>(a,o)
theorem LA{h:Heap}{a:Addr}{o:Obj}(ha:a∈A)(e:h.get? a=some o):(a,o)∈OR h A:=vU.mpr ⟨a,ha,by rw[e];rfl⟩
theorem z0O{h:Heap}{p:Addr×Obj}(hp:p∈OR h A):p.1∈A/\h.get? p.1=some p.2:=by
 obtain⟨a,ha,e⟩:=vU.mp hp;cases q:h.get? a with
 | none=>rw[q]at e;cases e
 | some o=>rw[q]at e;cases e;exact⟨ha,q⟩
theorem Inv.fsFree(I:Inv X π σ H s){b:Addr}(hb:b∈X.fs):H b=none:=by
 obtain⟨_,o,ho,_⟩:=I.ok.funs.mem hb;exact I.base.free b o ho (I.ok.frf b hb) λz=>I.ok.exfs b z hb
theorem Inv.hide(I:Inv X π σ H s)(hA:OwnL X A H):Inv X (π++OR s.heap A) σ (hidL A H) s:=by
 have nl:∀ b o,H b=some o->(∀ vs,o ≠ .lst vs)->b ∉ A:=λb o e n hb=>by
   obtain⟨⟨vs,q⟩,_⟩:=hA b hb;rw[e]at q;exact n vs (Option.some.inj q)
 refine⟨I.ok,I.os,I.bare,⟨I.base.keep,I.base.slot,λb o e n hx=>?_,I.base.there,λb xs e=>?_,λb o u e=>?_,λb ps e=>?_⟩,I.loc,I.cell,?_,λx c e=>?_,λp hp=>?_,λa o e=>?_,I.len⟩
 · have:=I.base.free b o e n hx;unfold hidL;split
   · rfl
   · exact this
 · have:=I.base.tups b xs e;rw[u7 (nl b _ this λ_ z=>by cases z)];exact this
 · have:=I.base.frzs b o u e;rw[u7 (nl b _ this λ_ z=>by cases z)];exact this
 · obtain⟨more,this⟩:=I.base.tbls b ps e;exact⟨more,by rw[u7 (nl b _ this λ_ z=>by cases z)];exact this⟩
 · have:=I.free;unfold hidL;split
   · rfl
   · exact this
 · have:=I.freeC x c e;unfold hidL;split
   · rfl
   · exact this
 · rw[←vW]at hp;rcases wo.mp hp with hp|hp
   · obtain⟨q1,q2,q3⟩:=I.pin p hp;refine⟨q1,?_,q3⟩;unfold hidL;split
     · rfl
     · exact q2
   · obtain⟨q1,q2⟩:=z0O hp;obtain⟨⟨vs,q⟩,_⟩:=hA _ q1;refine⟨q2,T6 q1,λz=>?_,λz=>?_,λv z=>?_⟩
     · rw[z,I.free]at q;cases q
     · rw[I.fsFree z]at q;cases q
     · obtain⟨_,its,n,_,e⟩:=I.hok _ _ q;rw[q2]at e;have e:=Option.some.inj e;rw[e]at z;cases z
 · obtain⟨q1,q2⟩:=Bs e;refine(I.hok a o q2).stay (λb u _ z=>z) (λb z=>?_) (λb xs z=>?_)
   · rw[u7 (nl b _ z λ_ z=>by cases z)];exact z
   · rw[u7 (nl b _ z λ_ z=>by cases z)];exact z
theorem Inv.unhide{σ':St}(I:Inv X π σ H s)(hA:OwnL X A H)(J:Inv X (π++OR s.heap A) σ' H' s'):(∀ a∈A,H' a=none)/\Inv X π σ' (G4 A H H') s':=by
 have pn:∀ a∈A,∃ o,s.heap.get? a=some o/\s'.heap.get? a=some o/\H' a=none:=λa ha=>by
   obtain⟨⟨vs,q⟩,_⟩:=hA a ha;obtain⟨_,its,n,_,e⟩:=I.hok _ _ q;have:=J.pin _ (wI _ (wI _ (LA ha e)));exact⟨_,e,this.1,this.2.1⟩
 have hn:∀ a∈A,H' a=none:=λa ha=>by obtain⟨o,_,_,q⟩:=pn a ha;exact q
 have out:∀ b,H b=none->b ∉ A:=λb e hb=>by
   obtain⟨⟨vs,q⟩,_⟩:=hA b hb;rw[e]at q;cases q
 have tr:∀ b o,H' b=some o->b ∉ A:=λb o e hb=>by rw[hn b hb]at e;cases e
 refine⟨hn,J.ok,J.os,J.bare,⟨J.base.keep,J.base.slot,λb o e n hx=>?_,J.base.there,λb xs e=>?_,λb o u e=>?_,λb ps e=>?_⟩,J.loc,J.cell,?_,λx c e=>?_,λp hp=>?_,λa o e=>?_,J.len⟩
 · rw[F2 (out b (I.base.free b o e n hx))];exact J.base.free b o e n hx
 · have:=J.base.tups b xs e;rw[F2 (tr b _ this)];exact this
 · have:=J.base.frzs b o u e;rw[F2 (tr b _ this)];exact this
 · obtain⟨more,this⟩:=J.base.tbls b ps e;exact⟨more,by rw[F2 (tr b _ this)];exact this⟩
 · rw[F2 (out _ I.free)];exact J.free
 · rw[F2 (out _ (I.freeC x c e))];exact J.freeC x c e
 · have hp':p∈X.pn++(π++OR s.heap A):=by
     rw[←vW];exact uo _ hp
   obtain⟨q1,q2,q3⟩:=J.pin p hp';refine⟨q1,?_,q3⟩;rw[F2 (out _ (I.pin p hp).2.1)];exact q2
 · by_cases ha:a∈A
   · rw[Du ha]at e;obtain⟨⟨vs,q⟩,_⟩:=hA a ha;rw[q]at e;cases e;obtain⟨hz,its,n,r,e1⟩:=I.hok _ _ q;obtain⟨o,e2,e3,_⟩:=pn a ha;rw[e1]at e2;cases e2;exact⟨hz,its,n,r,e3⟩
   · rw[F2 ha]at e;refine(J.hok a o e).stay (λb u _ z=>z) (λb z=>?_) (λb xs z=>?_)
     · rw[F2 (tr b _ z)];exact z
     · rw[F2 (tr b _ z)];exact z
theorem PE.frame{e:Expr}{t:TE}(h:PE X e t):PE X e (λσ H Q=>∃ A,OwnL X A H/\t σ (hidL A H) λv H'=>(∀ a∈A,H' a=none)->Q v (G4 A H H')):=by
 intro π s σ H Q I ⟨A,hA,z⟩;refine thn (h _ s σ _ _ (I.hide hA) z) ?_;rintro u s' ⟨v,H',J,r,q⟩;obtain⟨hn,J'⟩:=I.unhide hA J;exact⟨v,_,J',r,q hn⟩
theorem PA.frame{es:List Expr}{t:TA}(h:PA X es t):PA X es (λσ H Q=>∃ A,OwnL X A H/\t σ (hidL A H) λv H'=>(∀ a∈A,H' a=none)->Q v (G4 A H H')):=by
 intro pos π s σ H Q I ⟨A,hA,z⟩;refine thn (h pos _ s σ _ _ (I.hide hA) z) ?_;rintro u s' ⟨v,H',J,r,q⟩;obtain⟨hn,J'⟩:=I.unhide hA J;exact⟨v,_,J',r,q hn⟩
def hidD(A:List Addr)(H:Hp)(D:Ends):Ends where
 nx:=λσ H'=>(∀ a∈A,H' a=none)->D.nx σ (G4 A H H')
 rt:=λv H'=>(∀ a∈A,H' a=none)->D.rt v (G4 A H H')
 bk:=λσ H'=>(∀ a∈A,H' a=none)->D.bk σ (G4 A H H')
 ct:=λσ H'=>(∀ a∈A,H' a=none)->D.ct σ (G4 A H H')
theorem PS.frame{st:Stmt}{t:TS}(h:PS X st t):PS X st (λD σ H=>∃ A,OwnL X A H/\t (hidD A H D) σ (hidL A H)):=by
 intro π s σ H D I ⟨A,hA,z⟩;refine thn (h _ s σ _ _ (I.hide hA) z) λf s' q=>?_;cases f with
 | next=>obtain⟨σ',H',J,q⟩:=q;obtain⟨hn,J'⟩:=I.unhide hA J;exact⟨_,_,J',q hn⟩
 | brk=>obtain⟨σ',H',J,q⟩:=q;obtain⟨hn,J'⟩:=I.unhide hA J;exact⟨_,_,J',q hn⟩
 | cont=>obtain⟨σ',H',J,q⟩:=q;obtain⟨hn,J'⟩:=I.unhide hA J;exact⟨_,_,J',q hn⟩
 | ret u=>obtain⟨v,σ',H',J,r,q⟩:=q;obtain⟨hn,J'⟩:=I.unhide hA J;exact⟨_,_,_,J',r,q hn⟩
theorem PI.frame{tg e:Expr}{t:TI}(h:PI X tg e t):PI X tg e (λσ H R=>∃ A,OwnL X A H/\t σ (hidL A H) λJ H'=>(∀ a∈A,H' a=none)->R J (G4 A H H')):=by
 intro π s σ H R I ⟨A,hA,z⟩;refine thn (h _ s σ _ _ (I.hide hA) z) λv s1 q=>thn q ?_;rintro itv s2 ⟨it,fp,tn,J,H',e,I2,T,st,hf,r⟩;obtain⟨hn,I3⟩:=I.unhide hA I2;refine⟨it,fp,tn,J,_,e,I3,T,st,λb hb=>?_,r hn⟩;obtain⟨f1,f2,f3,f4,f5,f6⟩:=hf b hb;have hbA:b ∉ A:=λha=>by
  obtain⟨⟨vs,q⟩,_⟩:=hA b ha;obtain⟨_,its,n,_,e⟩:=I.hok _ _ q;exact f6 _ (wI _ (wI _ (LA ha e))) rfl
 refine⟨by rw[F2 hbA];exact f1,f2,f3,f4,f5,λp hp=>f6 p ?_⟩;rw[←vW];exact uo _ hp
end
end L2

end
section
namespace L2
open PySem PySem.Spec PyProof.Rows
inductive Dt where
 | non|bl (b:Bool)|int (i:Int)|str (x:Str)|lst (xs:List Dt)|tup (xs:List Dt)|scr (ns:aG)|dic
def emp:Hp:=λ_=>none
theorem Jh{A C:List Addr}{H:Hp}:hidL A (hidL C H)=hidL C (hidL A H):=funext λb=>by
 unfold hidL;by_cases p:b∈A<;>by_cases q:b∈C<;>simp[p,q]
theorem M5{A:List Addr}{H H':Hp}(h:Same H H'):Same (hidL A H) (hidL A H'):=λb o e=>by
 obtain⟨q1,q2⟩:=Bs e;rw[u7 q1];exact h b o q2
theorem AH{A B:List Addr}{H:Hp}(h:∀ a∈B,a∈A):Same (hidL A H) (hidL B H):=λb o e=>by
 obtain⟨q1,q2⟩:=Bs e;rw[u7 λz=>q1 (h b z)];exact q2
theorem Same.seqT{K:aD}{H H':Hp}{a:Addr}{xs:List V}(e:Same H H')(h:SqT K H a xs):SqT K H' a xs:=by
 rcases h with(h|⟨o,h⟩)|h
 · exact .inl (.inl (e _ _ h))
 · exact .inl (.inr ⟨o,e _ _ h⟩)
 · exact .inr h
theorem Same.emp{H:Hp}:Same emp H:=λ_ _ e=>by cases e
def dicAt(a:Addr)(h:Heap):Prop:=h.get? a=some { cls := .type "dict",data := .dict #[] }
mutual
def Rp(K:aD)(B:Hp):Dt->Hp->V->Prop
 | .non,_,v=>v = .non
 | .bl b,_,v=>v = .bl b
 | .int i,_,v=>v = .int i
 | .str x,_,v=>v = .str x
 | .dic,H,v=>∃ a,v = .ref a/\H a=some (.ext (dicAt a))
 | .lst ds,H,v=>∃ a vs,v = .ref a/\B a=none/\H a=some (.lst vs)/\Rps K B ds (hidL [a] H) vs
 | .tup ds,H,v=>∃ a vs,v = .ref a/\SqT K H a vs/\Rps K B ds H vs
 | .scr ns,H,v=>∃ a,v = .ref a/\B a=none/\SqL K H a (ns.map V.int)
def Rps(K:aD)(B:Hp):List Dt->Hp->List V->Prop
 | [],_,vs=>vs=[]
 | d::ds,H,vs=>∃ v r,vs=v::r/\Rp K B d H v/\Rps K B ds H r
end
section
variable {K:aD}{B B' H H':Hp}
theorem Rp.int_{i:Int}{v:V}:Rp K B (.int i) H v↔v = .int i:=by unfold Rp;exact Iff.rfl
theorem Rp.bl_{b:Bool}{v:V}:Rp K B (.bl b) H v↔v = .bl b:=by unfold Rp;exact Iff.rfl
theorem Rp.non_{v:V}:Rp K B .non H v↔v = .non:=by unfold Rp;exact Iff.rfl
theorem Rp.str_{x:Str}{v:V}:Rp K B (.str x) H v↔v = .str x:=by unfold Rp;exact Iff.rfl
theorem Rp.dic_{v:V}:Rp K B .dic H v↔∃ a,v = .ref a/\H a=some (.ext (dicAt a)):=by unfold Rp;exact Iff.rfl
theorem Rp.lst_{ds:List Dt}{v:V}:Rp K B (.lst ds) H v↔∃ a vs,v = .ref a/\B a=none/\H a=some (.lst vs)/\Rps K B ds (hidL [a] H) vs:=by rw[Rp]
theorem Rp.tup_{ds:List Dt}{v:V}:Rp K B (.tup ds) H v↔∃ a vs,v = .ref a/\SqT K H a vs/\Rps K B ds H vs:=by rw[Rp]
theorem Rp.scr_{ns:aG}{v:V}:Rp K B (.scr ns) H v↔∃ a,v = .ref a/\B a=none/\SqL K H a (ns.map V.int):=by rw[Rp]
theorem Rps.nil_{vs:List V}:Rps K B [] H vs↔vs=[]:=by rw[Rps]
theorem Rps.cons_{d:Dt}{ds:List Dt}{vs:List V}:Rps K B (d::ds) H vs↔∃ v r,vs=v::r/\Rp K B d H v/\Rps K B ds H r:=by rw[Rps]
mutual
theorem Rp.mono:∀(d:Dt) {H H':Hp} {v:V},Same H H'->Rp K B d H v->Rp K B d H' v
 | .non,_,_,v,e,h=>by unfold Rp at h ⊢;exact h
 | .bl b,_,_,v,e,h=>by unfold Rp at h ⊢;exact h
 | .int i,_,_,v,e,h=>by unfold Rp at h ⊢;exact h
 | .str x,_,_,v,e,h=>by unfold Rp at h ⊢;exact h
 | .dic,_,_,v,e,h=>by unfold Rp at h ⊢;obtain⟨a,q,r⟩:=h;exact⟨a,q,e _ _ r⟩
 | .lst ds,_,_,v,e,h=>by
  unfold Rp at h ⊢;obtain⟨a,vs,rfl,h0,h1,h2⟩:=h;exact⟨a,vs,rfl,h0,e _ _ h1,Rps.mono ds (M5 e) h2⟩
 | .tup ds,_,_,v,e,h=>by
  unfold Rp at h ⊢;obtain⟨a,vs,rfl,h1,h2⟩:=h;exact⟨a,vs,rfl,e.seqT h1,Rps.mono ds e h2⟩
 | .scr ns,_,_,v,e,h=>by
  unfold Rp at h ⊢;obtain⟨a,rfl,h0,h1⟩:=h;exact⟨a,rfl,h0,e.seq h1⟩
theorem Rps.mono:∀(ds:List Dt) {H H':Hp} {vs:List V},Same H H'->Rps K B ds H vs->Rps K B ds H' vs
 | [],_,_,vs,e,h=>by unfold Rps at h ⊢;exact h
 | d::ds,_,_,vs,e,h=>by
  unfold Rps at h ⊢;obtain⟨v,r,rfl,h1,h2⟩:=h;exact⟨v,r,rfl,Rp.mono d e h1,Rps.mono ds e h2⟩
end
mutual
theorem Rp.anti(e:Same B' B):∀(d:Dt) {H:Hp} {v:V},Rp K B d H v->Rp K B' d H v
 | .non,_,v,h=>by unfold Rp at h ⊢;exact h
 | .bl b,_,v,h=>by unfold Rp at h ⊢;exact h
 | .int i,_,v,h=>by unfold Rp at h ⊢;exact h
 | .str x,_,v,h=>by unfold Rp at h ⊢;exact h
 | .dic,_,v,h=>by unfold Rp at h ⊢;exact h
 | .lst ds,_,v,h=>by
  unfold Rp at h ⊢;obtain⟨a,vs,rfl,h0,h1,h2⟩:=h;exact⟨a,vs,rfl,e.free h0,h1,Rps.anti e ds h2⟩
 | .tup ds,_,v,h=>by
  unfold Rp at h ⊢;obtain⟨a,vs,rfl,h1,h2⟩:=h;exact⟨a,vs,rfl,h1,Rps.anti e ds h2⟩
 | .scr ns,_,v,h=>by
  unfold Rp at h ⊢;obtain⟨a,rfl,h0,h1⟩:=h;exact⟨a,rfl,e.free h0,h1⟩
theorem Rps.anti(e:Same B' B):∀(ds:List Dt) {H:Hp} {vs:List V},Rps K B ds H vs->Rps K B' ds H vs
 | [],_,vs,h=>by unfold Rps at h ⊢;exact h
 | d::ds,_,vs,h=>by
  unfold Rps at h ⊢;obtain⟨v,r,rfl,h1,h2⟩:=h;exact⟨v,r,rfl,Rp.anti e d h1,Rps.anti e ds h2⟩
end
theorem SqT.hid{A:List Addr}{a:Addr}{xs:List V}(hA:∀ b∈A,∀ o,H b=some o->∃ vs,o = .lst vs)(h:SqT K H a xs):SqT K (hidL A H) a xs:=by
 rcases h with(h|⟨o,h⟩)|h
 · refine .inl (.inl ?_);rw[u7 λz=>by obtain⟨vs,e⟩:=hA a z _ h;cases e];exact h
 · refine .inl (.inr ⟨o,?_⟩);rw[u7 λz=>by obtain⟨vs,e⟩:=hA a z _ h;cases e];exact h
 · exact .inr h
theorem SqL.hid{A:List Addr}{a:Addr}{xs:List V}(hA:a ∉ A)(h:SqL K H a xs):SqL K (hidL A H) a xs:=by
 rcases h with(h|⟨o,h⟩)|h
 · exact .inl (.inl (by rw[u7 hA];exact h))
 · exact .inl (.inr ⟨o,by rw[u7 hA];exact h⟩)
 · exact .inr h
mutual
theorem Rp.hid{A:List Addr}(hB:∀ b∈A,B b≠none):∀(d:Dt) {H:Hp} {v:V},(∀ b∈A,∀ o,H b=some o->∃ vs,o = .lst vs)->Rp K B d H v->Rp K B d (hidL A H) v
 | .non,_,v,_,h=>by unfold Rp at h ⊢;exact h
 | .bl b,_,v,_,h=>by unfold Rp at h ⊢;exact h
 | .int i,_,v,_,h=>by unfold Rp at h ⊢;exact h
 | .str x,_,v,_,h=>by unfold Rp at h ⊢;exact h
 | .dic,_,v,hA,h=>by unfold Rp at h ⊢;obtain⟨a,q,r⟩:=h;exact⟨a,q,by rw[u7 λz=>by obtain⟨vs,e⟩:=hA a z _ r;cases e];exact r⟩
 | .lst ds,H,v,hA,h=>by
  unfold Rp at h ⊢;obtain⟨a,vs,rfl,h0,h1,h2⟩:=h;refine⟨a,vs,rfl,h0,by rw[u7 λz=>hB a z h0];exact h1,?_⟩;rw[Jh];exact Rps.hid hB ds (λb hb o e=>hA b hb o (Bs e).2) h2
 | .tup ds,H,v,hA,h=>by
  unfold Rp at h ⊢;obtain⟨a,vs,rfl,h1,h2⟩:=h;exact⟨a,vs,rfl,h1.hid hA,Rps.hid hB ds hA h2⟩
 | .scr ns,H,v,hA,h=>by
  unfold Rp at h ⊢;obtain⟨a,rfl,h0,h1⟩:=h;exact⟨a,rfl,h0,h1.hid λz=>hB a z h0⟩
theorem Rps.hid{A:List Addr}(hB:∀ b∈A,B b≠none):∀(ds:List Dt) {H:Hp} {vs:List V},(∀ b∈A,∀ o,H b=some o->∃ vs,o = .lst vs)->Rps K B ds H vs->Rps K B ds (hidL A H) vs
 | [],_,vs,_,h=>by unfold Rps at h ⊢;exact h
 | d::ds,_,vs,hA,h=>by
  unfold Rps at h ⊢;obtain⟨v,r,rfl,h1,h2⟩:=h;exact⟨v,r,rfl,Rp.hid hB d hA h1,Rps.hid hB ds hA h2⟩
end
end
mutual
def Dt.flat:Dt->Bool
 | .lst _=>false
 | .scr _=>false
 | .tup ds=>E8 ds
 | _=>true
def E8:List Dt->Bool
 | []=>true
 | d::ds=>d.flat&&E8 ds
end
section
variable {K:aD}{B B' H H':Hp}
mutual
theorem Rp.flat:∀(d:Dt) {H:Hp} {v:V},d.flat=true->Rp K B d H v->Rp K B' d H v
 | .non,_,v,_,h=>by unfold Rp at h ⊢;exact h
 | .bl b,_,v,_,h=>by unfold Rp at h ⊢;exact h
 | .int i,_,v,_,h=>by unfold Rp at h ⊢;exact h
 | .str x,_,v,_,h=>by unfold Rp at h ⊢;exact h
 | .dic,_,v,_,h=>by unfold Rp at h ⊢;exact h
 | .lst ds,_,v,f,h=>by unfold Dt.flat at f;cases f
 | .tup ds,_,v,f,h=>by
  unfold Dt.flat at f;unfold Rp at h ⊢;obtain⟨a,vs,rfl,h1,h2⟩:=h;exact⟨a,vs,rfl,h1,Rps.flat ds f h2⟩
 | .scr ns,_,v,f,h=>by unfold Dt.flat at f;cases f
theorem Rps.flat:∀(ds:List Dt) {H:Hp} {vs:List V},E8 ds=true->Rps K B ds H vs->Rps K B' ds H vs
 | [],_,vs,_,h=>by unfold Rps at h ⊢;exact h
 | d::ds,_,vs,f,h=>by
  unfold E8 at f;rw[wR]at f;unfold Rps at h ⊢;obtain⟨v,r,rfl,h1,h2⟩:=h;exact⟨v,r,rfl,Rp.flat d f.1 h1,Rps.flat ds f.2 h2⟩
end
theorem Rps.length:∀{ds:List Dt} {vs:List V},Rps K B ds H vs->vs.length=ds.length
 | [],vs,h=>by rw[Rps.nil_.mp h];rfl
 | d::ds,vs,h=>by
  obtain⟨v,r,rfl,_,h2⟩:=Rps.cons_.mp h;rw[wn,wn,Rps.length h2]
theorem Rps.get:∀{ds:List Dt} {vs:List V} {i:Nat} {d:Dt},Rps K B ds H vs->ds[i]?=some d->∃ v,vs[i]?=some v/\Rp K B d H v
 | [],vs,i,d,_,e=>by simp at e
 | c::ds,vs,0,d,h,e=>by
  obtain⟨v,r,rfl,h1,_⟩:=Rps.cons_.mp h;simp at e;subst e;exact⟨v,rfl,h1⟩
 | c::ds,vs,i+1,d,h,e=>by
  obtain⟨v,r,rfl,_,h2⟩:=Rps.cons_.mp h;have e:ds[i]?=some d:=by simpa using e
  obtain⟨u,q1,q2⟩:=Rps.get h2 e;exact⟨u,by simpa using q1,q2⟩
theorem Rps.append:∀{ds ds':List Dt} {vs vs':List V},Rps K B ds H vs->Rps K B ds' H vs'->Rps K B (ds++ds') H (vs++vs')
 | [],ds',vs,vs',h,h'=>by rw[Rps.nil_.mp h];exact h'
 | d::ds,ds',vs,vs',h,h'=>by
  obtain⟨v,r,rfl,h1,h2⟩:=Rps.cons_.mp h;exact Rps.cons_.mpr ⟨v,r++vs',rfl,h1,Rps.append h2 h'⟩
theorem Rps.one{d:Dt}{v:V}(h:Rp K B d H v):Rps K B [d] H [v]:=Rps.cons_.mpr ⟨v,[],rfl,h,Rps.nil_.mpr rfl⟩
theorem Rps.take:∀{ds:List Dt} {vs:List V} (n:Nat),Rps K B ds H vs->Rps K B (ds.take n) H (vs.take n)
 | ds,vs,0,_=>by rw[w1k,w1k];exact Rps.nil_.mpr rfl
 | [],vs,n+1,h=>by rw[Rps.nil_.mp h];exact Rps.nil_.mpr rfl
 | d::ds,vs,n+1,h=>by
  obtain⟨v,r,rfl,h1,h2⟩:=Rps.cons_.mp h;exact Rps.cons_.mpr ⟨v,r.take n,rfl,h1,Rps.take n h2⟩
theorem Rps.drop:∀{ds:List Dt} {vs:List V} (n:Nat),Rps K B ds H vs->Rps K B (ds.drop n) H (vs.drop n)
 | ds,vs,0,h=>h
 | [],vs,n+1,h=>by rw[Rps.nil_.mp h];exact Rps.nil_.mpr rfl
 | d::ds,vs,n+1,h=>by
  obtain⟨v,r,rfl,h1,h2⟩:=Rps.cons_.mp h;exact Rps.drop n h2
theorem Rps.set:∀{ds:List Dt} {vs:List V} (i:Nat) {d:Dt} {v:V},Rps K B ds H vs->Rp K B d H v->Rps K B (ds.set i d) H (vs.set i v)
 | [],vs,i,d,v,h,_=>by rw[Rps.nil_.mp h];exact Rps.nil_.mpr rfl
 | c::ds,vs,0,d,v,h,q=>by
  obtain⟨u,r,rfl,h1,h2⟩:=Rps.cons_.mp h;exact Rps.cons_.mpr ⟨v,r,rfl,q,h2⟩
 | c::ds,vs,i+1,d,v,h,q=>by
  obtain⟨u,r,rfl,h1,h2⟩:=Rps.cons_.mp h;exact Rps.cons_.mpr ⟨u,r.set i v,rfl,h1,Rps.set i h2 q⟩
theorem OS{p:Addr}{o:HO}(h:H p=none):hidL [p] (upd H p o)=H:=funext λb=>by
 by_cases q:b=p
 · subst q;rw[T6 (by simp),h]
 · rw[u7 (by simpa using q),w6 q]
theorem F3{p:Addr}{o:HO}(h:H p=none):Same H (upd H p o):=λb u e=>by rw[w6 (R3 e h)];exact e
theorem Rp.new{ds:List Dt}{vs:List V}{p:Addr}(hp:H p=none)(hB:B p=none)(r:Rps K B ds H vs):Rp K B (.lst ds) (upd H p (.lst vs)) (.ref p) :=
 Rp.lst_.mpr ⟨p,vs,rfl,hB,D7,by rw[OS hp];exact r⟩
end
inductive Fl where
 | sh|tn|fr|nw
def Fl.isNw:Fl->Bool
 | .nw=>true
 | _=>false
def Fl.isFr:Fl->Bool
 | .nw=>true
 | .fr=>true
 | _=>false
abbrev Dv:=Fl×Dt
def nrm(f:Fl)(d:Dt):Dv:=(if d.flat then .nw else f,d)
structure Ky where
 K:aD
 H₀:Hp
abbrev Cx.ky(X:Cx):Ky:=⟨X.K,X.H₀⟩
def RpF(X:Ky)(H:Hp)(f:Fl)(d:Dt)(H':Hp)(v:V):Prop:=match f with
 | .sh=>Rp X.K emp d H' v
 | .tn=>Rp X.K emp d H' v/\(∃ ds,d = .lst ds)/\∀ a,v = .ref a->H a=none
 | .fr=>Rp X.K X.H₀ d H' v
 | .nw=>Rp X.K H d H' v
section
variable {X:Ky}{H H' H1:Hp}{f:Fl}{d:Dt}{v:V}
theorem RpF.sh(h:RpF X H f d H' v):Rp X.K emp d H' v:=by
 cases f with
 | sh=>exact h
 | tn=>exact h.1
 | fr=>exact Rp.anti Same.emp d h
 | nw=>exact Rp.anti Same.emp d h
theorem RpF.fr(h0:Same X.H₀ H)(e:f.isFr=true)(h:RpF X H f d H' v):Rp X.K X.H₀ d H' v:=by
 cases f with
 | sh=>cases e
 | tn=>cases e
 | fr=>exact h
 | nw=>exact Rp.anti h0 d h
theorem RpF.mono(h:RpF X H f d H' v)(s:Same H' H1):RpF X H f d H1 v:=by
 cases f with
 | sh=>exact Rp.mono d s h
 | tn=>exact⟨Rp.mono d s h.1,h.2⟩
 | fr=>exact Rp.mono d s h
 | nw=>exact Rp.mono d s h
theorem RpF.early(s:Same H H1)(h:RpF X H1 f d H' v):RpF X H f d H' v:=by
 cases f with
 | sh=>exact h
 | tn=>exact⟨h.1,h.2.1,λa e=>s.free (h.2.2 a e)⟩
 | fr=>exact h
 | nw=>exact Rp.anti s d h
theorem RpF.nrm(h:RpF X H f d H' v):RpF X H (nrm f d).1 d H' v:=by
 unfold L2.nrm;by_cases q:d.flat=true
 · rw[if_pos q];exact Rp.flat d q h.sh
 · rw[if_neg q];exact h
theorem RpF.scal(q:d.flat=true)(h:Rp X.K emp d H' v):RpF X H .nw d H' v:=Rp.flat d q h
end
inductive Cell where
 | no|sh (f:Bool) (d:Dt)|ow (f:Bool) (ds:List Dt)|ex
abbrev Rho:=List Cell
def flOf(f:Bool):Fl:=if f then .fr else .sh
def Cell.val:Cell->Option Dv
 | .no=>none
 | .ex=>none
 | .sh f d=>some (nrm (flOf f) d)
 | .ow f ds=>some (flOf f,.lst ds)
def OT(ρ:Rho)(i:Nat):Option Dv:=(ρ[i]?).bind Cell.val
def bsOf(X:Ky)(f:Bool):Hp:=if f then X.H₀ else emp
def ExcAt(K:aD)(a:Addr)(h:Heap):Prop:=∃ oe C,h.get? a=some oe/\oe.cls = .ref C/\PySem.W.kitCls K (.ref C) (.type "ValueError")=some true
def RpC(X:Ky)(H:Hp):Cell->Option V->Prop
 | .no,_=>True
 | .ex,o=>∃ a φ,o=some (.ref a)/\H a=some (.ext φ)/\∀ h,φ h->ExcAt X.K a h
 | .sh f d,o=>∃ v,o=some v/\Rp X.K (bsOf X f) d H v
 | .ow f ds,o=>∃ v,o=some v/\Rp X.K (bsOf X f) (.lst ds) H v
structure RepS(X:Ky)(H:Hp)(ρ:Rho)(σ:St):Prop where
 len:ρ.length=σ.length
 base:Same X.H₀ H
 at_:∀(i:Nat) (c:Cell),ρ[i]?=some c->∃ o,σ[i]?=some o/\RpC X H c o
section
variable {X:Ky}{H H':Hp}{ρ:Rho}{σ:St}
theorem RpC.mono(e:Same H H'){c:Cell}{o:Option V}(h:RpC X H c o):RpC X H' c o:=by
 cases c with
 | no=>trivial
 | ex=>obtain⟨a,φ,q,r,z⟩:=h;exact⟨a,φ,q,e _ _ r,z⟩
 | sh f d=>obtain⟨v,q,r⟩:=h;exact⟨v,q,Rp.mono d e r⟩
 | ow f ds=>obtain⟨v,q,r⟩:=h;exact⟨v,q,Rp.mono _ e r⟩
theorem RepS.mono(h:RepS X H ρ σ)(e:Same H H'):RepS X H' ρ σ:=⟨h.len,h.base.trans e,λi c q=>by obtain⟨o,q1,q2⟩:=h.at_ i c q;exact⟨o,q1,q2.mono e⟩⟩
theorem z0P{f:Bool}{d:Dt}{v:V}(h:Rp X.K (bsOf X f) d H v):RpF X H (flOf f) d H v:=by
 cases f with
 | false=>exact h
 | true=>exact h
theorem RepS.val(h:RepS X H ρ σ){i:Nat}{f:Fl}{d:Dt}(e:OT ρ i=some (f,d)):∃ v,σ[i]?=some (some v)/\RpF X H f d H v:=by
 unfold OT at e;cases q:ρ[i]? with
 | none=>rw[q]at e;cases e
 | some c =>
  rw[q]at e;obtain⟨o,q1,q2⟩:=h.at_ i c q;cases c with
  | no=>cases e
  | ex=>cases e
  | sh f' d' =>
   obtain⟨v,rfl,r⟩:=q2;have e:nrm (flOf f') d'=(f,d):=Option.some.inj e;have r':=(z0P r).nrm;refine⟨v,q1,?_⟩;have e1:d'=d:=congrArg Prod.snd e;subst e1;rw[e]at r';exact r'
  | ow f' ds =>
   obtain⟨v,rfl,r⟩:=q2;cases e;exact⟨v,q1,z0P r⟩
end
end L2

end
section
namespace L2
open PySem PySem.Spec PyProof.Rows
theorem PE.imp{X:Cx}{e:Expr}{t t':TE}(h:PE X e t)(q:∀ σ H Q,t' σ H Q->t σ H Q):PE X e t':=λπ s σ H Q I z=>h π s σ H Q I (q σ H Q z)
theorem PT.imp{X:Cx}{e:Expr}{t t':TT}(h:PT X e t)(q:∀ σ H Q,t' σ H Q->t σ H Q):PT X e t':=λπ s σ H Q I z=>h π s σ H Q I (q σ H Q z)
theorem PW.imp{X:Cx}{e:Expr}{t t':TT}(h:PW X e t)(q:∀ σ H Q,t' σ H Q->t σ H Q):PW X e t':=λwhole π s σ H Q I z=>h whole π s σ H Q I (q σ H Q z)
theorem PA.imp{X:Cx}{es:List Expr}{t t':TA}(h:PA X es t)(q:∀ σ H Q,t' σ H Q->t σ H Q):PA X es t':=λpos π s σ H Q I z=>h pos π s σ H Q I (q σ H Q z)
theorem j7{α β:Type}{o:Option α}{f:α->Option β}{b:β}(h:o.bind f=some b):∃ a,o=some a/\f a=some b:=by
 cases o with
 | none=>cases h
 | some a=>exact⟨a,rfl,h⟩
section
variable {X:Ky}{H H':Hp}
theorem RpF.i_{i:Int}:RpF X H .nw (.int i) H' (.int i):=(Rp.int_ (K:=X.K) (B:=H) (H:=H')).mpr rfl
theorem RpF.b_{i:Bool}:RpF X H .nw (.bl i) H' (.bl i):=(Rp.bl_ (K:=X.K) (B:=H) (H:=H')).mpr rfl
theorem RpF.n_:RpF X H .nw .non H' .non:=(Rp.non_ (K:=X.K) (B:=H) (H:=H')).mpr rfl
end
abbrev FE:=Rho->Option Dv
abbrev FT:=Rho->Option Bool
abbrev FA:=Rho->Option (List Dv)
def upK(Y:Ky)(F:FE):TE:=λσ H Q=>∃ ρ f d,RepS Y H ρ σ/\F ρ=some (f,d)/\∀ v H',Same H H'->RpF Y H f d H' v->Q v H'
abbrev upF(X:Cx)(F:FE):TE:=upK X.ky F
def PF(X:Cx)(e:Expr)(F:FE):Prop:=PE X e (upF X F)
def upBK(Y:Ky)(F:FT):TT:=λσ H Q=>∃ ρ b,RepS Y H ρ σ/\F ρ=some b/\∀ H',Same H H'->Q b H'
abbrev upB(X:Cx)(F:FT):TT:=upBK X.ky F
def PFT(X:Cx)(e:Expr)(F:FT):Prop:=PT X e (upB X F)
def PFW(X:Cx)(e:Expr)(F:FT):Prop:=PW X e (upB X F)
theorem PFW.pt{X:Cx}{e:Expr}{F:FT}(h:PFW X e F):PFT X e F:=PW.pt h
section
variable {X:Cx}{a b c e:Expr}{Fa Fb Fc:FE}{pos:Pos}
def fN(i:Nat):FE:=λρ=>OT ρ i
theorem i0(i:Nat){x:Str}{pos:Pos}(hN:X.N[i]?=some x:=by rfl)(hv:Vis X.env.scope x:=by first|exact Or.inl rfl|exact Or.inr (Or.inl rfl)|exact Or.inr (Or.inr rfl))(hd:(x==("__debug__" : Str))=false:=by decide)
  (hcd:(x==("__classdict__" : Str))=false:=by decide):PF X (.Name x pos) (fN i) :=
 (Nr hN hv hd hcd).imp fun σ H Q ⟨ρ,f,d,rs,e,k⟩=>by
  obtain⟨v,e1,e2⟩:=rs.val e;exact⟨v,e1,k v H (Same.refl H) e2⟩
def fC(d:Dt):FE:=λ_=>some (.nw,d)
theorem j9{i:Int}{j:Nat}:PF X (.Constant (.int i) j pos) (fC (.int i)):=pe_int.imp (by rintro σ H Q ⟨ρ,f,d,rs,e,k⟩;cases e;exact k _ H (Same.refl H) RpF.i_)
theorem p_bl{v:Bool}{j:Nat}:PF X (.Constant (.bool v) j pos) (fC (.bl v)):=pe_bl.imp (by rintro σ H Q ⟨ρ,f,d,rs,e,k⟩;cases e;exact k _ H (Same.refl H) RpF.b_)
theorem Eh{j:Nat}:PF X (.Constant .none j pos) (fC .non):=pe_non.imp (by rintro σ H Q ⟨ρ,f,d,rs,e,k⟩;cases e;exact k _ H (Same.refl H) RpF.n_)
theorem z0Q{x:Str}{i:Int}{t:Tok}(hg:Gl X x)(hm:X.mg x=some (.int i t))(hd:(x==("__debug__" : Str))=false:=by decide):PF X (.Name x pos) (fC (.int i)) :=
 (XW (v:=V.int i) hg hm ⟨t,rfl⟩ hd).imp (by rintro σ H Q ⟨ρ,f,d,rs,e,k⟩;cases e;exact k _ H (Same.refl H) RpF.i_)
abbrev FO:=Dt->Dt->Option Dv
def OpF(X:Cx)(f:Value->Value->Sem Value)(r:FO):Prop :=
 OpR X f (λx y H Q=>∃ dx dy f d,Rp X.K emp dx H x/\Rp X.K emp dy H y/\r dx dy=some (f,d)/\∀ v H',Same H H'->RpF X.ky H f d H' v->Q v H')
def fOp(r:FO)(Fa Fb:FE):FE:=λρ=>(Fa ρ).bind λx=>(Fb ρ).bind λy=>r x.2 y.2
theorem Rh{r:FO}{σ:St}{H:Hp}{Q:VK}(h:upF X (fOp r Fa Fb) σ H Q):
  upF X Fa σ H λx H1=>upF X Fb σ H1 λy H2=>∃ dx dy f d,Rp X.K emp dx H2 x/\Rp X.K emp dy H2 y/\r dx dy=some (f,d)/\∀ v H',Same H2 H'->RpF X.ky H2 f d H' v->Q v H':=by
 obtain⟨ρ,f,d,rs,e,k⟩:=h;obtain⟨⟨fa,da⟩,ea,e⟩:=j7 e;obtain⟨⟨fb,db⟩,eb,e⟩:=j7 e;exact⟨ρ,fa,da,rs,ea,λv H1 s1 r1=>⟨ρ,fb,db,rs.mono s1,eb,λu H2 s2 r2=>⟨da,db,f,d,Rp.mono _ s2 r1.sh,r2.sh,e,λw H' s' r'=>k w H' (s1.trans (s2.trans s')) (r'.early (s1.trans s2))⟩⟩⟩
theorem p_op{op:Operator}{r:FO}(ho:OpF X (binaryOp op) r)(ha:PF X a Fa)(hb:PF X b Fb):PF X (.BinOp a op b pos) (fOp r Fa Fb):=(pe_op ho ha hb).imp λσ H Q h=>Rh h
theorem p_cmp{op:CmpOp}{r:FO}(ho:OpF X (compareOp op) r)(ha:PF X a Fa)(hb:PF X b Fb)(hm:behindInMarks op b=false):PF X (.Compare a [op] [b] pos) (fOp r Fa Fb):=(z52 ho ha hb hm).imp λσ H Q h=>Rh h
def rII(C:Int->Int->Bool)(g:Int->Int->Dt):FO
 | .int i,.int j=>if C i j then some (.nw,g i j) else none
 | _,_=>none
theorem NA{f:Value->Value->Sem Value}{P:Int->Int->Prop}{C:Int->Int->Bool}{g:Int->Int->V}{g':Int->Int->Dt}(ho:OpR X f (rI P g))(hP:∀ i j,C i j=true->P i j)(hf:∀ i j,(g' i j).flat=true)(hg:∀ i j H,Rp X.K emp (g' i j) H (g i j)):OpF X f (rII C g') :=
 λπ s σ H x y v u Q I r1 r2 ⟨d1,d2,f,d,q1,q2,e,k⟩=>by
  unfold rII at e;split at e
  · rename_i i j;split at e
    · rename_i hc;cases e;rw[Rp.int_]at q1 q2;exact ho π s σ H x y v u Q I r1 r2 ⟨i,j,q1,q2,hP i j hc,k _ H (Same.refl H) (RpF.scal (hf i j) (hg i j H))⟩
    · cases e
  · cases e
theorem Dw{f:Value->Value->Sem Value}{g:Int->Int->V}{g':Int->Int->Dt}(ho:OpR X f (rI0 g))(hf:∀ i j,(g' i j).flat=true)(hg:∀ i j H,Rp X.K emp (g' i j) H (g i j)):OpF X f (rII (λ_ _=>true) g') :=
 λπ s σ H x y v u Q I r1 r2 ⟨d1,d2,f,d,q1,q2,e,k⟩=>by
  unfold rII at e;split at e
  · rename_i i j;rw[if_pos rfl]at e;cases e;rw[Rp.int_]at q1 q2;exact ho π s σ H x y v u Q I r1 r2 ⟨i,j,q1,q2,k _ H (Same.refl H) (RpF.scal (hf i j) (hg i j H))⟩
  · cases e
def OpF.or{f:Value->Value->Sem Value}{r r':FO}(h:OpF X f r)(h':OpF X f r'):OpF X f (λx y=>(r x y).orElse λ_=>r' x y) :=
 λπ s σ H x y v u Q I r1 r2⟨d1,d2,f,d,q1,q2,e,k⟩=>by
  replace e:((r d1 d2).orElse λ_=>r' d1 d2)=some (f,d):=e;cases q:r d1 d2 with
  | some z =>
   rw[q]at e;cases e;exact h π s σ H x y v u Q I r1 r2 ⟨d1,d2,_,_,q1,q2,q,k⟩
  | none =>
   rw[q]at e;exact h' π s σ H x y v u Q I r1 r2 ⟨d1,d2,_,_,q1,q2,e,k⟩
def C9(i j:Int):Bool:=decide (Builtin.Int.intBits i+Builtin.Int.intBits j<=134217728)||(decide (i.natAbs<2 ^ 64)||decide (j.natAbs<2 ^ 64))
def P4(_ j:Int):Bool:=decide (j≠0)&&decide (j.natAbs.log2<9000)
def Ac(_ j:Int):Bool:=decide (j≠0)
def Ji(i j:Int):Bool:=decide (0<=j)&&decide (j<=1000000)&&decide (i.natAbs<2 ^ 64)
theorem z5i:OpR X (binaryOp .Mult) (rI (λi j=>C9 i j=true) λi j => .int (i*j)):=opI λi j _ _ _ _ _ hc q=>by
 refine mul_int q ?_;unfold C9 at hc;rw[uX,uX]at hc;rcases hc with hc|hc|hc
 · exact IntMulOk.of_le (wu _) (wu _) (of_decide_eq_true hc)
 · have:=of_decide_eq_true hc;exact CMul.ok (.inl ⟨by rfl',by rfl'⟩)
 · have:=of_decide_eq_true hc;exact CMul.ok (.inr ⟨by rfl',by rfl'⟩)
def z0R:FO:=rII (λ_ _=>true) λi j => .int (i+j)
def HW:FO:=rII (λ_ _=>true) λi j => .int (i-j)
def C3:FO:=rII C9 λi j => .int (i*j)
def AI:FO:=rII P4 λi j => .int (i.fdiv j)
def E3:FO:=rII Ac λi j => .int (i.fmod j)
def LB:FO:=rII Ji λi j => .int (i ^ j.toNat)
def opLt:FO:=rII (λ_ _=>true) λi j => .bl (decide (i<j))
def opLe:FO:=rII (λ_ _=>true) λi j => .bl (decide (i<=j))
def opGt:FO:=rII (λ_ _=>true) λi j => .bl (decide (j<i))
def opGe:FO:=rII (λ_ _=>true) λi j => .bl (decide (j<=i))
theorem o_addI:OpF X (binaryOp .Add) z0R:=Dw op_add (λ_ _=>rfl) λ_ _ _=>Rp.int_.mpr rfl
theorem z0S:OpF X (binaryOp .Sub) HW:=Dw op_sub (λ_ _=>rfl) λ_ _ _=>Rp.int_.mpr rfl
theorem X4:OpF X (binaryOp .Mult) C3:=NA z5i (λ_ _ h=>h) (λ_ _=>rfl) λ_ _ _=>Rp.int_.mpr rfl
theorem Bt:OpF X (binaryOp .FloorDiv) AI:=NA z0N (λi j h=>by unfold P4 at h;rw[wR]at h;exact⟨of_decide_eq_true h.1,of_decide_eq_true h.2⟩) (λ_ _=>rfl) λ_ _ _=>Rp.int_.mpr rfl
theorem O6:OpF X (binaryOp .Mod) E3:=NA z50 (λi j h=>of_decide_eq_true h) (λ_ _=>rfl) λ_ _ _=>Rp.int_.mpr rfl
theorem z0T:OpF X (binaryOp .Pow) LB:=NA op_pow (λi j h=>by unfold Ji at h;rw[wR,wR]at h;exact⟨of_decide_eq_true h.1.1,of_decide_eq_true h.1.2,of_decide_eq_true h.2⟩) (λ_ _=>rfl) λ_ _ _=>Rp.int_.mpr rfl
theorem o_lt:OpF X (compareOp .Lt) opLt:=Dw op_lt (λ_ _=>rfl) λ_ _ _=>Rp.bl_.mpr rfl
theorem o_le:OpF X (compareOp .LtE) opLe:=Dw op_le (λ_ _=>rfl) λ_ _ _=>Rp.bl_.mpr rfl
theorem o_gt:OpF X (compareOp .Gt) opGt:=Dw op_gt (λ_ _=>rfl) λ_ _ _=>Rp.bl_.mpr rfl
theorem o_ge:OpF X (compareOp .GtE) opGe:=Dw op_ge (λ_ _=>rfl) λ_ _ _=>Rp.bl_.mpr rfl
def lfl(ds:List Dt):Fl:=if E8 ds then .nw else .tn
def newL(ds:List Dt):Dv:=(lfl ds,.lst ds)
theorem Fg{X:Ky}{H:Hp}{ds:List Dt}{vs:List V}{p:Addr}(hp:H p=none)(r:Rps X.K emp ds H vs):RpF X H (lfl ds) (.lst ds) (upd H p (.lst vs)) (.ref p):=by
 unfold lfl;by_cases q:E8 ds=true
 · rw[if_pos q];exact Rp.new hp hp (Rps.flat ds q r)
 · rw[if_neg q];exact⟨Rp.new hp rfl r,⟨ds,rfl⟩,λa e=>by cases e;exact hp⟩
def Cj:FO
 | .lst xs,.lst ys=>if xs.length+ys.length<=1000000 then some (newL (xs++ys)) else none
 | _,_=>none
theorem Rp.items{K:aD}{B H:Hp}{ds:List Dt}{v:V}(h:Rp K B (.lst ds) H v):∃ a vs,v = .ref a/\B a=none/\H a=some (.lst vs)/\Rps K B ds H vs:=by
 obtain⟨a,vs,e,h0,h1,h2⟩:=Rp.lst_.mp h;exact⟨a,vs,e,h0,h1,Rps.mono _ A7 h2⟩
theorem o_cat:OpF X (binaryOp .Add) Cj:=by
 rintro π s σ H x y v u Q I r1 r2 ⟨d1,d2,f,d,q1,q2,e,k⟩;unfold Cj at e;split at e
 · rename_i xs ys;split at e
   · rename_i hc;cases e;obtain⟨a,vs,rfl,_,ha,ra⟩:=q1.items;obtain⟨b,ws,rfl,_,hb,rb⟩:=q2.items;exact op_cat π s σ H _ _ v u Q I r1 r2 ⟨a,b,vs,ws,rfl,rfl,ha,hb,wG (by rw[ra.length,rb.length];exact hc) (by decide),λp hp=>k _ _ (F3 hp) (Fg hp (ra.append rb))⟩
   · cases e
 · cases e
def u4:FO:=λx y=>(z0R x y).orElse λ_=>Cj x y
theorem K4:OpF X (binaryOp .Add) u4:=o_addI.or o_cat
def truD:Dt->Option Bool
 | .non=>some false
 | .bl b=>some b
 | .int i=>some (i != 0)
 | .lst ds=>some (!ds.isEmpty)
 | .tup ds=>some (!ds.isEmpty)
 | _=>none
theorem Rps.isEmpty{K:aD}{B H:Hp}{ds:List Dt}{vs:List V}(h:Rps K B ds H vs):(!vs.isEmpty)=!ds.isEmpty:=by
 have:=h.length;cases ds<;>cases vs<;>first|rfl|(simp at this)
theorem z5j{H:Hp}{d:Dt}{v:V}{k:Bool}(r:Rp X.K emp d H v)(e:truD d=some k):TruV X.K v H k:=by
 cases d with
 | non=>rw[Rp.non_.mp r];cases e;rfl
 | bl b=>rw[Rp.bl_.mp r];cases e;rfl
 | int i=>rw[Rp.int_.mp r];cases e;rfl
 | str x=>cases e
 | dic=>cases e
 | scr x=>cases e
 | lst ds =>
  obtain⟨p,vs,rfl,_,h1,h2⟩:=r.items;cases e;exact .inl ⟨vs,SqL.of h1,h2.isEmpty.symm⟩
 | tup ds =>
  obtain⟨p,vs,rfl,h1,h2⟩:=Rp.tup_.mp r;cases e;exact .inr (.inl ⟨vs,h1,h2.isEmpty.symm⟩)
def blD:Dt->Option Bool
 | .bl b=>some b
 | _=>none
def o9(F:FE):FT:=λρ=>(F ρ).bind λx=>blD x.2
def fTru(F:FE):FT:=λρ=>(F ρ).bind λx=>truD x.2
theorem t_cmp{op:CmpOp}{r:FO}(ho:OpF X (compareOp op) r)(ha:PF X a Fa)(hb:PF X b Fb)(hm:behindInMarks op b=false):PFT X (.Compare a [op] [b] pos) (o9 (fOp r Fa Fb)) :=
 (z53 ho ha hb hm).imp fun σ H Q hZ=>hZ.elim fun ρ hZ=>hZ.elim fun k hZ=>hZ.elim fun rs hZ=>hZ.elim fun e q=>by
  obtain⟨⟨f,d⟩,e1,e2⟩:=j7 e;refine Rh ⟨ρ,f,d,rs,e1,λv H' s r=>?_⟩;cases d<;>first|cases e2|skip
  exact⟨k,Rp.bl_.mp r.sh,q H' s⟩
theorem R0(ha:PF X a Fa)(he:∀ whole,isTrue a X.env whole=(do let v ←whole;standAt a.pos;holding [v] (truthy v))):PFT X a (fTru Fa) :=
 (z0C ha he).imp fun σ H Q hZ=>hZ.elim fun ρ hZ=>hZ.elim fun k hZ=>hZ.elim fun rs hZ=>hZ.elim fun e q=>by
  obtain⟨⟨f,d⟩,e1,e2⟩:=j7 e;exact⟨ρ,f,d,rs,e1,λv H' s r=>⟨k,z5j r.sh e2,q H' s⟩⟩
def fNot(F:FT):FT:=λρ=>(F ρ).map not
theorem U0{F:FT}(ha:PFT X a F):PFT X (.UnaryOp .Not a pos) (fNot F):=(pt_not ha).imp λσ H Q⟨ρ,k,rs,e,q⟩=>by
 unfold fNot at e;cases h:F ρ with
 | none=>rw[h]at e;cases e
 | some b=>rw[h]at e;cases e;exact⟨ρ,b,rs,h,q⟩
def fAnd(F G:FT):FT:=λρ=>(F ρ).bind λb=>if b then G ρ else some false
def fOr(F G:FT):FT:=λρ=>(F ρ).bind λb=>if b then some true else G ρ
theorem w_and1{F:FT}(ha:PFT X a F):PFW X (.BoolOp .And [a] pos) F:=z4W ha
theorem Cf{F:FT}(ha:PFT X a F):PFW X (.BoolOp .Or [a] pos) F:=pw_or1 ha
theorem w_and{rest:List Expr}{F G:FT}(ha:PFT X a F)(hb:PFW X (.BoolOp .And (b::rest) pos) G):PFW X (.BoolOp .And (a::b::rest) pos) (fAnd F G) :=
 (pw_and ha hb).imp fun σ H Q hZ=>hZ.elim fun ρ hZ=>hZ.elim fun k hZ=>hZ.elim fun rs hZ=>hZ.elim fun e q=>by
  obtain⟨z,e1,e2⟩:=j7 e;refine⟨ρ,z,rs,e1,λH' s=>?_⟩;dsimp only;cases z with
  | true=>rw[if_pos rfl]at e2 ⊢;exact⟨ρ,k,rs.mono s,e2,λH'' s'=>q H'' (s.trans s')⟩
  | false=>rw[if_neg wN]at e2 ⊢;cases e2;exact q H' s
theorem w_or{rest:List Expr}{F G:FT}(ha:PFT X a F)(hb:PFW X (.BoolOp .Or (b::rest) pos) G):PFW X (.BoolOp .Or (a::b::rest) pos) (fOr F G) :=
 (pw_or ha hb).imp fun σ H Q hZ=>hZ.elim fun ρ hZ=>hZ.elim fun k hZ=>hZ.elim fun rs hZ=>hZ.elim fun e q=>by
  obtain⟨z,e1,e2⟩:=j7 e;refine⟨ρ,z,rs,e1,λH' s=>?_⟩;dsimp only;cases z with
  | true=>rw[if_pos rfl]at e2 ⊢;cases e2;exact q H' s
  | false=>rw[if_neg wN]at e2 ⊢;exact⟨ρ,k,rs.mono s,e2,λH'' s'=>q H'' (s.trans s')⟩
def vAnd(F G:FE):FE:=λρ=>(o9 F ρ).bind λb=>if b then G ρ else some (.nw,.bl false)
def vOr(F G:FE):FE:=λρ=>(o9 F ρ).bind λb=>if b then some (.nw,.bl true) else G ρ
def vNot(F:FE):FE:=λρ=>(o9 F ρ).map λb=>(.nw,.bl (!b))
theorem LC{op}(h:PF X a Fa):PF X (.BoolOp op [a] pos) Fa:=pe_one h
theorem OU{rest:List Expr}(ha:PF X a Fa)(hb:PF X (.BoolOp .And (b::rest) pos) Fb):PF X (.BoolOp .And (a::b::rest) pos) (vAnd Fa Fb) :=
 (pe_and ha hb).imp fun σ H Q hZ=>hZ.elim fun ρ hZ=>hZ.elim fun f hZ=>hZ.elim fun d hZ=>hZ.elim fun rs hZ=>hZ.elim fun e k=>by
  obtain⟨z,e1,e2⟩:=j7 e;obtain⟨⟨f1,d1⟩,e3,e4⟩:=j7 e1;refine⟨ρ,f1,d1,rs,e3,λv H' s r=>?_⟩;cases d1<;>first|cases e4|skip
  refine⟨z,Rp.bl_.mp r.sh,?_⟩;cases z with
  | true=>rw[if_pos rfl]at e2 ⊢;exact⟨ρ,f,d,rs.mono s,e2,λv H'' s' r=>k v H'' (s.trans s') (r.early s)⟩
  | false=>rw[if_neg wN]at e2 ⊢;cases e2;exact k _ H' s RpF.b_
theorem p_or{rest:List Expr}(ha:PF X a Fa)(hb:PF X (.BoolOp .Or (b::rest) pos) Fb):PF X (.BoolOp .Or (a::b::rest) pos) (vOr Fa Fb) :=
 (pe_or ha hb).imp fun σ H Q hZ=>hZ.elim fun ρ hZ=>hZ.elim fun f hZ=>hZ.elim fun d hZ=>hZ.elim fun rs hZ=>hZ.elim fun e k=>by
  obtain⟨z,e1,e2⟩:=j7 e;obtain⟨⟨f1,d1⟩,e3,e4⟩:=j7 e1;refine⟨ρ,f1,d1,rs,e3,λv H' s r=>?_⟩;cases d1<;>first|cases e4|skip
  refine⟨z,Rp.bl_.mp r.sh,?_⟩;cases z with
  | true=>rw[if_pos rfl]at e2 ⊢;cases e2;exact k _ H' s RpF.b_
  | false=>rw[if_neg wN]at e2 ⊢;exact⟨ρ,f,d,rs.mono s,e2,λv H'' s' r=>k v H'' (s.trans s') (r.early s)⟩
theorem p_not(ha:PF X a Fa):PF X (.UnaryOp .Not a pos) (vNot Fa):=(pe_not ha).imp λσ H Q⟨ρ,f,d,rs,e,k⟩=>by
 unfold vNot at e;cases h:o9 Fa ρ with
 | none=>rw[h]at e;cases e
 | some z =>
  rw[h]at e;cases e;obtain⟨⟨f1,d1⟩,e3,e4⟩:=j7 h;refine⟨ρ,f1,d1,rs,e3,λv H' s r=>?_⟩;cases d1<;>first|cases e4|skip
  exact⟨z,Rp.bl_.mp r.sh,k _ H' s RpF.b_⟩
def fIf(F:FT)(Fa Fb:FE):FE:=λρ=>(F ρ).bind λb=>if b then Fa ρ else Fb ρ
theorem p_if{F:FT}(hc:PFT X c F)(ha:PF X a Fa)(hb:PF X b Fb):PF X (.IfExp c a b pos) (fIf F Fa Fb) :=
 (z0t hc ha hb).imp fun σ H Q hZ=>hZ.elim fun ρ hZ=>hZ.elim fun f hZ=>hZ.elim fun d hZ=>hZ.elim fun rs hZ=>hZ.elim fun e k=>by
  obtain⟨z,e1,e2⟩:=j7 e;refine⟨ρ,z,rs,e1,λH' s=>?_⟩;dsimp only;cases z with
  | true=>rw[if_pos rfl]at e2 ⊢;exact⟨ρ,f,d,rs.mono s,e2,λv H'' s' r=>k v H'' (s.trans s') (r.early s)⟩
  | false=>rw[if_neg wN]at e2 ⊢;exact⟨ρ,f,d,rs.mono s,e2,λv H'' s' r=>k v H'' (s.trans s') (r.early s)⟩
def fNeg(F:FE):FE:=λρ=>(F ρ).bind λx=>match x.2 with|.int i=>some (.nw,.int (-i))|_=>none
theorem LD(ha:PF X a Fa):PF X (.UnaryOp .USub a pos) (fNeg Fa):=(pe_un un_neg ha).imp λσ H Q ⟨ρ,f,d,rs,e,k⟩=>by
 obtain⟨⟨f1,d1⟩,e1,e2⟩:=j7 e;refine⟨ρ,f1,d1,rs,e1,λv H' s r=>?_⟩;cases d1<;>first|cases e2|skip
 rename_i i;exact⟨i,Rp.int_.mp r.sh,k _ H' s RpF.i_⟩
def Jj(r r':FO)(Fa Fb Fc:FE):FE:=λρ=>(Fa ρ).bind λx=>(Fb ρ).bind λy=>(r x.2 y.2).bind λz=>(blD z.2).bind λk=>if k then(Fc ρ).bind λw=>r' y.2 w.2 else some (.nw,.bl false)
theorem Zw{r r':FO}{σ:St}{H:Hp}{Q:VK}(h:upF X (Jj r r' Fa Fb Fc) σ H Q):
  z0A (λx y H Q=>∃ dx dy f d,Rp X.K emp dx H x/\Rp X.K emp dy H y/\r dx dy=some (f,d)/\∀ v H',Same H H'->RpF X.ky H f d H' v->Q v H') (λx y H Q=>∃ dx dy f d,Rp X.K emp dx H x/\Rp X.K emp dy H y/\r' dx dy=some (f,d)/\∀ v H',Same H H'->RpF X.ky H f d H' v->Q v H')
   (upF X Fa) (upF X Fb) (upF X Fc) σ H Q:=by
 obtain⟨ρ,f,d,rs,e0,k⟩:=h;obtain⟨⟨fa,da⟩,ea,e1⟩:=j7 e0;obtain⟨⟨fb,db⟩,eb,e2⟩:=j7 e1;obtain⟨⟨fz,dz⟩,ez,e3⟩:=j7 e2;obtain⟨z,ek,e⟩:=j7 e3;clear e3 e2 e1 e0;refine⟨ρ,fa,da,rs,ea,λv H1 s1 r1=>⟨ρ,fb,db,rs.mono s1,eb,λu H2 s2 r2=>⟨da,db,fz,dz,Rp.mono _ s2 r1.sh,r2.sh,ez,λw H3 s3 r3=>?_⟩⟩⟩;cases dz<;>first|cases ek|skip
 refine⟨z,Rp.bl_.mp r3.sh,?_⟩;cases z with
 | true =>
  rw[if_pos rfl]at e ⊢;obtain⟨⟨fc,dc⟩,ec,e⟩:=j7 e;exact⟨ρ,fc,dc,rs.mono (s1.trans (s2.trans s3)),ec,λw' H4 s4 r4=>⟨db,dc,f,d,Rp.mono _ (s3.trans s4) r2.sh,r4.sh,e,λy H' s' r'=>k y H' (s1.trans (s2.trans (s3.trans (s4.trans s')))) (r'.early (s1.trans (s2.trans (s3.trans s4))))⟩⟩
 | false =>
  rw[if_neg wN]at e ⊢;cases e;exact k _ _ (s1.trans (s2.trans s3)) RpF.b_
theorem z5k{op op':CmpOp}{r r':FO}(ho:OpF X (compareOp op) r)(ho':OpF X (compareOp op') r')(ha:PF X a Fa)(hb:PF X b Fb)(hc:PF X c Fc)
 (hm:lastMarks [op,op'] [b,c]=false:=by with_unfolding_all rfl):PF X (.Compare a [op,op'] [b,c] pos) (Jj r r' Fa Fb Fc):=(z0B ho ho' ha hb hc hm).imp λσ H Q h=>Zw h
def isN:Dt->Bool
 | .non=>true
 | _=>false
def AJ:FO:=λx y=>match y with|.non=>some (.nw,.bl (isN x))|_=>none
def Jk:FO:=λx y=>match y with|.non=>some (.nw,.bl (!isN x))|_=>none
theorem isNon{H:Hp}{d:Dt}{v:V}(r:Rp X.K emp d H v):decide (v=V.non)=isN d:=by
 cases d with
 | non=>rw[Rp.non_.mp r];rfl
 | bl b=>rw[Rp.bl_.mp r];rfl
 | int i=>rw[Rp.int_.mp r];rfl
 | str x=>rw[Rp.str_.mp r];rfl
 | lst ds=>obtain⟨a,_,rfl,_⟩:=Rp.lst_.mp r;rfl
 | tup ds=>obtain⟨a,_,rfl,_⟩:=Rp.tup_.mp r;rfl
 | scr ds=>obtain⟨a,rfl,_⟩:=Rp.scr_.mp r;rfl
 | dic=>obtain⟨a,rfl,_⟩:=Rp.dic_.mp r;rfl
theorem Yc:OpF X (compareOp .Is) AJ:=by
 rintro π s σ H x y v u Q I r1 r2 ⟨d1,d2,f,d,q1,q2,e,k⟩;unfold AJ at e;split at e
 · cases e;refine op_isN π s σ H x y v u Q I r1 r2 ⟨Rp.non_.mp q2,?_⟩;rw[isNon q1];exact k _ H (Same.refl H) RpF.b_
 · cases e
theorem o_notN:OpF X (compareOp .IsNot) Jk:=by
 rintro π s σ H x y v u Q I r1 r2 ⟨d1,d2,f,d,q1,q2,e,k⟩;unfold Jk at e;split at e
 · cases e;refine z51 π s σ H x y v u Q I r1 r2 ⟨Rp.non_.mp q2,?_⟩;rw[isNon q1];exact k _ H (Same.refl H) RpF.b_
 · cases e
theorem Bu{K:aD}{B H:Hp}{ds:List Dt}{vs:List V}{i:Int}{d:Dt}(h:Rps K B ds H vs)(e:atI ds i=some d):∃ v,atI vs i=some v/\Rp K B d H v:=by
 unfold atI at e ⊢;rw[h.length];cases q:ixN ds.length i with
 | none=>rw[q]at e;cases e
 | some j =>
  rw[q]at e;exact h.get e
def Fl.item:Fl->Fl
 | .tn => .sh
 | f=>f
def opAt(x:Dv)(y:Dv):Option Dv:=match x.2,y.2 with
 | .lst ds,.int i=>(atI ds i).map (nrm x.1.item)
 | .tup ds,.int i=>(atI ds i).map (nrm x.1.item)
 | .scr ns,.int i=>(atI ns i).map λn=>(.nw,.int n)
 | _,_=>none
def fAt(Fa Fb:FE):FE:=λρ=>(Fa ρ).bind λx=>(Fb ρ).bind λy=>opAt x y
theorem RpF.item{X:Ky}{H H':Hp}{f:Fl}{ds:List Dt}{v:V}{i:Int}{d:Dt}(h:RpF X H f (.lst ds) H' v)(e:atI ds i=some d):∃ a vs w,v = .ref a/\SqL X.K H' a vs/\atI vs i=some w/\RpF X H f.item d H' w:=by
 cases f with
 | sh=>obtain⟨a,vs,rfl,_,h1,h2⟩:=Rp.items h;obtain⟨w,e1,e2⟩:=Bu h2 e;exact⟨a,vs,w,rfl,SqL.of h1,e1,e2⟩
 | tn=>obtain⟨a,vs,rfl,_,h1,h2⟩:=Rp.items h.1;obtain⟨w,e1,e2⟩:=Bu h2 e;exact⟨a,vs,w,rfl,SqL.of h1,e1,e2⟩
 | fr=>obtain⟨a,vs,rfl,_,h1,h2⟩:=Rp.items h;obtain⟨w,e1,e2⟩:=Bu h2 e;exact⟨a,vs,w,rfl,SqL.of h1,e1,e2⟩
 | nw=>obtain⟨a,vs,rfl,_,h1,h2⟩:=Rp.items h;obtain⟨w,e1,e2⟩:=Bu h2 e;exact⟨a,vs,w,rfl,SqL.of h1,e1,e2⟩
theorem RpF.itemT{X:Ky}{H H':Hp}{f:Fl}{ds:List Dt}{v:V}{i:Int}{d:Dt}(h:RpF X H f (.tup ds) H' v)(e:atI ds i=some d):∃ a vs w,v = .ref a/\SqT X.K H' a vs/\atI vs i=some w/\RpF X H f.item d H' w:=by
 cases f with
 | sh=>obtain⟨a,vs,rfl,h1,h2⟩:=Rp.tup_.mp h;obtain⟨w,e1,e2⟩:=Bu h2 e;exact⟨a,vs,w,rfl,h1,e1,e2⟩
 | tn=>obtain⟨⟨_,h2⟩,_⟩:=h.2;cases h2
 | fr=>obtain⟨a,vs,rfl,h1,h2⟩:=Rp.tup_.mp h;obtain⟨w,e1,e2⟩:=Bu h2 e;exact⟨a,vs,w,rfl,h1,e1,e2⟩
 | nw=>obtain⟨a,vs,rfl,h1,h2⟩:=Rp.tup_.mp h;obtain⟨w,e1,e2⟩:=Bu h2 e;exact⟨a,vs,w,rfl,h1,e1,e2⟩
theorem z5l{α β:Type}{g:α->β}{xs:List α}{i:Int}{x:α}(h:atI xs i=some x):atI (xs.map g) i=some (g x):=by
 unfold atI at h ⊢;rw[wv];cases q:ixN xs.length i with
 | none=>rw[q]at h;cases h
 | some j=>rw[q]at h;have h:xs[j]?=some x:=h;show(xs.map g)[j]?=_;rw[wF,h];rfl
theorem p_ix(ha:PF X a Fa)(hb:PF X b Fb)(hs:Nw b):PF X (.Subscript a b pos) (fAt Fa Fb) :=
 (pe_ix ix_seq ha hb hs).imp fun σ H Q hZ=>hZ.elim fun ρ hZ=>hZ.elim fun f hZ=>hZ.elim fun d hZ=>hZ.elim fun rs hZ=>hZ.elim fun e0 k=>by
  obtain⟨⟨fa,da⟩,ea,e1⟩:=j7 e0;obtain⟨⟨fb,db⟩,eb,e⟩:=j7 e1;clear e1 e0;refine⟨ρ,fa,da,rs,ea,λv H1 s1 r1=>⟨ρ,fb,db,rs.mono s1,eb,λu H2 s2 r2=>?_⟩⟩;have r1:=r1.mono s2;unfold opAt at e;split at e
  · rename_i ds i ed ei;cases ed;cases ei;cases q:atI ds i with
    | none=>rw[q]at e;cases e
    | some d0 =>
     rw[q]at e;obtain⟨p,vs,w,rfl,h1,h2,h3⟩:=r1.item q;have e:nrm fa.item d0=(f,d):=Option.some.inj e;have h4:=h3.nrm;have e1:d0=d:=congrArg Prod.snd e;subst e1;rw[e]at h4;exact .inl ⟨p,vs,i,w,rfl,Rp.int_.mp r2.sh,h1,h2,k _ _ (s1.trans s2) h4⟩
  · rename_i ds i ed ei;cases ed;cases ei;cases q:atI ds i with
    | none=>rw[q]at e;cases e
    | some d0 =>
     rw[q]at e;obtain⟨p,vs,w,rfl,h1,h2,h3⟩:=r1.itemT q;have e:nrm fa.item d0=(f,d):=Option.some.inj e;have h4:=h3.nrm;have e1:d0=d:=congrArg Prod.snd e;subst e1;rw[e]at h4;exact .inr (.inl ⟨p,vs,i,w,rfl,Rp.int_.mp r2.sh,h1,h2,k _ _ (s1.trans s2) h4⟩)
  · rename_i ns i ed ei;cases ed;cases ei;cases q:atI ns i with
    | none=>rw[q]at e;cases e
    | some n =>
     rw[q]at e;cases e;obtain⟨p,rfl,_,h1⟩:=Rp.scr_.mp r1.sh;exact .inl ⟨p,_,i,_,rfl,Rp.int_.mp r2.sh,h1,z5l q,k _ _ (s1.trans s2) RpF.i_⟩
  · cases e
end
end L2

end
section
local macro_rules|`(tactic|rfl')=>`(tactic|first|lia|omega +splitDisjunctions)
namespace L2
open PySem PySem.Spec PyProof.Rows
mutual
def Dt.py:Dt->PyData
 | .non => .none
 | .bl b => .bool b
 | .int i => .int i
 | .str x => .str x
 | .lst ds => .list (pys ds)
 | .tup ds => .tuple (pys ds)
 | .scr ns => .list (ns.map .int)
 | .dic => .dict []
def pys:List Dt->List PyData
 | []=>[]
 | d::ds=>d.py::pys ds
end
mutual
def Dt.okN:Nat->Dt->Bool
 | _,.str x=>PyData.strOk x
 | 0,.lst _=>false
 | 0,.tup _=>false
 | n+1,.lst ds=>oksN n ds
 | n+1,.tup ds=>oksN n ds
 | 0,.scr _=>false
 | _,.dic=>false
 | _,_=>true
def oksN:Nat->List Dt->Bool
 | _,[]=>true
 | n,d::ds=>d.okN n&&oksN n ds
end
theorem NB:∀ ns:aG,PyData.canLayAll0 (ns.map PyData.int)=true/\PyData.depthAll (ns.map PyData.int)=0
 | []=>⟨rfl,rfl⟩
 | n::ns=>⟨by rw[wm,PyData.canLayAll0,(NB ns).1];rfl,by rw[wm,PyData.depthAll,(NB ns).2];rfl⟩
mutual
theorem Yd:∀(n:Nat) (d:Dt),d.okN n=true->d.py.canLay0=true/\d.py.depth<=n
 | n,.non,_=>⟨rfl,by rw[Dt.py,PyData.depth];exact wK _⟩
 | n,.bl b,_=>⟨rfl,by rw[Dt.py,PyData.depth];exact wK _⟩
 | n,.int i,_=>⟨rfl,by rw[Dt.py,PyData.depth];exact wK _⟩
 | n,.str x,h=>by
  have h:PyData.strOk x=true:=by cases n<;>simpa[Dt.okN]using h
  exact⟨by rw[Dt.py,PyData.canLay0];exact h,by rw[Dt.py,PyData.depth];exact wK _⟩
 | 0,.lst ds,h=>by rw[Dt.okN]at h;cases h
 | 0,.tup ds,h=>by rw[Dt.okN]at h;cases h
 | 0,.scr ds,h=>by rw[Dt.okN]at h;cases h
 | n,.dic,h=>by cases n<;>(unfold Dt.okN at h;cases h)
 | n+1,.lst ds,h=>by
  rw[Dt.okN]at h;obtain⟨h1,h2⟩:=Jl n ds h;exact⟨by rw[Dt.py,PyData.canLay0];exact h1,by rw[Dt.py,PyData.depth];rfl'⟩
 | n+1,.tup ds,h=>by
  rw[Dt.okN]at h;obtain⟨h1,h2⟩:=Jl n ds h;exact⟨by rw[Dt.py,PyData.canLay0];exact h1,by rw[Dt.py,PyData.depth];rfl'⟩
 | n+1,.scr ns,h=>by
  obtain⟨h1,h2⟩:=NB ns;exact⟨by rw[Dt.py,PyData.canLay0];exact h1,by rw[Dt.py,PyData.depth];rfl'⟩
theorem Jl:∀(n:Nat) (ds:List Dt),oksN n ds=true->PyData.canLayAll0 (pys ds)=true/\PyData.depthAll (pys ds)<=n
 | n,[],_=>⟨rfl,by rw[pys,PyData.depthAll];exact wK _⟩
 | n,d::ds,h=>by
  rw[oksN,wR]at h;obtain⟨h1,h2⟩:=Yd n d h.1;obtain⟨h3,h4⟩:=Jl n ds h.2;refine⟨by rw[pys,PyData.canLayAll0,h1,h3];rfl,?_⟩;rw[pys,PyData.depthAll];exact Nat.max_le.mpr ⟨h2,h4⟩
end
theorem Dx{d:Dt}{n:Nat}(h:d.okN n=true)(hn:n<=64):SeqAt.shaped d.py=true:=by
 obtain⟨h1,h2⟩:=Yd n d h;unfold SeqAt.shaped;rw[h1,w0H];exact decide_eq_true (wG h2 hn)
section
variable {X:Cx}{π:aB}{σ:St}{H:Hp}{s:Shared}
theorem Jm{h:Heap}:∀{ns:aG} {us:aF},Vals (ns.map V.int) us->∃ as,ReadsAll h us (ns.map PyData.int) as
 | [],us,r=>by cases r;exact⟨_,.nil⟩
 | n::ns,us,r=>by
  rw[wm]at r;cases r with
  | cons r1 r2 =>
   obtain⟨t,rfl⟩:=r1;obtain⟨as,q⟩:=Jm r2;exact⟨_,.cons (.int n t) q⟩
mutual
theorem Ck(I:Inv X π σ H s):∀(d:Dt) {v:V} {u:Value},Rp X.K emp d H v->RelV v u->∃ as,Reads s.heap u d.py as
 | .non,v,u,h,r=>by rw[Rp.non_]at h;subst h;cases r;exact⟨_,.none⟩
 | .bl b,v,u,h,r=>by rw[Rp.bl_]at h;subst h;cases r;exact⟨_,.bool b⟩
 | .int i,v,u,h,r=>by rw[Rp.int_]at h;subst h;obtain⟨t,rfl⟩:=r;exact⟨_,.int i t⟩
 | .str x,v,u,h,r=>by rw[Rp.str_]at h;subst h;obtain⟨t,rfl⟩:=r;exact⟨_,.str x t⟩
 | .dic,v,u,h,r=>by
  obtain⟨a,rfl,h1⟩:=Rp.dic_.mp h;cases r;exact⟨_,by rw[Dt.py];exact .dict (I.hok a _ h1).1 rfl rfl .nil .nil⟩
 | .lst ds,v,u,h,r=>by
  obtain⟨a,vs,rfl,_,h1,h2⟩:=Rp.lst_.mp h;cases r;obtain⟨its,rv,⟨o,n,e,c,dd,dt⟩,_⟩:=I.list (SqL.of (K:=X.K) h1);obtain⟨as,q⟩:=Cl I ds (Rps.mono ds A7 h2) rv;exact⟨_,by rw[Dt.py];exact .list e c dt q⟩
 | .tup ds,v,u,h,r=>by
  obtain⟨a,vs,rfl,h1,h2⟩:=Rp.tup_.mp h;cases r;obtain⟨its,rv,⟨o,e,c,n,dt⟩,_⟩:=I.tuple h1;obtain⟨as,q⟩:=Cl I ds h2 rv;exact⟨_,by rw[Dt.py];exact .tuple e c dt q⟩
 | .scr ns,v,u,h,r=>by
  obtain⟨a,rfl,_,h1⟩:=Rp.scr_.mp h;cases r;obtain⟨its,rv,⟨o,n,e,c,dd,dt⟩,_⟩:=I.list h1;obtain⟨as,q⟩:=Jm (h:=s.heap) rv;exact⟨_,by rw[Dt.py];exact .list e c dt q⟩
theorem Cl(I:Inv X π σ H s):∀(ds:List Dt) {vs:List V} {us:aF},Rps X.K emp ds H vs->Vals vs us->∃ as,ReadsAll s.heap us (pys ds) as
 | [],vs,us,h,r=>by rw[Rps.nil_]at h;subst h;cases r;exact⟨_,by rw[pys];exact .nil⟩
 | d::ds,vs,us,h,r=>by
  obtain⟨v,ws,rfl,h1,h2⟩:=Rps.cons_.mp h;cases r with
  | cons r1 r2 =>
   obtain⟨as,q1⟩:=Ck I d h1 r1;obtain⟨bs,q2⟩:=Cl I ds h2 r2;exact⟨_,by rw[pys];exact .cons q1 q2⟩
end
end
def eqD(x y:Dt):Bool:=PyData.eqv x.py y.py
section
variable {X:Cx}{a b c e:Expr}{Fa Fb Fc:FE}{pos:Pos}
def opEq:FO:=λx y=>if x.okN 8&&y.okN 8 then some (.nw,.bl (eqD x y)) else none
def opNe:FO:=λx y=>if x.okN 8&&y.okN 8 then some (.nw,.bl (!eqD x y)) else none
theorem o_eq(hu:X.A.units+64<cLine):OpF X (compareOp .Eq) opEq:=by
 rintro π s σ H x y v u Q I r1 r2 ⟨d1,d2,f,d,q1,q2,e,k⟩;unfold opEq at e;split at e
 · rename_i h;rw[wR]at h;cases e;obtain⟨as,ra⟩:=Ck I d1 q1 r1;obtain⟨bs,rb⟩:=Ck I d2 q2 r2;exact eq_dataH ra rb (Dx h.1 (by decide)) (Dx h.2 (by decide)) hu ⟨.bl _,H,I,rfl,k _ H (Same.refl H) RpF.b_⟩
 · cases e
theorem o_ne(hu:X.A.units+64<cLine):OpF X (compareOp .NotEq) opNe:=by
 rintro π s σ H x y v u Q I r1 r2 ⟨d1,d2,f,d,q1,q2,e,k⟩;unfold opNe at e;split at e
 · rename_i h;rw[wR]at h;cases e;obtain⟨as,ra⟩:=Ck I d1 q1 r1;obtain⟨bs,rb⟩:=Ck I d2 q2 r2;exact ne_dataH ra rb (Dx h.1 (by decide)) (Dx h.2 (by decide)) hu ⟨.bl _,H,I,rfl,k _ H (Same.refl H) RpF.b_⟩
 · cases e
end
def RpFs(X:Ky)(H:Hp):List Dv->Hp->List V->Prop
 | [],_,vs=>vs=[]
 | x::xs,H',vs=>∃ v r,vs=v::r/\RpF X H x.1 x.2 H' v/\RpFs X H xs H' r
def upAs(X:Cx)(F:FA):TA:=λσ H Q=>∃ ρ xs,RepS X.ky H ρ σ/\F ρ=some xs/\∀ vs H',Same H H'->RpFs X.ky H xs H' vs->Q vs H'
def PFA(X:Cx)(es:List Expr)(F:FA):Prop:=PA X es (upAs X F)
def sndL:List Dv->List Dt
 | []=>[]
 | x::xs=>x.2::sndL xs
def Cg:List Dv->Bool
 | []=>true
 | x::xs=>x.1.isNw&&Cg xs
def V3:List Dv->Bool
 | []=>true
 | x::xs=>x.1.isFr&&V3 xs
section
variable {X:Ky}{H H' H1:Hp}
theorem RpFs.sh:∀{xs:List Dv} {vs:List V},RpFs X H xs H' vs->Rps X.K emp (sndL xs) H' vs
 | [],vs,h=>Rps.nil_.mpr h
 | x::xs,vs,⟨v,r,e,h1,h2⟩=>Rps.cons_.mpr ⟨v,r,e,h1.sh,RpFs.sh h2⟩
theorem RpFs.nw:∀{xs:List Dv} {vs:List V},Cg xs=true->RpFs X H xs H' vs->Rps X.K H (sndL xs) H' vs
 | [],vs,_,h=>Rps.nil_.mpr h
 | ⟨f,d⟩::xs,vs,q,⟨v,r,e,h1,h2⟩=>by
  unfold Cg at q;rw[wR]at q;cases f<;>first|(exact absurd q.1 wN)|exact Rps.cons_.mpr ⟨v,r,e,h1,RpFs.nw q.2 h2⟩
theorem RpFs.fr(h0:Same X.H₀ H):∀{xs:List Dv} {vs:List V},V3 xs=true->RpFs X H xs H' vs->Rps X.K X.H₀ (sndL xs) H' vs
 | [],vs,_,h=>Rps.nil_.mpr h
 | ⟨f,d⟩::xs,vs,q,⟨v,r,e,h1,h2⟩=>by
  unfold V3 at q;rw[wR]at q;exact Rps.cons_.mpr ⟨v,r,e,h1.fr h0 q.1,RpFs.fr h0 q.2 h2⟩
theorem RpFs.mono:∀{xs:List Dv} {vs:List V},RpFs X H xs H' vs->Same H' H1->RpFs X H xs H1 vs
 | [],vs,h,_=>h
 | x::xs,vs,⟨v,r,e,h1,h2⟩,s=>⟨v,r,e,h1.mono s,RpFs.mono h2 s⟩
theorem RpFs.early(s:Same H H1):∀{xs:List Dv} {vs:List V},RpFs X H1 xs H' vs->RpFs X H xs H' vs
 | [],vs,h=>h
 | x::xs,vs,⟨v,r,e,h1,h2⟩=>⟨v,r,e,h1.early s,RpFs.early s h2⟩
end
section
variable {X:Cx}{a b c e:Expr}{es:List Expr}{Fa Fb Fe:FE}{Fs:FA}{pos:Pos}
def fNil:FA:=λ_=>some []
def f8(Fa:FE)(Fs:FA):FA:=λρ=>(Fa ρ).bind λx=>(Fs ρ).bind λxs=>some (x::xs)
theorem i9:PFA X [] fNil:=Je.imp (by rintro σ H Q ⟨ρ,xs,rs,e,k⟩;cases e;exact k [] H (Same.refl H) rfl)
theorem j3(ha:PF X e Fe)(hr:PFA X es Fs)(hs:starEach (e::es) X.env=(false,eval e X.env)::starEach es X.env:=by rfl):PFA X (e::es) (f8 Fe Fs) :=
 (Bm ha hr hs).imp fun σ H Q hZ=>hZ.elim fun ρ hZ=>hZ.elim fun xs hZ=>hZ.elim fun rs hZ=>hZ.elim fun e0 k=>by
  obtain⟨⟨f,d⟩,e1,e2⟩:=j7 e0;obtain⟨ys,e3,e4⟩:=j7 e2;cases e4;exact⟨ρ,f,d,rs,e1,λv H1 s1 r1=>⟨ρ,ys,rs.mono s1,e3,λvs H2 s2 r2=>k _ _ (s1.trans s2) ⟨v,vs,rfl,r1.mono s2,r2.early s1⟩⟩⟩
theorem RpFs.length{X:Ky}{H H':Hp}:∀{xs:List Dv} {vs:List V},RpFs X H xs H' vs->vs.length=xs.length
 | [],vs,h=>by rw[show vs=[]from h];rfl
 | x::xs,vs,⟨v,r,e,_,h2⟩=>by rw[e,wn,wn,RpFs.length h2]
def fLst(Fs:FA):FE:=λρ=>(Fs ρ).bind λxs=>if xs.length<=1000 then some (if Cg xs then .nw else .tn,.lst (sndL xs)) else none
def fTup(Fs:FA):FE:=λρ=>(Fs ρ).bind λxs=>if xs.length<=1000 then some (if Cg xs then .nw else if V3 xs then .fr else .sh,.tup (sndL xs)) else none
theorem Ei(h:PFA X es Fs):PF X (.List es pos) (fLst Fs):=(pe_lst h).imp λσ H Q⟨ρ,f,d,rs,e0,k⟩=>by
 obtain⟨xs,e1,e2⟩:=j7 e0;split at e2
 · rename_i hl;cases e2;refine⟨ρ,xs,rs,e1,λvs H1 s1 r1=>⟨wG (by rw[r1.length];exact hl) (by decide),λp hp=>k _ _ (s1.trans (F3 hp)) ?_⟩⟩;have hp0:H p=none:=s1.free hp;by_cases q:Cg xs=true
   · rw[if_pos q];exact Rp.new (K:=X.K) (B:=H) hp hp0 (r1.nw q)
   · rw[if_neg q];exact⟨Rp.new hp rfl r1.sh,⟨_,rfl⟩,λa e=>by cases e;exact hp0⟩
 · cases e2
theorem AK{x1}(h:PFA X es Fs):PF X (.Tuple es x1 pos) (fTup Fs):=(pe_tup h).imp λσ H Q⟨ρ,f,d,rs,e0,k⟩=>by
 obtain⟨xs,e1,e2⟩:=j7 e0;split at e2
 · rename_i hl;cases e2;refine⟨ρ,xs,rs,e1,λvs H1 s1 r1=>⟨wG (by rw[r1.length];exact hl) (by decide),λp hp=>k _ _ (s1.trans (F3 hp)) ?_⟩⟩;have r2:=r1.mono (F3 (o := .tup vs) hp);by_cases q:Cg xs=true
   · rw[if_pos q];exact(Rp.tup_ (K:=X.K) (B:=H)).mpr ⟨p,vs,rfl,SqT.of D7,r2.nw q⟩
   · rw[if_neg q];by_cases q2:V3 xs=true
     · rw[if_pos q2];exact(Rp.tup_ (K:=X.K) (B:=X.H₀)).mpr ⟨p,vs,rfl,SqT.of D7,r2.fr rs.base q2⟩
     · rw[if_neg q2];exact(Rp.tup_ (K:=X.K) (B:=emp)).mpr ⟨p,vs,rfl,SqT.of D7,r2.sh⟩
 · cases e2
abbrev FC:=List Dt->Option Dt
def spc(K:aD)(fr:Bool)(c:FC):Sp:=λvs H Q _=>∃ ds d,Rps K emp ds H vs/\c ds=some d/\∀ v H',Same H H'->Rp K (if fr then H else emp) d H' v->Q v H'
def i7(fr:Bool)(c:FC)(Fs:FA):FE:=λρ=>(Fs ρ).bind λxs=>(c (sndL xs)).map (nrm (if fr then .nw else .sh))
theorem z0U{X:Ky}{fr:Bool}{H H1 H':Hp}{d:Dt}{v:V}(s:Same H H1)(r:Rp X.K (if fr then H1 else emp) d H' v):RpF X H (nrm (if fr then .nw else .sh) d).1 d H' v:=by
 cases fr with
 | true=>exact RpF.nrm (f := .nw) (RpF.early s (show RpF X H1 .nw d H' v from r))
 | false=>exact RpF.nrm (f := .sh) r
theorem p_call{fr:Bool}{k:Nat}{f:Addr}{fd:FuncData}{ps:List Str}{ct:FC}{x:Str}{p:Pos}(F:FnOk X.prog X.w X.K X.mg X.base CX0 k f fd ps (spc X.K fr ct))(hr:Room k X.A)(hg:Gl X x)(hm:X.mg x=some (.ref f))(hk:PySem.W.keepIn X.K (.ref f)=true)(hb:Binds X.K fd ps [])
  (ha:PFA X (e::es) Fs) (hdb:(x==("__debug__" : Str))=false:=by decide) (hst:starEach (e::es) X.env=(false,eval e X.env)::starEach es X.env:=by rfl) (hpl:(backTo pos (starEach es X.env)).any (·.1)=false:=by rfl):PF X (.Call (.Name x p) (e::es) [] pos) (i7 fr ct Fs) :=
 (z55 (E:=E0) (dvs:=[]) F hr hg hm hk hb .nil pass0 ha hdb hst hpl).imp fun σ H Q hZ=>hZ.elim fun ρ hZ=>hZ.elim fun f hZ=>hZ.elim fun d hZ=>hZ.elim fun rs hZ=>hZ.elim fun e0 k=>by
  obtain⟨xs,e1,e2⟩:=j7 e0;cases q:ct (sndL xs) with
  | none=>rw[q]at e2;cases e2
  | some d0 =>
   rw[q]at e2;have e2:nrm (if fr then .nw else .sh) d0=(f,d):=Option.some.inj e2;have e3:d0=d:=congrArg Prod.snd e2;subst e3;refine⟨ρ,xs,rs,e1,λvs H1 s1 r1=>?_⟩;dsimp only;rw[uf];refine⟨_,d0,r1.sh,q,λv H' s' r'=>k v H' (s1.trans s') ?_⟩;have:=z0U (X:=X.ky) s1 r';rw[e2]at this;exact this
abbrev FB:=List Dt->Option Dv
def Ch(X:Cx)(f:Value)(r:FB):Prop:=Fd X f (λxs H Q=>∃ ds f d,Rps X.K emp ds H xs/\r ds=some (f,d)/\∀ v H',Same H H'->RpF X.ky H f d H' v->Q v H')
def fBlt(r:FB)(Fs:FA):FE:=λρ=>(Fs ρ).bind λxs=>r (sndL xs)
theorem Ye{r:FB}{σ:St}{H:Hp}{Q:VK}(h:upF X (fBlt r Fs) σ H Q):upAs X Fs σ H λvs H1=>∃ ds f d,Rps X.K emp ds H1 vs/\r ds=some (f,d)/\∀ v H',Same H1 H'->RpF X.ky H1 f d H' v->Q v H':=by
 obtain⟨ρ,f,d,rs,e0,k⟩:=h;obtain⟨xs,e1,e2⟩:=j7 e0;exact⟨ρ,xs,rs,e1,λvs H1 s1 r1=>⟨_,f,d,r1.sh,e2,λv H' s' r'=>k v H' (s1.trans s') (r'.early s1)⟩⟩
theorem z5m{id:String}{r:FB}{x:Str}{p:Pos}(hc:Ch X (.builtin id) r)(hg:Gl X x)(hm:X.mg x=none)(hv:bootBuiltins x=some (.builtin id))(ha:PFA X (e::es) Fs)(hn:x ≠ "__name__" := by decide)(hdb:(x==("__debug__" : Str))=false:=by decide)(hst:starEach (e::es) X.env=(false,eval e X.env)::starEach es X.env:=by rfl)(hpl:(backTo pos (starEach es X.env)).any (·.1)=false:=by rfl):
 PF X (.Call (.Name x p) (e::es) [] pos) (fBlt r Fs):=(ON hc hg hm hv ha hn hdb hst hpl).imp λσ H Q h=>Ye h
theorem z0V{T:String}{r:FB}{x:Str}{p:Pos}(hc:Ch X (.type T) r)(hg:Gl X x)(hm:X.mg x=none)(hv:bootBuiltins x=some (.type T))(ha:PFA X (e::es) Fs)(hn:x ≠ "__name__" := by decide)(hdb:(x==("__debug__" : Str))=false:=by decide)(hst:starEach (e::es) X.env=(false,eval e X.env)::starEach es X.env:=by rfl)(hpl:(backTo pos (starEach es X.env)).any (·.1)=false:=by rfl):
 PF X (.Call (.Name x p) (e::es) [] pos) (fBlt r Fs):=(Zt hc hg hm hv ha hn hdb hst hpl).imp λσ H Q h=>Ye h
end
section
variable {X:Cx}
theorem Rps.one'{K:aD}{B H:Hp}{d:Dt}{vs:List V}(h:Rps K B [d] H vs):∃ v,vs=[v]/\Rp K B d H v:=by
 obtain⟨v,r,rfl,h1,h2⟩:=Rps.cons_.mp h;rw[Rps.nil_.mp h2];exact⟨v,rfl,h1⟩
def bLen:FB
 | [.lst xs]=>some (.nw,.int xs.length)
 | [.tup xs]=>some (.nw,.int xs.length)
 | [.scr xs]=>some (.nw,.int xs.length)
 | _=>none
theorem K5:Ch X (.builtin "len") bLen:=by
 rintro π s σ H xs us Q I r ⟨ds,f,d,rs,e,k⟩;unfold bLen at e;split at e
 · cases e;obtain⟨v,rfl,h⟩:=rs.one';obtain⟨p,vs,rfl,_,q1,q2⟩:=h.items;exact Bo π s σ H _ us Q I r ⟨p,vs,rfl,.inl (SqL.of q1),by rw[q2.length];exact k _ H (Same.refl H) RpF.i_⟩
 · cases e;obtain⟨v,rfl,h⟩:=rs.one';obtain⟨p,vs,rfl,q1,q2⟩:=Rp.tup_.mp h;exact Bo π s σ H _ us Q I r ⟨p,vs,rfl,.inr q1,by rw[q2.length];exact k _ H (Same.refl H) RpF.i_⟩
 · cases e;obtain⟨v,rfl,h⟩:=rs.one';obtain⟨p,rfl,_,q1⟩:=Rp.scr_.mp h;exact Bo π s σ H _ us Q I r ⟨p,_,rfl,.inl q1,by rw[wv];exact k _ H (Same.refl H) RpF.i_⟩
 · cases e
def bTup:FB
 | [.lst xs]=>some (if E8 xs then .nw else .sh,.tup xs)
 | [.tup xs]=>some (if E8 xs then .nw else .sh,.tup xs)
 | _=>none
theorem Yg{X:Ky}{H H':Hp}{xs:List Dt}{v:V}(h:Rp X.K emp (.tup xs) H' v):RpF X H (if E8 xs then .nw else .sh) (.tup xs) H' v:=by
 by_cases q:E8 xs=true
 · rw[if_pos q];exact RpF.scal (by rw[Dt.flat];exact q) h
 · rw[if_neg q];exact h
theorem OV:Ch X (.type "tuple") bTup:=by
 rintro π s σ H xs us Q I r ⟨ds,f,d,rs,e,k⟩;unfold bTup at e;split at e
 · cases e;obtain⟨v,rfl,h⟩:=rs.one';obtain⟨p,vs,rfl,_,q1,q2⟩:=h.items;exact Eg π s σ H _ us Q I r ⟨p,vs,rfl,.inl ⟨SqL.of q1,λl hl=>k _ _ (F3 hl) (Yg (Rp.tup_.mpr ⟨l,vs,rfl,SqT.of D7,Rps.mono _ (F3 hl) q2⟩))⟩⟩
 · cases e;obtain⟨v,rfl,h⟩:=rs.one';obtain⟨p,vs,rfl,q1,q2⟩:=Rp.tup_.mp h;exact Eg π s σ H _ us Q I r ⟨p,vs,rfl,.inr ⟨q1,k _ H (Same.refl H) (Yg h)⟩⟩
 · cases e
def bLst:FB
 | [.lst xs]=>some (newL xs)
 | [.tup xs]=>some (newL xs)
 | _=>none
theorem AL:Ch X (.type "list") bLst:=by
 rintro π s σ H xs us Q I r ⟨ds,f,d,rs,e,k⟩;unfold bLst at e;split at e
 · cases e;obtain⟨v,rfl,h⟩:=rs.one';obtain⟨p,vs,rfl,_,q1,q2⟩:=h.items;exact Ff π s σ H _ us Q I r ⟨p,vs,rfl,.inl (SqL.of q1),λl hl=>k _ _ (F3 hl) (Fg hl q2)⟩
 · cases e;obtain⟨v,rfl,h⟩:=rs.one';obtain⟨p,vs,rfl,q1,q2⟩:=Rp.tup_.mp h;exact Ff π s σ H _ us Q I r ⟨p,vs,rfl,.inr q1,λl hl=>k _ _ (F3 hl) (Fg hl q2)⟩
 · cases e
def bAbs:FB
 | [.int i]=>some (.nw,.int (if i<0 then -i else i))
 | _=>none
theorem c_abs:Ch X (.builtin "abs") bAbs:=by
 rintro π s σ H xs us Q I r ⟨ds,f,d,rs,e,k⟩;unfold bAbs at e;split at e
 · rename_i i;cases e;obtain⟨v,rfl,h⟩:=rs.one';rw[Rp.int_]at h;subst h;exact z0D π s σ H _ us Q I r ⟨i,rfl,k _ H (Same.refl H) RpF.i_⟩
 · cases e
def bInt:FB
 | [.int i]=>some (.nw,.int i)
 | [.bl b]=>some (.nw,.int (if b then 1 else 0))
 | _=>none
theorem c_int:Ch X (.type "int") bInt:=by
 rintro π s σ H xs us Q I r ⟨ds,f,d,rs,e,k⟩;unfold bInt at e;split at e
 · rename_i i;cases e;obtain⟨v,rfl,h⟩:=rs.one';rw[Rp.int_]at h;subst h;exact Ls π s σ H _ us Q I r (.inl ⟨i,rfl,k _ H (Same.refl H) RpF.i_⟩)
 · rename_i b;cases e;obtain⟨v,rfl,h⟩:=rs.one';rw[Rp.bl_]at h;subst h;exact Ls π s σ H _ us Q I r (.inr ⟨b,rfl,k _ H (Same.refl H) RpF.i_⟩)
 · cases e
def Ej:List Dt->Option (List Bool)
 | []=>some []
 | .bl b::ds=>(Ej ds).map (b::·)
 | _=>none
def Bv:List Dt->Option (aG)
 | []=>some []
 | .int i::ds=>(Bv ds).map (i::·)
 | _=>none
theorem GH{K:aD}{B H:Hp}:∀{ds:List Dt} {bs:List Bool} {vs:List V},Ej ds=some bs->Rps K B ds H vs->vs=bs.map V.bl
 | [],bs,vs,e,r=>by cases e;exact Rps.nil_.mp r
 | .bl b::ds,bs,vs,e,r=>by
  obtain⟨v,ws,rfl,h1,h2⟩:=Rps.cons_.mp r;unfold Ej at e;cases q:Ej ds with
  | none=>rw[q]at e;cases e
  | some cs=>rw[q]at e;cases e;rw[Rp.bl_.mp h1,GH q h2];rfl
 | .non::ds,bs,vs,e,r=>by cases e
 | .int _::ds,bs,vs,e,r=>by cases e
 | .str _::ds,bs,vs,e,r=>by cases e
 | .lst _::ds,bs,vs,e,r=>by cases e
 | .tup _::ds,bs,vs,e,r=>by cases e
 | .scr _::ds,bs,vs,e,r=>by cases e
 | .dic::ds,bs,vs,e,r=>by cases e
theorem Jn{K:aD}{B H:Hp}:∀{ds:List Dt} {bs:aG} {vs:List V},Bv ds=some bs->Rps K B ds H vs->vs=bs.map V.int
 | [],bs,vs,e,r=>by cases e;exact Rps.nil_.mp r
 | .int b::ds,bs,vs,e,r=>by
  obtain⟨v,ws,rfl,h1,h2⟩:=Rps.cons_.mp r;unfold Bv at e;cases q:Bv ds with
  | none=>rw[q]at e;cases e
  | some cs=>rw[q]at e;cases e;rw[Rp.int_.mp h1,Jn q h2];rfl
 | .non::ds,bs,vs,e,r=>by cases e
 | .bl _::ds,bs,vs,e,r=>by cases e
 | .str _::ds,bs,vs,e,r=>by cases e
 | .lst _::ds,bs,vs,e,r=>by cases e
 | .tup _::ds,bs,vs,e,r=>by cases e
 | .scr _::ds,bs,vs,e,r=>by cases e
 | .dic::ds,bs,vs,e,r=>by cases e
def bAll:FB
 | [.lst xs]=>(Ej xs).map λbs=>(.nw,.bl (bs.all id))
 | _=>none
def bAny:FB
 | [.lst xs]=>(Ej xs).map λbs=>(.nw,.bl (bs.any id))
 | _=>none
def bSum:FB
 | [.lst xs]=>(Bv xs).map λns=>(.nw,.int ns.sum)
 | _=>none
theorem Zx(bs:List Bool):(List.range bs.length).all (λi=>bs.getD i false)=bs.all id:=by
 rw[uY,uu,uu];constructor
 · intro h b hb;obtain⟨i,hi,e⟩:=wH hb;have:=h i (wQ.mpr hi);simp[List.getD,wa hi,e]at this;exact this
 · intro h i hi;have hi:=wQ.mp hi;have:=h _ (vn hi);simpa[List.getD,wa hi]using this
theorem Zy(bs:List Bool):(List.range bs.length).any (λi=>bs.getD i false)=bs.any id:=by
 rw[uY,w0X,w0X];constructor
 · rintro⟨i,hi,h⟩;have hi:=wQ.mp hi;exact⟨_,vn hi,by simpa[List.getD,wa hi]using h⟩
 · rintro⟨b,hb,h⟩;obtain⟨i,hi,e⟩:=wH hb;exact⟨i,wQ.mpr hi,by simp[List.getD,wa hi,e];exact h⟩
theorem HX(ns:aG):∀ k,k<=ns.length->preSum (λi=>ns.getD i 0) k=(ns.take k).sum
 | 0,_=>by simp[preSum]
 | k+1,h=>by
  have hk:k<ns.length:=h;rw[preSum,HX ns k (by rfl'),List.take_succ,wa hk,List.sum_append];simp[List.getD,wa hk]
theorem Yh{bs:List Bool}{us:aF}(r:Vals (bs.map V.bl) us){prog:Program}{w:World}{A:Around}:TruthOf prog w A (λi v=>us.toArray[i]?=some v) (λi=>bs.getD i false):=by
 intro i v s Q E hP hQ;have e:us[i]?=some v:=by simpa using hP
 cases q:bs[i]? with
 | none =>
  have:=r.none_of (i:=i) (by rw[wF,q];rfl);rw[this]at e;cases e
 | some b =>
  obtain⟨u,h1,h2⟩:=r.get (i:=i) (x:=V.bl b) (by rw[wF,q];rfl);rw[e]at h1;cases h1;cases h2;have hQ':Q b s:=by simpa[List.getD,q]using hQ
  exact wpAny_truthy_bool hQ'
theorem Yi(hc:X.calm=true):Ch X (.builtin "all") bAll:=by
 rintro π s σ H xs us Q I r ⟨ds,f,d,rs,e,k⟩;unfold bAll at e;split at e
 · rename_i ys;cases q:Ej ys with
   | none=>rw[q]at e;cases e
   | some bs =>
    rw[q]at e;cases e;obtain⟨v,rfl,h⟩:=rs.one';obtain⟨p,vs,rfl,_,q1,q2⟩:=h.items;obtain⟨u,rfl,ru⟩:=r.one;cases ru;have ev:=GH q q2;subst ev;obtain⟨its,rv,pl,hz⟩:=I.list (SqL.of (K:=X.K) q1);have hlen:its.toArray.size=bs.length:=by rw[wx,←rv.length,wv]
    refine call_all_walk (wpAny_pyIter_list pl.isList ?_);have hne:p≠s.heap.objs.size:=wU (by obtain⟨o,e,_⟩:=pl.isList;exact wt e);refine⟨_,_,_,_,_,_,λi=>bs.getD i false,rfl,Walks.list (A:=X.A.in1) (I.ok.hd hc) s.heap.objs.size p hne its.toArray,⟨⟨_,wD _ rfl,rfl,rfl⟩,pl.isList.at λo e=>wf _ e⟩,Yh rv,λh' tk hk=>?_⟩;rw[hlen,Zx];exact⟨.bl _,H,I.kept λb o e=>hk b o (by simp;exact wU (wt e)) (wf _ e),rfl,k _ H (Same.refl H) RpF.b_⟩
 · cases e
theorem c_any(hc:X.calm=true):Ch X (.builtin "any") bAny:=by
 rintro π s σ H xs us Q I r ⟨ds,f,d,rs,e,k⟩;unfold bAny at e;split at e
 · rename_i ys;cases q:Ej ys with
   | none=>rw[q]at e;cases e
   | some bs =>
    rw[q]at e;cases e;obtain⟨v,rfl,h⟩:=rs.one';obtain⟨p,vs,rfl,_,q1,q2⟩:=h.items;obtain⟨u,rfl,ru⟩:=r.one;cases ru;have ev:=GH q q2;subst ev;obtain⟨its,rv,pl,hz⟩:=I.list (SqL.of (K:=X.K) q1);have hlen:its.toArray.size=bs.length:=by rw[wx,←rv.length,wv]
    refine call_any_walk (wpAny_pyIter_list pl.isList ?_);have hne:p≠s.heap.objs.size:=wU (by obtain⟨o,e,_⟩:=pl.isList;exact wt e);refine⟨_,_,_,_,_,_,λi=>bs.getD i false,rfl,Walks.list (A:=X.A.in1) (I.ok.hd hc) s.heap.objs.size p hne its.toArray,⟨⟨_,wD _ rfl,rfl,rfl⟩,pl.isList.at λo e=>wf _ e⟩,Yh rv,λh' tk hk=>?_⟩;rw[hlen,Zy];exact⟨.bl _,H,I.kept λb o e=>hk b o (by simp;exact wU (wt e)) (wf _ e),rfl,k _ H (Same.refl H) RpF.b_⟩
 · cases e
theorem c_sum(hc:X.calm=true):Ch X (.builtin "sum") bSum:=by
 rintro π s σ H xs us Q I r ⟨ds,f,d,rs,e,k⟩;unfold bSum at e;split at e
 · rename_i ys;cases q:Bv ys with
   | none=>rw[q]at e;cases e
   | some ns =>
    rw[q]at e;cases e;obtain⟨v,rfl,h⟩:=rs.one';obtain⟨p,vs,rfl,_,q1,q2⟩:=h.items;obtain⟨u,rfl,ru⟩:=r.one;cases ru;have ev:=Jn q q2;subst ev;obtain⟨its,rv,pl,hz⟩:=I.list (SqL.of (K:=X.K) q1);have hlen:its.toArray.size=ns.length:=by rw[wx,←rv.length,wv]
    refine call_sum_walkG (wpAny_pyIter_list pl.isList ?_);have hlt:p<s.heap.objs.size:=by obtain⟨o,e,_⟩:=pl.isList;exact wt e
    have hne:p≠s.heap.objs.size:=wU hlt;refine⟨_,_,_,_,_,_,λi=>ns.getD i 0,rfl,Walks.list (A:=X.A.in1) (I.ok.hd hc) s.heap.objs.size p hne its.toArray,⟨⟨_,wD _ rfl,rfl,rfl⟩,pl.isList.at λo e=>wf _ e⟩,λb hb=>?_,λi v hP=>?_,λh' tk t' hk=>?_⟩
    · show b<(s.heap.push _).objs.size;rw[vE];rcases wq.mp hb with e|hb
      · rw[e];exact vy _
      · rw[wW.mp hb];exact w0N hlt
    · have e:its[i]?=some v:=by simpa using hP
      cases q:ns[i]? with
      | none =>
        have:=rv.none_of (i:=i) (by rw[wF,q];rfl);rw[this]at e;cases e
      | some n =>
        obtain⟨u,h1,h2⟩:=rv.get (i:=i) (x:=V.int n) (by rw[wF,q];rfl);rw[e]at h1;cases h1;obtain⟨t,rfl⟩:=h2;exact⟨t,by simp[List.getD,q]⟩
    · rw[hlen,HX ns ns.length (wu _),w0Y];exact⟨.int _,H,I.kept λb o e=>hk b o (by simp;exact wU (wt e)) (wf _ e),⟨t',rfl⟩,k _ H (Same.refl H) RpF.i_⟩
 · cases e
def tyN:Dt->String
 | .non => "NoneType"
 | .bl _ => "bool"
 | .int _ => "int"
 | .str _ => "str"
 | .lst _ => "list"
 | .scr _ => "list"
 | .tup _ => "tuple"
 | .dic => "dict"
def OW(t T:String):Bool:=t==T||(t == "bool" && T == "int")
def okT(T:String):Bool:=T == "int" || T == "bool" || T == "str" || T == "list" || T == "tuple" || T == "dict"
theorem Zz{T:String}(h:okT T=true):T = "int" \/ T = "bool" \/ T = "str" \/ T = "list" \/ T = "tuple" \/ T = "dict" := by
 unfold okT at h;simp only[uX,beq_iff_eq]at h;rcases h with((((h|h)|h)|h)|h)|h
 · exact .inl h
 · exact .inr (.inl h)
 · exact .inr (.inr (.inl h))
 · exact .inr (.inr (.inr (.inl h)))
 · exact .inr (.inr (.inr (.inr (.inl h))))
 · exact .inr (.inr (.inr (.inr (.inr h))))
theorem kit_D{K:aD}{d:Dt}{T:String}(h:okT T=true):PySem.W.kitOne K (.type (tyN d)) (.type T)=some (OW (tyN d) T):=by
 rcases Zz h with rfl|rfl|rfl|rfl|rfl|rfl<;>cases d<;>rfl
def fIsi(T:String)(F:FE):FE:=λρ=>(F ρ).map λx=>(.nw,.bl (OW (tyN x.2) T))
theorem z5n{T:String}(hT:okT T=true):Fd X (.builtin "isinstance") (λxs H Q=>∃ d v,xs=[v,.ty T]/\Rp X.K emp d H v/\Q (.bl (OW (tyN d) T)) H):=by
 intro π s σ H xs us Q I r ⟨d,v,ex,h1,fin⟩;subst ex;have e:=kit_D (K:=X.K) (d:=d) hT;obtain⟨u,u',rfl,r1,r2⟩:=vals2 r;cases r2;cases d with
 | non=>rw[Rp.non_.mp h1]at r1;exact Ds I r1 .non e λtk=>⟨.bl _,H,I.tok tk,rfl,fin⟩
 | bl b=>rw[Rp.bl_.mp h1]at r1;exact Ds I r1 (.bl b) e λtk=>⟨.bl _,H,I.tok tk,rfl,fin⟩
 | int i=>rw[Rp.int_.mp h1]at r1;exact Ds I r1 (.int i) e λtk=>⟨.bl _,H,I.tok tk,rfl,fin⟩
 | str x=>rw[Rp.str_.mp h1]at r1;exact Ds I r1 (.str x) e λtk=>⟨.bl _,H,I.tok tk,rfl,fin⟩
 | dic =>
  obtain⟨a,rfl,q⟩:=Rp.dic_.mp h1;cases r1;exact PySem.W.kia_one PySem.W.kitx_dict I.kIn ⟨_,(I.hok a _ q).1,rfl⟩ e (λz=>nomatch z) λtk=>⟨.bl _,H,I.tok tk,rfl,fin⟩
 | lst ys =>
  obtain⟨p,vs,rfl,_,q1,q2⟩:=h1.items;cases r1;obtain⟨its,_,pl,_⟩:=I.list (SqL.of (K:=X.K) q1);obtain⟨o,ho,hc,_⟩:=pl.isList;exact PySem.W.kia_one PySem.W.kitx_list I.kIn ⟨o,ho,hc⟩ e (λz=>nomatch z) λtk=>⟨.bl _,H,I.tok tk,rfl,fin⟩
 | scr ys =>
  obtain⟨p,rfl,_,q1⟩:=Rp.scr_.mp h1;cases r1;obtain⟨its,_,pl,_⟩:=I.list q1;obtain⟨o,ho,hc,_⟩:=pl.isList;exact PySem.W.kia_one PySem.W.kitx_list I.kIn ⟨o,ho,hc⟩ e (λz=>nomatch z) λtk=>⟨.bl _,H,I.tok tk,rfl,fin⟩
 | tup ys =>
  obtain⟨p,vs,rfl,q1,q2⟩:=Rp.tup_.mp h1;cases r1;obtain⟨its,_,pl,_⟩:=I.tuple q1;obtain⟨o,ho,hc,_⟩:=pl;exact PySem.W.kia_one PySem.W.kitx_tuple I.kIn ⟨o,ho,hc⟩ e (λz=>nomatch z) λtk=>⟨.bl _,H,I.tok tk,rfl,fin⟩
theorem Ek{a:Expr}{Fa:FE}{x:Str}{T:String}{p q pos:Pos}(hT:okT T=true)(hg:Gl X "isinstance")(hm:X.mg "isinstance" = none)(hgT:Gl X x)(hmT:X.mg x=none)(hvT:bootBuiltins x=some (.type T))(ha:PF X a Fa)
  (hn:x ≠ "__name__" := by decide) (hd:(x==("__debug__" : Str))=false:=by decide) (hs1:starEach [.Name x q] X.env=[(false,eval (.Name x q) X.env)]:=by rfl)
  (hs:starEach [a,.Name x q] X.env=(false,eval a X.env)::starEach [.Name x q] X.env:=by rfl):PF X (.Call (.Name "isinstance" p) [a,.Name x q] [] pos) (fIsi T Fa) :=
 (ON (z5n hT) hg hm boot_isinstance (Bm ha (Bm (pe_ty hgT hmT hvT hn hd) Je hs1) hs) (by decide) (by decide) hs (by rw[hs1];rfl)).imp fun σ H Q hZ=>hZ.elim fun ρ hZ=>hZ.elim fun f hZ=>hZ.elim fun d hZ=>hZ.elim fun rs hZ=>hZ.elim fun e0 k=>by
  unfold fIsi at e0;cases h:Fa ρ with
  | none=>rw[h]at e0;cases e0
  | some z =>
   rw[h]at e0;cases e0;exact⟨ρ,z.1,z.2,rs,h,λv H1 s1 r1=>⟨z.2,v,rfl,r1.sh,k _ H1 s1 RpF.b_⟩⟩
abbrev FP:=Rho->Option (Option Int)
def upP(X:Cx)(F:FP):TO:=λσ H Q=>∃ ρ o,RepS X.ky H ρ σ/\F ρ=some o/\∀ H',Same H H'->Q o H'
def PFP(X:Cx)(e:Option Expr)(F:FP):Prop:=PO X e (upP X F)
def B7:FP:=λ_=>some none
def intD:Dt->Option Int
 | .int i=>some i
 | _=>none
def K9(F:FE):FP:=λρ=>(F ρ).bind λx=>(intD x.2).map some
theorem PO.imp{e:Option Expr}{t t':TO}(h:PO X e t)(q:∀ σ H Q,t' σ H Q->t σ H Q):PO X e t':=λπ s σ H Q I z=>h π s σ H Q I (q σ H Q z)
theorem Ay:PFP X none B7:=z57.imp (by rintro σ H Q ⟨ρ,o,rs,e,k⟩;cases e;exact k H (Same.refl H))
theorem Az{e:Expr}{F:FE}(h:PF X e F):PFP X (some e) (K9 F):=(z58 h).imp λσ H Q ⟨ρ,o,rs,e,k⟩=>by
 obtain⟨⟨f,d⟩,e1,e2⟩:=j7 e;refine⟨ρ,f,d,rs,e1,λv H1 s1 r1=>?_⟩;cases d<;>first|cases e2|skip
 rename_i i;exact⟨i,Rp.int_.mp r1.sh,k H1 s1⟩
def cutD{α:Type}(xs:List α)(lo hi:Option Int):List α:=(xs.drop (HT.sIx xs.length 0 lo)).take (HT.sIx xs.length xs.length hi-HT.sIx xs.length 0 lo)
def fSl(F:FE)(L U:FP):FE:=λρ=>(F ρ).bind λx=>(L ρ).bind λlo=>(U ρ).bind λhi=>match x.2 with|.lst ds=>some (newL (cutD ds lo hi))|_=>none
theorem T7{e:Expr}{F:FE}{lo hi:Option Expr}{L U:FP}{pos p2:Pos}(he:PF X e F)(hl:PFP X lo L)(hu:PFP X hi U):PF X (.Subscript e (.Slice lo hi none p2) pos) (fSl F L U) :=
 (z0F z5b he hl hu).imp fun σ H Q hZ=>hZ.elim fun ρ hZ=>hZ.elim fun f hZ=>hZ.elim fun d hZ=>hZ.elim fun rs hZ=>hZ.elim fun e0 k=>by
  obtain⟨⟨fx,dx⟩,e1,e2⟩:=j7 e0;obtain⟨l,e3,e4⟩:=j7 e2;obtain⟨u,e5,e6⟩:=j7 e4;clear e0 e2 e4;refine⟨ρ,fx,dx,rs,e1,λv H1 s1 r1=>⟨ρ,l,rs.mono s1,e3,λH2 s2=>⟨ρ,u,rs.mono (s1.trans s2),e5,λH3 s3=>?_⟩⟩⟩;have ex:∃ ds,dx = .lst ds/\newL (cutD ds l u)=(f,d):=by
   cases dx<;>first|(rename_i ds;exact⟨ds,rfl,Option.some.inj e6⟩)|cases e6
  obtain⟨ds,rfl,e7⟩:=ex;cases e7;obtain⟨p,vs,rfl,_,q1,q2⟩:=(Rp.mono _ (s2.trans s3) r1.sh).items;refine⟨p,vs,rfl,SqL.of q1,λa ha=>k _ _ ((s1.trans (s2.trans s3)).trans (F3 ha)) ?_⟩;have h1:Rps X.K emp (cutD ds l u) H3 (cutV vs l u):=by
   unfold cutD cutV;rw[q2.length];exact Rps.take _ (Rps.drop _ q2)
  exact(Fg ha h1).early (s1.trans (s2.trans s3))
end
end L2

end
section
local macro_rules|`(tactic|rfl')=>`(tactic|first|lia|omega +splitDisjunctions)
namespace L2
open PySem PySem.Spec PyProof.Rows
def Walk(K:aD)(J:It)(items:List Dt)(H1:Hp):Prop:=∀(A:List Addr) (H:Hp),Same H1 (hidL A H)->(∀ a∈A,∃ o,H a=some o) ->
 (∀(i:Nat) (d:Dt),items[i]?=some d->J.go i H/\∀ x H',J.yld i H x H'->Same (hidL A H) (hidL A H')/\(∀ a∈A,H' a=H a)/\Rp K emp d (hidL A H') x)/\∀ i,items.length<=i->J.stop i H
abbrev FI:=Rho->Option (List Dt)
def upIK(Y:Ky)(F:FI):TI:=λσ H R=>∃ ρ items,RepS Y H ρ σ/\F ρ=some items/\∀ J H',Same H H'->items.length<=sizeLine->Walk Y.K J items H'->R J H'
abbrev upI(X:Cx)(F:FI):TI:=upIK X.ky F
def PFI(X:Cx)(tg e:Expr)(F:FI):Prop:=PI X tg e (upI X F)
theorem PI.imp{X:Cx}{tg e:Expr}{t t':TI}(h:PI X tg e t)(q:∀ σ H Q,t' σ H Q->t σ H Q):PI X tg e t':=λπ s σ H Q I z=>h π s σ H Q I (q σ H Q z)
section
variable {X:Cx}{tg a b e:Expr}{Fa Fb Fe:FE}{pos:Pos}
theorem ZA{K:aD}{p:Addr}{ds:List Dt}{vs:List V}{H1:Hp}(h1:SqL K H1 p vs)(h2:Rps K emp ds H1 vs):Walk K (Itl K p) ds H1:=by
 intro A H sm hA;have s2:Same H1 H:=sm.trans A7;refine⟨λi d e=>?_,λi hi=>⟨vs,s2.seq h1,by rw[h2.length];exact hi⟩⟩;obtain⟨v,e1,e2⟩:=h2.get e;refine⟨⟨vs,v,s2.seq h1,e1⟩,?_⟩;rintro x H' ⟨z,y⟩;subst z;have hx:=y vs (s2.seq h1);rw[e1]at hx;cases hx;exact⟨Same.refl _,λ_ _=>rfl,Rp.mono _ sm e2⟩
theorem z0W{K:aD}{p:Addr}{ds:List Dt}{vs:List V}{H1:Hp}(h1:SqT K H1 p vs)(h2:Rps K emp ds H1 vs):Walk K (Itt K p) ds H1:=by
 intro A H sm hA;have s2:Same H1 H:=sm.trans A7;refine⟨λi d e=>?_,λi hi=>⟨vs,s2.seqT h1,by rw[h2.length];exact hi⟩⟩;obtain⟨v,e1,e2⟩:=h2.get e;refine⟨⟨vs,v,s2.seqT h1,e1⟩,?_⟩;rintro x H' ⟨z,y⟩;subst z;have hx:=y vs (s2.seqT h1);rw[e1]at hx;cases hx;exact⟨Same.refl _,λ_ _=>rfl,Rp.mono _ sm e2⟩
def K2(lo:Int)(n:Nat):List Dt:=(List.range n).map λ(k:Nat) => .int (lo+(k:Int))
theorem Ev{K:aD}{lo:Int}{n:Nat}{H1:Hp}:Walk K (Itr lo n) (K2 lo n) H1:=by
 intro A H sm hA;refine⟨λi d e=>?_,λi hi=>by unfold K2 at hi;rw[wv,vM]at hi;exact hi⟩;unfold K2 at e;rw[wF]at e;have hi:i<n:=by
  by_cases hi:i<n
  · exact hi
  · rw[wJ (by simp;rfl')]at e;cases e
 rw[w00 hi]at e;cases e;refine⟨hi,λx H'⟨z,y⟩=>?_⟩;subst z;subst y;exact⟨Same.refl _,λ_ _=>rfl,Rp.int_.mpr rfl⟩
def seqD:Dt->Option (List Dt)
 | .lst ds=>some ds
 | .tup ds=>some ds
 | _=>none
def iSeq(F:FE):FI:=λρ=>(F ρ).bind λx=>seqD x.2
theorem E9(ha:PF X a Fa):PFI X tg a (iSeq Fa):=by
 intro π s σ H R I ⟨ρ,items,rs,e0,k⟩;obtain⟨⟨f,d⟩,e1,e2⟩:=j7 e0;refine thn (ha π s σ H (λx H1=>Same H H1/\Rp X.K emp d H1 x) I ⟨ρ,f,d,rs,e1,λv H1 s1 r1=>⟨s1,r1.sh⟩⟩) λv s1⟨x,H1,I1,r1,sm,rd⟩=>?_;cases d<;>first|cases e2|skip
 · rename_i ds;obtain⟨p,vs,rfl,_,h1,h2⟩:=rd.items;cases r1;obtain⟨its,rv,pl,hz⟩:=I1.list (SqL.of (K:=X.K) h1);refine wpAny_pyIter_list pl.isList ?_;refine⟨s1.heap.objs.size,[s1.heap.objs.size],_,_,H1,rfl,I1.kept (t':=s1.toks) λb o e=>wf _ e,Zo p _,⟨_,wD _ rfl,rfl,rfl⟩,λb hb=>?_,k _ H1 sm (by rw[←h2.length];exact hz) (ZA (SqL.of h1) h2)⟩;have e:b=s1.heap.objs.size:=by simpa using hb
   subst e;exact I1.fpOk (wu _) (I1.hok.fresh (wu _))
 · rename_i ds;obtain⟨p,vs,rfl,h1,h2⟩:=Rp.tup_.mp rd;cases r1;obtain⟨its,rv,pl,hz⟩:=I1.tuple h1;refine wpAny_pyIter_tuple (show s1.heap.IsTuple p its.toArray from pl) ?_;refine⟨s1.heap.objs.size,[s1.heap.objs.size],_,_,H1,rfl,I1.kept (t':=s1.toks) λb o e=>wf _ e,QY p _,⟨_,wD _ rfl,rfl,rfl⟩,λb hb=>?_,k _ H1 sm (by rw[←h2.length];exact hz) (z0W h1 h2)⟩;have e:b=s1.heap.objs.size:=by simpa using hb
   subst e;exact I1.fpOk (wu _) (I1.hok.fresh (wu _))
def X5(i:Int):Bool:=decide (-1000000<=i)&&decide (i<=1000000)
theorem NC{i:Int}(h:X5 i=true): -1000000<=i/\i<=1000000:=by
 unfold X5 at h;rw[wR]at h;exact⟨of_decide_eq_true h.1,of_decide_eq_true h.2⟩
def n9(F:FE):FI:=λρ=>(F ρ).bind λx=>(intD x.2).bind λj=>if X5 j then some (K2 0 j.toNat) else none
theorem Ew{lo:Int}{n:Nat}:(K2 lo n).length=n:=by unfold K2;simp
theorem Dy{d:Dt}{i:Int}(h:intD d=some i):d = .int i:=by
 cases d<;>first|cases h|skip
 rfl
theorem B8{p:Pos}(hg:Gl X "range")(hm:X.mg "range" = none)(ha:PF X a Fa)(hs:starEach [a] X.env=[(false,eval a X.env)]:=by rfl):PFI X tg (.Call (.Name "range" p) [a] [] pos) (n9 Fa) :=
 (Lq hg hm (Bm ha Je hs) hs).imp fun σ H R hZ=>hZ.elim fun ρ hZ=>hZ.elim fun items hZ=>hZ.elim fun rs hZ=>hZ.elim fun e0 k=>by
  obtain⟨⟨f,d⟩,e1,e2⟩:=j7 e0;obtain⟨j,e3,e4⟩:=j7 e2;clear e0 e2;have ed:=Dy e3;cases (show d = .int j from ed);split at e4
  · rename_i hr;cases e4;obtain⟨h1,h2⟩:=NC hr;refine⟨ρ,f,_,rs,e1,λv H1 s1 r1=>⟨j,by rw[Rp.int_.mp r1.sh],by rfl',by rfl',k _ H1 s1 ?_ Ev⟩⟩;rw[Ew];have:sizeLine=16777216:=rfl;rfl'
  · cases e4
def IL(F G:FE):FI:=λρ=>(F ρ).bind λx=>(G ρ).bind λy=>(intD x.2).bind λi=>(intD y.2).bind λj=>if X5 i&&X5 j then some (K2 i (j-i).toNat) else none
end
inductive Tg where
 | one (i:Nat)|many (is:List Nat)
def P5:List Nat->TGs
 | []=>gNil
 | i::is=>gCons (Jb i) (P5 is)
def Tg.low(K:aD):Tg->TG
 | .one i=>Jb i
 | .many is=>gTup K is.length (P5 is)
def P6:Rho->List Nat->List Dt->Rho
 | ρ,i::is,d::ds=>P6 (ρ.set i (.sh false d)) is ds
 | ρ,_,_=>ρ
def Tg.put:Tg->Dt->Rho->Option Rho
 | .one i,d,ρ=>some (ρ.set i (.sh false d))
 | .many is,.tup ds,ρ=>if ds.length=is.length then some (P6 ρ is ds) else none
 | .many _,_,_=>none
def Tg.below(nt:Nat):Tg->Prop
 | .one i=>i<nt
 | .many is=>∀ i∈is,i<nt
def KeepS(nt:Nat)(σ σ':St):Prop:=σ'.length=σ.length/\∀ i,nt<=i->σ'[i]?=σ[i]?
theorem KeepS.refl{nt:Nat}{σ:St}:KeepS nt σ σ:=⟨rfl,λ_ _=>rfl⟩
theorem KeepS.set{nt i:Nat}{σ:St}{v:V}(h:i<nt):KeepS nt σ (σ.set i (some v)):=⟨vv,λj hj=>vo (by rfl')⟩
theorem KeepS.trans{nt:Nat}{a b c:St}(h:KeepS nt a b)(k:KeepS nt b c):KeepS nt a c:=⟨k.1.trans h.1,λi hi=>(k.2 i hi).trans (h.2 i hi)⟩
theorem HY:∀{is:List Nat} {vs:List V} {σ:St} {H:Hp} {Q Q':St->Hp->Prop},P5 is vs σ H Q->(∀ σ H,Q σ H->Q' σ H)->P5 is vs σ H Q':=by
 intro is
 induction is with
 | nil=>intro vs σ H Q Q' ⟨e,q⟩ k;exact⟨e,k _ _ q⟩
 | cons j js ih=>intro vs σ H Q Q' ⟨v,r,e,q⟩ k;exact⟨v,r,e,ih q k⟩
theorem LG{nt:Nat}:∀{is:List Nat} {vs:List V} {σ:St} {H:Hp} {Q:St->Hp->Prop},(∀ i∈is,i<nt)->P5 is vs σ H Q->P5 is vs σ H λσ2 H2=>KeepS nt σ σ2/\Q σ2 H2
 | [],vs,σ,H,Q,_,⟨e,q⟩=>⟨e,KeepS.refl,q⟩
 | i::is,vs,σ,H,Q,hi,⟨v,r,e,q⟩=>by
  refine⟨v,r,e,?_⟩;have q:P5 is r (σ.set i (some v)) H Q:=q;have z:=LG (nt:=nt) (λj hj=>hi j (wc _ hj)) q;show P5 is r (σ.set i (some v)) H _;exact HY z λσ2 H2⟨k1,k2⟩=>⟨(KeepS.set (hi i we)).trans k1,k2⟩
theorem Tg.ok{K:aD}{nt:Nat}{g:Tg}(h:g.below nt):TgOk nt (g.low K):=by
 intro x σ H Q q;cases g with
 | one i=>exact⟨KeepS.set h,q⟩
 | many is =>
  obtain⟨a,xs,e,hq,hl,q⟩:=q;exact⟨a,xs,e,hq,hl,LG h q⟩
theorem Tg.low_mono{K:aD}{g:Tg}{v:V}{σ:St}{H:Hp}{Q Q':St->Hp->Prop}(h:g.low K v σ H Q)(k:∀ σ H,Q σ H->Q' σ H):g.low K v σ H Q':=by
 cases g with
 | one i=>exact k _ _ h
 | many is =>
  obtain⟨a,xs,e,hq,hl,q⟩:=h;exact⟨a,xs,e,hq,hl,HY q k⟩
section
variable {Y:Ky}{H H':Hp}{ρ:Rho}{σ:St}
theorem RepS.set(h:RepS Y H ρ σ){i:Nat}{f:Bool}{d:Dt}{v:V}(r:Rp Y.K (bsOf Y f) d H v):RepS Y H (ρ.set i (.sh f d)) (σ.set i (some v)):=by
 refine⟨by rw[vv,vv];exact h.len,h.base,λj c q=>?_⟩;by_cases e:i=j
 · subst e;rw[vz]at q ⊢;rw[if_pos rfl]at q ⊢;split at q
   · rename_i hl;cases q;rw[if_pos (by rw[←h.len];exact hl)];exact⟨_,rfl,v,rfl,r⟩
   · cases q
 · rw[vo e]at q ⊢;exact h.at_ j c q
theorem Jo{Hh:Hp}{ρ':Rho}:∀{is:List Nat} {ds:List Dt} {vs:List V} {ρ:Rho} {σ:St},RepS Y Hh ρ σ->Rps Y.K emp ds Hh vs->ds.length=is.length->P6 ρ is ds=ρ' ->
  P5 is vs σ H λσ' H'=>H'=H/\RepS Y Hh ρ' σ'
 | [],[],vs,ρ,σ,rs,r,hl,q=>⟨Rps.nil_.mp r,rfl,by rw[←q];exact rs⟩
 | [],d::ds,vs,ρ,σ,rs,r,hl,q=>by cases hl
 | i::is,[],vs,ρ,σ,rs,r,hl,q=>by cases hl
 | i::is,d::ds,vs,ρ,σ,rs,r,hl,q=>by
  obtain⟨v,r',rfl,h1,h2⟩:=Rps.cons_.mp r;exact⟨v,r',rfl,Jo (rs.set (f:=false) h1) h2 (by simpa using hl) q⟩
theorem Tg.sim{Hh:Hp}{g:Tg}{d:Dt}{v:V}{ρ':Rho}(sm:Same Hh H)(rs:RepS Y Hh ρ σ)(r:Rp Y.K emp d Hh v)(h:g.put d ρ=some ρ'):
  g.low Y.K v σ H λσ' H'=>H'=H/\RepS Y Hh ρ' σ':=by
 cases g with
 | one i=>cases h;exact⟨rfl,rs.set (f:=false) r⟩
 | many is =>
  cases d<;>first|cases h|skip
  rename_i ds;replace h:(if ds.length=is.length then some (P6 ρ is ds) else none)=some ρ':=h;split at h
  · rename_i hl;obtain⟨a,vs,rfl,h1,h2⟩:=Rp.tup_.mp r;exact⟨a,vs,rfl,sm.seqT h1,by rw[h2.length];exact hl,Jo rs h2 hl (Option.some.inj h)⟩
  · cases h
end
section
variable {X:Cx}{pos:Pos}
theorem R1{i:Nat}{x:Str}(hN:X.N.Nodup)(hi:X.N[i]?=some x)(hx:Loc X.env.scope x)(hf:X.fn x=true\/X.env.scope.names.lookup x=some .local):PG X (.Name x pos) ((Tg.one i).low X.K):=A4 hN hi hx hf
theorem U9:PGs X [] (P5 []):=z4Z
theorem B3{e:Expr}{es:List Expr}{i:Nat}{is:List Nat}(h1:PG X e (Jb i))(h2:PGs X es (P5 is))(hs:(assignEach (e::es) X.env).map (·.2)=assign e X.env::(assignEach es X.env).map (·.2):=by rfl):PGs X (e::es) (P5 (i::is)):=z0v h1 h2 hs
theorem V0{es:List Expr}{k:Nat}{is:List Nat}(hc:X.calm=true)(h:PGs X es (P5 is))(hn:(assignEach es X.env).length=is.length:=by rfl)(hst:(assignEach es X.env).findIdx? (·.1)=none:=by rfl):PG X (.Tuple es k pos) ((Tg.many is).low X.K):=pg_tup hc h hn hst
end
def Cm(g:Tg)(Fc:FT)(Fe:FE)(ρ0:Rho):List Dt->Option (List Dv)
 | []=>some []
 | x::xs=>(g.put x ρ0).bind λρ1=>(Fc ρ1).bind λb=>if b then(Fe ρ1).bind λv=>(Cm g Fc Fe ρ0 xs).bind λr=>some (v::r) else Cm g Fc Fe ρ0 xs
def El:Cell->Cell
 | .no => .no
 | .ex => .no
 | .sh _ d => .sh false d
 | .ow _ ds => .sh false (.lst ds)
def sigD(nt:Nat)(js:List Nat)(ρ:Rho):Rho:=List.replicate nt Cell.no++js.map λj=>match ρ[j]? with|some c=>El c|none => .no
def n4(nt:Nat)(js:List Nat)(Fi:FI)(g:Tg)(Fc:FT)(Fe:FE):FE:=λρ=>(Fi ρ).bind λitems=>(Cm g Fc Fe (sigD nt js ρ) items).bind λvs=>some (if V3 vs then .nw else .tn,.lst (sndL vs))
theorem GI{g:Tg}{Fc:FT}{Fe:FE}{ρ0:Rho}:∀{xs:List Dt} {vs:List Dv},Cm g Fc Fe ρ0 xs=some vs->vs.length<=xs.length
 | [],vs,h=>by cases h;exact wu _
 | x::xs,vs,h=>by
  unfold Cm at h;obtain⟨ρ1,_,h⟩:=j7 h;obtain⟨b,_,h⟩:=j7 h;split at h
  · obtain⟨v,_,h⟩:=j7 h;obtain⟨r,h1,h⟩:=j7 h;cases h;have:=GI h1;rw[wn,wn];rfl'
  · have:=GI h;rw[wn];rfl'
def PFTs(X:Cx)(ifs:List Expr)(F:FT):Prop:=PTs X ifs (upB X F)
def fYes:FT:=λ_=>some true
theorem X6{X:Cx}:PFTs X [] fYes:=λπ s σ H Q I⟨ρ,b,rs,e,k⟩=>by cases e;exact z5e π s σ H Q I (k H (Same.refl H))
theorem Ri{X:Cx}{c:Expr}{F:FT}(h:PFT X c F):PFTs X [c] F:=z5f h
theorem RpC.shS{Y:Ky}{H H1:Hp}{c:Cell}{o:Option V}(h:RpC Y H c o):RpC ⟨Y.K,H1⟩ H (El c) o:=by
 cases c with
 | no=>trivial
 | ex=>trivial
 | sh f d=>obtain⟨v,q,r⟩:=h;exact⟨v,q,Rp.anti Same.emp d r⟩
 | ow f ds=>obtain⟨v,q,r⟩:=h;exact⟨v,q,Rp.anti Same.emp _ r⟩
theorem RepS.sigs{Y:Ky}{H H1:Hp}{ρ:Rho}{σ:St}{nt:Nat}{js:List Nat}(h:RepS Y H ρ σ)(hj:∀ j∈js,j<σ.length)(h1:Same H1 H):RepS ⟨Y.K,H1⟩ H (sigD nt js ρ) (sig nt js σ):=by
 unfold sigD sig;refine⟨by simp,h1,λi c q=>?_⟩;by_cases hi:i<nt
 · rw[wX (by simpa using hi),vj,if_pos hi]at q;cases q;exact⟨none,by rw[wX (by simpa using hi),vj,if_pos hi],trivial⟩
 · rw[vi (by simp;rfl'),vA,wF]at q;rw[vi (by simp;rfl'),vA,wF];cases ej:js[i-nt]? with
   | none=>rw[ej]at q;cases q
   | some j =>
    rw[ej]at q;have hlt:=hj j (uq ej);have hlt':j<ρ.length:=by rw[h.len];exact hlt
    rw[w1e,wa hlt']at q;cases q;obtain⟨o,e1,e2⟩:=h.at_ j _ (wa hlt');refine⟨o,?_,e2.shS⟩;rw[w1e,e1];rfl
def frE(t:Hp->TE)(H1:Hp):TE:=λσ H Q=>∃ A:List Addr,(∀ a∈A,(∃ vs,H a=some (.lst vs))/\H1 a=none)/\t H1 σ (hidL A H) λv H'=>(∀ a∈A,H' a=none)->Q v (G4 A H H')
def frT(t:Hp->TT)(H1:Hp):TT:=λσ H Q=>∃ A:List Addr,(∀ a∈A,(∃ vs,H a=some (.lst vs))/\H1 a=none)/\t H1 σ (hidL A H) λv H'=>(∀ a∈A,H' a=none)->Q v (G4 A H H')
theorem PTs.frame{Y:Cx}{ifs:List Expr}{t:Hp->TT}(h:PTs Y ifs (t Y.H₀)):PTs Y ifs (frT t Y.H₀):=by
 intro π s σ H Q I ⟨A,hA,z⟩;refine thn (h _ s σ _ _ (I.hide hA) z) ?_;rintro u s' ⟨H',J,q⟩;obtain⟨hn,J'⟩:=I.unhide hA J;exact⟨_,J',q hn⟩
theorem ND{D:Addr}{H:Hp}{o:HO}:hidL [D] (upd H D o)=hidL [D] H:=funext λb=>by
 by_cases q:b=D
 · subst q;rw[T6 (by simp),T6 (by simp)]
 · rw[u7 (by simpa using q),u7 (by simpa using q),w6 q]
theorem z0X{D:Addr}{H:Hp}(h:H D=none):hidL [D] H=H:=funext λb=>by
 by_cases q:b=D
 · subst q;rw[T6 (by simp),h]
 · rw[u7 (by simpa using q)]
section
variable {X:Cx}{N:List Str}{scope:Scope}{nt:Nat}{js:List Nat}{tg elt iter:Expr}{ifs:List Expr}{Fi:FI}{g:Tg}{Fc:FT}{Fe:FE}{pos:Pos}
def RpE(Y:Ky)(x:Dv)(H':Hp)(v:V):Prop:=if x.1.isFr then Rp Y.K Y.H₀ x.2 H' v else Rp Y.K emp x.2 H' v
def RpEs(Y:Ky):List Dv->Hp->List V->Prop
 | [],_,vs=>vs=[]
 | x::xs,H',vs=>∃ v r,vs=v::r/\RpE Y x H' v/\RpEs Y xs H' r
theorem RpE.of{Y:Ky}{H H':Hp}{x:Dv}{v:V}(h0:Same Y.H₀ H)(h:RpF Y H x.1 x.2 H' v):RpE Y x H' v:=by
 unfold RpE;by_cases q:x.1.isFr=true
 · rw[if_pos q];exact h.fr h0 q
 · rw[if_neg q];exact h.sh
theorem RpE.mono{Y:Ky}{H H':Hp}{x:Dv}{v:V}(h:RpE Y x H v)(s:Same H H'):RpE Y x H' v:=by
 unfold RpE at h ⊢;by_cases q:x.1.isFr=true
 · rw[if_pos q]at h ⊢;exact Rp.mono _ s h
 · rw[if_neg q]at h ⊢;exact Rp.mono _ s h
theorem RpEs.mono{Y:Ky}{H H':Hp}(s:Same H H'):∀{xs:List Dv} {vs:List V},RpEs Y xs H vs->RpEs Y xs H' vs
 | [],vs,h=>h
 | x::xs,vs,⟨v,r,e,h1,h2⟩=>⟨v,r,e,h1.mono s,RpEs.mono s h2⟩
theorem RpEs.append{Y:Ky}{H':Hp}:∀{xs ys:List Dv} {vs ws:List V},RpEs Y xs H' vs->RpEs Y ys H' ws->RpEs Y (xs++ys) H' (vs++ws)
 | [],ys,vs,ws,h,h'=>by rw[show vs=[]from h];exact h'
 | x::xs,ys,vs,ws,⟨v,r,e,h1,h2⟩,h'=>⟨v,r++ws,by rw[e];rfl,h1,RpEs.append h2 h'⟩
theorem RpEs.length{Y:Ky}{H':Hp}:∀{xs:List Dv} {vs:List V},RpEs Y xs H' vs->vs.length=xs.length
 | [],vs,h=>by rw[show vs=[]from h];rfl
 | x::xs,vs,⟨v,r,e,_,h2⟩=>by rw[e,wn,wn,RpEs.length h2]
theorem RpEs.sh{Y:Ky}{H':Hp}:∀{xs:List Dv} {vs:List V},RpEs Y xs H' vs->Rps Y.K emp (sndL xs) H' vs
 | [],vs,h=>Rps.nil_.mpr h
 | x::xs,vs,⟨v,r,e,h1,h2⟩=>by
  refine Rps.cons_.mpr ⟨v,r,e,?_,RpEs.sh h2⟩;unfold RpE at h1;split at h1
  · exact Rp.anti Same.emp _ h1
  · exact h1
theorem RpEs.fr{Y:Ky}{H':Hp}:∀{xs:List Dv} {vs:List V},V3 xs=true->RpEs Y xs H' vs->Rps Y.K Y.H₀ (sndL xs) H' vs
 | [],vs,_,h=>Rps.nil_.mpr h
 | x::xs,vs,q,⟨v,r,e,h1,h2⟩=>by
  unfold V3 at q;rw[wR]at q;refine Rps.cons_.mpr ⟨v,r,e,?_,RpEs.fr q.2 h2⟩;unfold RpE at h1;rw[if_pos q.1]at h1;exact h1
theorem Yj{σ:St}{H:Hp}{Q:VK}(hj:∀ j∈js,j<σ.length)(h:upF X (n4 nt js Fi g Fc Fe) σ H Q):
   Yb nt js (upI X Fi) (g.low X.K) (frT λH1=>upBK ⟨X.K,H1⟩ Fc) (frE λH1=>upK ⟨X.K,H1⟩ Fe) σ H Q:=by
 obtain⟨ρ,f,d,rs,e0,k⟩:=h;obtain⟨items,ei,e1⟩:=j7 e0;obtain⟨vs0,ec,e2⟩:=j7 e1;cases e2;clear e0 e1;refine⟨ρ,items,rs,ei,λJ H1 sm hsz wk D hD=>?_⟩;have nD:H D=none:=sm.free hD;refine⟨λi m ys H2=>m=items.length-i/\H2 D=some (.lst ys)/\Same H1 (hidL [D] H2)/\∃ ds rest,RpEs ⟨X.K,H1⟩ ds (hidL [D] H2) ys/\Cm g Fc Fe (sigD nt js ρ) (items.drop i)=some rest/\ds++rest=vs0,⟨_,rfl,D7,?_,[],vs0,rfl,ec,rfl⟩,?_⟩
 · rw[ND,z0X hD];exact Same.refl _
 rintro i m ys H2 ⟨rfl,e2,s2,ds,rest,r2,c2,es⟩;obtain⟨w1,w2⟩:=wk [D] H2 s2 (λa ha=>by rw[wW.mp ha];exact⟨_,e2⟩);by_cases hlt:i<items.length
 · obtain⟨x,hx⟩:∃ x,items[i]?=some x:=⟨_,wa hlt⟩;have hdrop:items.drop i=x::items.drop (i+1):=by
     rw[uz hlt];rw[wa hlt]at hx;cases hx;rfl
   rw[hdrop]at c2;unfold Cm at c2;obtain⟨ρ1,p1,c3⟩:=j7 c2;obtain⟨b,p2,c4⟩:=j7 c3;obtain⟨go,yl⟩:=w1 i x hx;refine .inr ⟨go,λxv H3 y3=>?_⟩;obtain⟨s3,k3,r3⟩:=yl xv H3 y3;have e3:H3 D=some (.lst ys):=by rw[k3 D (by simp)];exact e2
   have s13:Same H1 (hidL [D] H3):=s2.trans s3;refine Tg.low_mono (Tg.sim (Y:=⟨X.K,H1⟩) (Hh:=hidL [D] H3) A7 ((rs.mono (sm.trans s13)).sigs hj s13) r3 p1) ?_;rintro σ4 H4 ⟨eH,rs4⟩;subst eH;have own:∀{H':Hp},H' D=some (.lst ys)->∀ a∈[D],(∃ vs,H' a=some (.lst vs))/\H1 a=none:=λ{H'} z a ha=>by
     rw[wW.mp ha];exact⟨⟨ys,z⟩,hD⟩
   refine⟨[D],own e3,ρ1,b,rs4,p2,λH5 s5 n5=>?_⟩;have h5:hidL [D] (G4 [D] H4 H5)=H5:=X3 n5;have e5:G4 [D] H4 H5 D=some (.lst ys):=by rw[Du (by simp)];exact e3
   have m5:items.length-(i+1)<items.length-i:=by rfl'
   dsimp only;cases b with
   | true =>
     rw[if_pos rfl]at c4 ⊢;obtain⟨⟨fv,dv⟩,p3,c5⟩:=j7 c4;obtain⟨rest',p4,c6⟩:=j7 c5;cases c6;have rs5:RepS ⟨X.K,H1⟩ H5 ρ1 σ4:=rs4.mono s5;refine⟨[D],own e5,ρ1,fv,dv,by rw[h5];exact rs5,p3,λv H6 s6 r6 n6=>?_⟩;rw[h5]at s6 r6;have h6:hidL [D] (G4 [D] (G4 [D] H4 H5) H6)=H6:=X3 n6;have r2':RpEs ⟨X.K,H1⟩ ds H6 ys:=r2.mono (s3.trans (s5.trans s6));have hlen:ys.length<sizeLine:=by
       have a1:=GI ec;have a2:=r2.length;rw[←es,ww,wn]at a1;rfl'
     refine⟨by rw[Du (by simp)];exact e5,hlen,_,m5,rfl,D7,?_,ds++[(fv,dv)],rest',?_,p4,by rw[vW];exact es⟩
     · rw[ND,h6];exact s13.trans (s5.trans s6)
     · rw[ND,h6];exact r2'.append ⟨v,[],rfl,RpE.of rs5.base r6,rfl⟩
   | false =>
     rw[if_neg wN]at c4 ⊢;refine⟨_,m5,rfl,e5,?_,ds,rest,?_,c4,es⟩
     · rw[h5];exact s13.trans s5
     · rw[h5];exact r2.mono (s3.trans s5)
 · have hd:items.drop i=[]:=vO (by rfl');rw[hd]at c2;cases c2;rw[uf]at es;subst es;refine .inl ⟨w2 i (by rfl'),k _ H2 (sm.trans (s2.trans A7)) ?_⟩;by_cases q:V3 ds=true
   · rw[if_pos q];exact(Rp.lst_ (K:=X.K) (B:=H)).mpr ⟨D,ys,rfl,nD,e2,Rps.anti (show Same H H1 from sm) _ (r2.fr q)⟩
   · rw[if_neg q];exact⟨Rp.lst_.mpr ⟨D,ys,rfl,rfl,e2,r2.sh⟩,⟨_,rfl⟩,λa e=>by cases e;exact nD⟩
theorem V1(S:CompScope X N scope nt js)(hc:X.calm=true)(hi:PFI X tg iter Fi)(hg:∀ cl C fp s H,PG (C4 X N scope cl C fp s H) tg (g.low X.K))(hb:g.below nt)
  (hcs:∀ cl C fp s H,PFTs (C4 X N scope cl C fp s H) ifs Fc) (he:∀ cl C fp s H,PF (C4 X N scope cl C fp s H) elt Fe) (hj:∀ j∈js,j<X.N.length)
  (hs:∀ x,foldedSetIterable iter X.env x=pure x:=by intro _;rfl):PF X (.ListComp elt [⟨tg,iter,ifs,0⟩] scope pos) (n4 nt js Fi g Fc Fe):=by
 intro π s σ H Q I h;exact z5g S hc hi hg (Tg.ok hb) (λcl C fp s H=>PTs.frame (t:=λH1=>upBK ⟨X.K,H1⟩ Fc) (hcs cl C fp s H)) (λcl C fp s H=>PE.frame (he cl C fp s H)) hs π s σ H Q I (Yj (λj z=>by rw[I.len];exact hj j z) h)
end
end L2

end
section
namespace L2
open PySem PySem.Spec PySem.W PyProof.Rows
def Fly(h0:Heap)(H:Hp)(e C:Addr)(h:Heap):Prop :=
 h0.get? e=none/\H e=none/\∃ oe vs T oT ts a0,h.get? e=some oe/\oe.cls = .ref C/\vs[0]?=some a0/\oe.data = .fields vs/\vs[1]?=some (.ref T)/\h0.get? T=none/\H T=none/\T≠e/\h.get? T=some oT/\oT.data = .fields ts/\ts[3]?=some .none
section
variable {P:Program}{w:World}{fs ex:List Addr}{H0 H:Hp}{h0 h h':Heap}{l:List Env}{bas:Heap}{e C:Addr}
end
def CX1(P:Program)(w:World):CXT:=λouter H s E e s' =>
 ∃ ea C H',e = .ref ea/\s'.os=s.os/\AllBare s'.gens/\Un (frs outer) [] H H' s.heap s'.heap/\HOk P w H' s'.heap/\Fly s.heap H' ea C s'.heap/\E (.ref C) none H'
section
variable {P:Program}{w:World}{K:aD}{mg:aE}{base:Heap}{N:List Str}{qual:Str}{scope:Scope}{f:Addr}{cd:Value}{A:Around}{outer:List Env}{s₀:Shared}{H₀:Hp}{E:XK}
end
def exN:Nat->Str
 | 0 => "HallError"
 | 1 => "NoHall"
 | 2 => "NoBasket"
 | 3 => "NoPlace"
 | 4 => "NoText"
 | 5 => "Unlike"
 | 6 => "TooMany"
 | _ => "NotWithin"
def XOk(X:Cx)(H₀:Hp)(C:Addr):Prop:=∃ E:XK,(∀ H,Same H₀ H->E (.ref C) none H)/\Nu (CX1 X.prog X.w) X E /\
 ∀(π:aB) (σ:St) (H:Hp) (s s':Shared) (ea:Addr) (args:aF),Inv X π σ H s->s.heap.MadeExcOf s'.heap ea (.ref C) args->s'.os=s.os->s'.gens=s.gens->E (.ref C) none H->X.xe (.ref ea) s'
theorem XOk.base{X:Cx}{H₀ H1:Hp}{C:Addr}(h:XOk X H₀ C)(s:Same H₀ H1):XOk X H1 C:=by
 obtain⟨E,a,b,c⟩:=h;exact⟨E,λH z=>a H (s.trans z),b,c⟩
end L2

end
section
local macro_rules|`(tactic|rfl')=>`(tactic|first|lia|omega +splitDisjunctions)
namespace L2
open PySem PySem.Spec PyProof.Rows
abbrev Own:=List (Nat×Addr)
abbrev Own.adr(O:Own):List Addr:=O.map (·.2)
def CellB(X:Cx)(H:Hp)(O:Own)(i:Nat):Cell->Option V->Prop
 | .no,_=>True
 | .ex,o=>∃ a φ,o=some (.ref a)/\hidL O.adr H a=some (.ext φ)/\∀ h,φ h->ExcAt X.K a h
 | .sh f d,o=>∃ v,o=some v/\Rp X.K (bsOf X.ky f) d (hidL O.adr H) v
 | .ow f ds,o=>∃ a vs,(i,a)∈O/\o=some (.ref a)/\H a=some (.lst vs)/\Rps X.K (bsOf X.ky f) ds (hidL O.adr H) vs
structure RepO(X:Cx)(H₀ H:Hp)(O:Own)(ρ:Rho)(σ:St):Prop where
 ndA:O.adr.Nodup
 ndI:(O.map (·.1)).Nodup
 own:OwnL X O.adr H
 len:ρ.length=σ.length
 b0:Same X.H₀ H₀
 same:Same H₀ (hidL O.adr H)
 at_:∀(i:Nat) (c:Cell),ρ[i]?=some c->∃ o,σ[i]?=some o/\CellB X H O i c o
def RepB(X:Cx)(H₀ H:Hp)(ρ:Rho)(σ:St):Prop:=∃ O,RepO X H₀ H O ρ σ
def Cn:Cell->Cell
 | .ow _ _ => .no
 | c=>c
def L0:Rho->Rho
 | []=>[]
 | c::ρ=>Cn c::L0 ρ
theorem LH:∀ ρ:Rho,L0 ρ=ρ.map Cn
 | []=>rfl
 | c::ρ=>by rw[L0,LH ρ,wm]
section
variable {X:Cx}{H₀ H H':Hp}{O:Own}{ρ:Rho}{σ:St}
theorem RepO.mono(h:RepO X H₀ H O ρ σ)(sm:Same H H'):RepO X H₀ H' O ρ σ:=by
 refine⟨h.ndA,h.ndI,λa ha=>?_,h.len,h.b0,h.same.trans (M5 sm),λi c e=>?_⟩
 · obtain⟨⟨vs,q⟩,z⟩:=h.own a ha;exact⟨⟨vs,sm _ _ q⟩,z⟩
 · obtain⟨o,e1,e2⟩:=h.at_ i c e;refine⟨o,e1,?_⟩;cases c with
   | no=>trivial
   | ex=>obtain⟨a,φ,q,r,z⟩:=e2;exact⟨a,φ,q,M5 sm _ _ r,z⟩
   | sh f d=>obtain⟨v,q,r⟩:=e2;exact⟨v,q,Rp.mono _ (M5 sm) r⟩
   | ow f ds=>obtain⟨a,vs,q1,q2,q3,r⟩:=e2;exact⟨a,vs,q1,q2,sm _ _ q3,Rps.mono _ (M5 sm) r⟩
theorem RepO.base(h:RepO X H₀ H O ρ σ){H1:Hp}(sm:Same H1 H₀)(b:Same X.H₀ H1):RepO X H1 H O ρ σ:=⟨h.ndA,h.ndI,h.own,h.len,b,sm.trans h.same,h.at_⟩
theorem RepO.below(h:RepO X H₀ H O ρ σ):Same X.H₀ H:=h.b0.trans (h.same.trans A7)
theorem RepO.bsFree(h:RepO X H₀ H O ρ σ){a:Addr}(ha:a∈O.adr)(f:Bool):bsOf X.ky f a=none:=by
 cases f with
 | false=>rfl
 | true=>exact(h.own a ha).2
theorem Bw{i:Nat}{a:Addr}(h:(i,a)∈O):a∈O.adr:=wg.mpr ⟨_,h,rfl⟩
theorem RepO.all(h:RepO X H₀ H O ρ σ):RepS X.ky H ρ σ:=by
 refine⟨h.len,h.below,λi c e=>?_⟩;obtain⟨o,e1,e2⟩:=h.at_ i c e;refine⟨o,e1,?_⟩;cases c with
 | no=>trivial
 | ex=>obtain⟨a,φ,q,r,z⟩:=e2;exact⟨a,φ,q,A7 _ _ r,z⟩
 | sh f d=>obtain⟨v,q,r⟩:=e2;exact⟨v,q,Rp.mono _ A7 r⟩
 | ow f ds =>
  obtain⟨a,vs,q1,q2,q3,r⟩:=e2;exact⟨_,q2,Rp.lst_.mpr ⟨a,vs,rfl,h.bsFree (Bw q1) f,q3,Rps.mono _ (AH λb hb=>by rw[wW.mp hb];exact Bw q1) r⟩⟩
theorem RepO.rest(h:RepO X H₀ H O ρ σ):RepS X.ky (hidL O.adr H) (L0 ρ) σ:=by
 rw[LH];refine⟨by rw[wv];exact h.len,h.b0.trans h.same,λi c e=>?_⟩;rw[wF]at e;cases q:ρ[i]? with
 | none=>rw[q]at e;cases e
 | some c' =>
  rw[q]at e;obtain⟨o,e1,e2⟩:=h.at_ i c' q;refine⟨o,e1,?_⟩;cases c' with
  | no=>cases e;trivial
  | ex=>cases e;exact e2
  | sh f d=>cases e;obtain⟨v,q,r⟩:=e2;exact⟨v,q,r⟩
  | ow f ds=>cases e;trivial
def AM(O:Own)(i:Nat):Own:=O.filter λp=>p.1 != i
theorem R4{p:Nat×Addr}{i:Nat}:p∈AM O i↔p∈O/\p.1≠i:=by
 unfold AM;rw[wL];simp
theorem M6{i:Nat}:∀ a∈(AM O i).adr,a∈O.adr:=λa ha=>by
 obtain⟨p,hp,e⟩:=wg.mp ha;exact wg.mpr ⟨p,(R4.mp hp).1,e⟩
theorem RepO.set(h:RepO X H₀ H O ρ σ){i:Nat}{f:Bool}{d:Dt}{v:V}(r:Rp X.K (bsOf X.ky f) d (hidL O.adr H) v):RepO X H₀ H (AM O i) (ρ.set i (.sh f d)) (σ.set i (some v)):=by
 have sm:Same (hidL O.adr H) (hidL (AM O i).adr H):=AH M6;refine⟨h.ndA.sublist (List.Sublist.map _ (vh)),h.ndI.sublist (List.Sublist.map _ (vh)),λa ha=>h.own a (M6 a ha),by rw[vv,vv];exact h.len,h.b0,h.same.trans sm,λj c q=>?_⟩;by_cases e:i=j
 · subst e;rw[vz,if_pos rfl]at q;rw[vz,if_pos rfl];split at q
   · rename_i hl;cases q;rw[if_pos (by rw[←h.len];exact hl)];exact⟨_,rfl,v,rfl,Rp.mono _ sm r⟩
   · cases q
 · rw[vo e]at q ⊢;obtain⟨o,e1,e2⟩:=h.at_ j c q;refine⟨o,e1,?_⟩;cases c with
   | no=>trivial
   | ex=>obtain⟨a,φ,q,r,z⟩:=e2;exact⟨a,φ,q,sm _ _ r,z⟩
   | sh f d=>obtain⟨v,q,r⟩:=e2;exact⟨v,q,Rp.mono _ sm r⟩
   | ow f ds=>obtain⟨a,vs,q1,q2,q3,r⟩:=e2;exact⟨a,vs,R4.mpr ⟨q1,λz=>e z.symm⟩,q2,q3,Rps.mono _ sm r⟩
theorem Jp{D:Addr}{A:List Addr}{H:Hp}:hidL A (hidL [D] H)=hidL (D::A) H:=funext λb=>by
 unfold hidL;by_cases q1:b=D
 · subst q1;simp
 · by_cases q2:b∈A
   · simp[q1,q2]
   · simp[q1,q2]
theorem RepO.setNew(h:RepO X H₀ H' O ρ σ){i:Nat}{D:Addr}{f:Bool}{ds:List Dt}{vs:List V}(hi:i<ρ.length)(sm0:Same H' H)(hN:H' D=none)(hD:H D=some (.lst vs))(hn:D ∉ O.adr)(hX:X.H₀ D=none)
   (r:Rps X.K (bsOf X.ky f) ds (hidL (D::O.adr) H) vs):RepO X H₀ H ((i,D)::AM O i) (ρ.set i (.ow f ds)) (σ.set i (some (.ref D))):=by
 have sub:∀ a∈(Own.adr ((i,D)::AM O i)),a∈D::O.adr:=λa ha=>by
   rcases wq.mp ha with z|z
   · rw[z];exact we
   · exact wc _ (M6 a z)
 have sm:Same (hidL (D::O.adr) H) (hidL (Own.adr ((i,D)::AM O i)) H):=AH sub;have sm1:Same H' (hidL [D] H):=λb o e=>by
   rw[u7 (by rw[wW];rintro rfl;rw[hN]at e;cases e)];exact sm0 _ _ e
 have sm2:Same (hidL O.adr H') (hidL (D::O.adr) H):=by rw[←Jp];exact M5 sm1
 have nD:D ∉ (AM O i).adr:=λz=>hn (M6 D z);refine⟨vq.mpr ⟨nD,h.ndA.sublist (List.Sublist.map _ (vh))⟩,vq.mpr ⟨λz=>?_,h.ndI.sublist (List.Sublist.map _ (vh))⟩,λa ha=>?_,by rw[vv,vv];exact h.len,h.b0,h.same.trans (sm2.trans sm),λj c q=>?_⟩
 · obtain⟨p,hp,e⟩:=wg.mp z;exact(R4.mp hp).2 e
 · rcases wq.mp ha with z|z
   · rw[z];exact⟨⟨vs,hD⟩,hX⟩
   · obtain⟨⟨ws,q⟩,z2⟩:=h.own a (M6 a z);exact⟨⟨ws,sm0 _ _ q⟩,z2⟩
 · by_cases e:i=j
   · subst e;rw[vz,if_pos rfl,if_pos hi]at q;rw[vz,if_pos rfl,if_pos (by rw[←h.len];exact hi)];cases q;exact⟨_,rfl,D,vs,we,rfl,hD,Rps.mono _ sm r⟩
   · rw[vo e]at q ⊢;obtain⟨o,e1,e2⟩:=h.at_ j c q;refine⟨o,e1,?_⟩;cases c with
     | no=>trivial
     | ex=>obtain⟨a,φ,q,r,z⟩:=e2;exact⟨a,φ,q,(sm2.trans sm) _ _ r,z⟩
     | sh f d=>obtain⟨v,q,r⟩:=e2;exact⟨v,q,Rp.mono _ (sm2.trans sm) r⟩
     | ow f ds' =>
      obtain⟨a,vs',q1,q2,q3,r⟩:=e2;exact⟨a,vs',wc _ (R4.mpr ⟨q1,λz=>e z.symm⟩),q2,sm0 _ _ q3,Rps.mono _ (sm2.trans sm) r⟩
theorem Yk{O:Own}(nd:O.adr.Nodup):∀{p q:Nat×Addr},p∈O->q∈O->p.2=q.2->p=q:=by
 induction O with
 | nil=>intro p q hp;cases hp
 | cons o O ih =>
  intro p q hp hq e;have nd:(o.2::O.map (·.2)).Nodup:=nd;obtain⟨n1,n2⟩:=vq.mp nd;rcases wq.mp hp with hp|hp<;>rcases wq.mp hq with hq|hq
  · rw[hp,hq]
  · exact absurd (wg.mpr ⟨q,hq,by rw[←e,hp]⟩) n1
  · exact absurd (wg.mpr ⟨p,hp,by rw[e,hq]⟩) n1
  · exact ih n2 hp hq e
theorem z5o{O:Own}(nd:(O.map (·.1)).Nodup):∀{p q:Nat×Addr},p∈O->q∈O->p.1=q.1->p=q:=by
 induction O with
 | nil=>intro p q hp;cases hp
 | cons o O ih =>
  intro p q hp hq e;have nd:(o.1::O.map (·.1)).Nodup:=nd;obtain⟨n1,n2⟩:=vq.mp nd;rcases wq.mp hp with hp|hp<;>rcases wq.mp hq with hq|hq
  · rw[hp,hq]
  · exact absurd (wg.mpr ⟨q,hq,by rw[←e,hp]⟩) n1
  · exact absurd (wg.mpr ⟨p,hp,by rw[e,hq]⟩) n1
  · exact ih n2 hp hq e
theorem Rj{A:List Addr}{a:Addr}{o:HO}{H:Hp}(h:a∈A):hidL A (upd H a o)=hidL A H:=funext λb=>by
 by_cases q:b∈A
 · rw[T6 q,T6 q]
 · rw[u7 q,u7 q,w6 λz=>q (by rw[z];exact h)]
theorem RepO.upd(h:RepO X H₀ H O ρ σ){i:Nat}{a:Addr}{f g:Bool}{ds ds0:List Dt}{vs:List V}(hc:ρ[i]?=some (.ow g ds0))(hi:(i,a)∈O)(r:Rps X.K (bsOf X.ky f) ds (hidL O.adr H) vs):
   RepO X H₀ (upd H a (.lst vs)) O (ρ.set i (.ow f ds)) σ:=by
 have ha:a∈O.adr:=Bw hi;have hh:hidL O.adr (L2.upd H a (.lst vs))=hidL O.adr H:=Rj ha;have hlt:i<ρ.length:=by
   by_cases hlt:i<ρ.length
   · exact hlt
   · rw[wJ (by rfl')]at hc;cases hc
 refine⟨h.ndA,h.ndI,λb hb=>?_,by rw[vv];exact h.len,h.b0,by rw[hh];exact h.same,λj c q=>?_⟩
 · by_cases e:b=a
   · subst e;exact⟨⟨vs,D7⟩,(h.own b hb).2⟩
   · rw[w6 e];exact h.own b hb
 · by_cases e:i=j
   · subst e;rw[vz,if_pos rfl,if_pos hlt]at q;cases q;obtain⟨o,e1,a',vs',q1,q2,q3,r'⟩:=h.at_ i _ hc;have e2:(i,a')=(i,a):=z5o h.ndI q1 hi rfl;cases e2;exact⟨o,e1,a,vs,hi,q2,D7,by rw[hh];exact r⟩
   · rw[vo e]at q;obtain⟨o,e1,e2⟩:=h.at_ j c q;refine⟨o,e1,?_⟩;cases c with
     | no=>trivial
     | ex=>obtain⟨b,φ,q,r,z⟩:=e2;exact⟨b,φ,q,by rw[hh];exact r,z⟩
     | sh f d=>obtain⟨v,q,r⟩:=e2;exact⟨v,q,by rw[hh];exact r⟩
     | ow f ds' =>
      obtain⟨b,vs',q1,q2,q3,r'⟩:=e2;have hne:b≠a:=λz=>by
       have:=Yk h.ndA q1 hi z;exact e (congrArg Prod.fst this).symm
      exact⟨b,vs',q1,q2,by rw[w6 hne];exact q3,by rw[hh];exact r'⟩
def relC:Cell->Cell
 | .ow f ds => .sh f (.lst ds)
 | c=>c
def LI(ρ:Rho)(i:Nat):Rho:=match ρ[i]? with|some c=>ρ.set i (relC c)|none=>ρ
def relS:List Nat->Rho->Rho
 | [],ρ=>ρ
 | i::is,ρ=>relS is (LI ρ i)
theorem RepO.rel(h:RepO X H₀ H O ρ σ)(i:Nat):RepO X H₀ H (AM O i) (LI ρ i) σ:=by
 have sm:Same (hidL O.adr H) (hidL (AM O i).adr H):=AH M6;have hl:(LI ρ i).length=ρ.length:=by
  unfold LI;split
  · exact vv
  · rfl
 refine⟨h.ndA.sublist (List.Sublist.map _ (vh)),h.ndI.sublist (List.Sublist.map _ (vh)),λa ha=>h.own a (M6 a ha),hl.trans h.len,h.b0,h.same.trans sm,λj c q=>?_⟩;have other:∀{c:Cell},ρ[j]?=some c->(∀ f ds,c = .ow f ds->j≠i)->∃ o,σ[j]?=some o/\CellB X H (AM O i) j c o:=λ{c} q hne=>by
  obtain⟨o,e1,e2⟩:=h.at_ j c q;refine⟨o,e1,?_⟩;cases c with
  | no=>trivial
  | ex=>obtain⟨a,φ,q,r,z⟩:=e2;exact⟨a,φ,q,sm _ _ r,z⟩
  | sh f d=>obtain⟨v,q,r⟩:=e2;exact⟨v,q,Rp.mono _ sm r⟩
  | ow f ds=>obtain⟨a,vs,q1,q2,q3,r⟩:=e2;exact⟨a,vs,R4.mpr ⟨q1,hne f ds rfl⟩,q2,q3,Rps.mono _ sm r⟩
 unfold LI at q;cases e:ρ[i]? with
 | none =>
  rw[e]at q;exact other q λf ds _ z=>by rw[z,e]at q;cases q
 | some c' =>
  rw[e]at q;dsimp only at q;by_cases hij:i=j
  · subst hij;have hlt:i<ρ.length:=by
     by_cases hlt:i<ρ.length
     · exact hlt
     · rw[wJ (by rfl')]at e;cases e
    rw[vz,if_pos rfl,if_pos hlt]at q;cases q;cases c' with
    | no=>obtain⟨o,e1,e2⟩:=h.at_ i _ e;exact⟨o,e1,trivial⟩
    | ex=>exact other e λf ds z=>by cases z
    | sh f d=>exact other e λf ds z=>by cases z
    | ow f ds =>
     obtain⟨o,e1,a,vs,q1,q2,q3,r⟩:=h.at_ i _ e;have hna:a ∉ (AM O i).adr:=λz=>by
       obtain⟨p,hp,ep⟩:=wg.mp z;have:=Yk h.ndA (R4.mp hp).1 q1 ep;exact(R4.mp hp).2 (by rw[this])
     refine⟨o,e1,.ref a,q2,Rp.lst_.mpr ⟨a,vs,rfl,h.bsFree (Bw q1) f,by rw[u7 hna];exact q3,Rps.mono _ ?_ r⟩⟩;rw[Jh,Jp];refine AH λb hb=>?_;rcases wq.mp hb with z|z
     · rw[z];exact Bw q1
     · exact M6 b z
  · rw[vo hij]at q;exact other q λf ds _ z=>hij z.symm
theorem RepO.rels(h:RepO X H₀ H O ρ σ):∀ is:List Nat,∃ O',RepO X H₀ H O' (relS is ρ) σ:=λis=>by
 induction is generalizing O ρ with
 | nil=>exact⟨O,h⟩
 | cons i is ih=>exact ih (h.rel i)
end
inductive Oc where
 | nx (ρ:Rho)|rt (f:Fl) (d:Dt)|bk (ρ:Rho)|ct (ρ:Rho)|ex (n:Nat)
def OcOk(X:Cx)(H₀:Hp)(D:Ends):Oc->Prop
 | .nx ρ=>∀ σ H,RepB X H₀ H ρ σ->D.nx σ H
 | .rt f d=>∀ v H,Same H₀ H->Rp X.K (bsOf X.ky f.isFr) d H v->D.rt v H
 | .bk ρ=>∀ σ H,RepB X H₀ H ρ σ->D.bk σ H
 | .ct ρ=>∀ σ H,RepB X H₀ H ρ σ->D.ct σ H
 | .ex n=>∀ C,X.mg (exN n)=some (.ref C)->XOk X H₀ C
abbrev FS:=Rho->Option Oc
def upS(X:Cx)(F:FS):TS:=λD σ H=>∃ H₀ ρ oc,RepB X H₀ H ρ σ/\F ρ=some oc/\OcOk X H₀ D oc
def PFS(X:Cx)(st:Stmt)(F:FS):Prop:=PS X st (upS X F)
def PFSs(X:Cx)(sts:List Stmt)(F:FS):Prop:=PSs X sts (upS X F)
theorem PS.imp{X:Cx}{st:Stmt}{t t':TS}(h:PS X st t)(q:∀ D σ H,t' D σ H->t D σ H):PS X st t':=λπ s σ H D I z=>h π s σ H D I (q D σ H z)
theorem PSs.imp{X:Cx}{st:List Stmt}{t t':TS}(h:PSs X st t)(q:∀ D σ H,t' D σ H->t D σ H):PSs X st t':=λπ s σ H D I z=>h π s σ H D I (q D σ H z)
section
variable {X:Cx}{st:Stmt}{rest:List Stmt}{F G:FS}{e:Expr}{Fe:FE}{pos:Pos}
def v4:FS:=λρ=>some (.nx ρ)
def seqO(G:FS):Oc->Option Oc
 | .nx ρ=>G ρ
 | o=>some o
def sSeq(F G:FS):FS:=λρ=>(F ρ).bind (seqO G)
theorem v6:PFSs X [] v4:=z4X.imp (by rintro D σ H ⟨H₀,ρ,oc,rb,e,k⟩;cases e;exact k σ H rb)
theorem m9(h:PFS X st F):PFSs X [st] F:=z4Y h
theorem i8(h1:PFS X st F)(h2:PFSs X rest G):PFSs X (st::rest) (sSeq F G):=(z0u h1 h2).imp λD σ H⟨H₀,ρ,oc,rb,e,k⟩=>by
 obtain⟨o1,e1,e2⟩:=j7 e;refine⟨H₀,ρ,o1,rb,e1,?_⟩;cases o1 with
 | nx ρ'=>exact λσ' H' rb'=>⟨H₀,ρ',oc,rb',e2,k⟩
 | rt f d=>cases e2;exact k
 | ex C=>cases e2;exact k
 | bk ρ'=>cases e2;exact k
 | ct ρ'=>cases e2;exact k
def Ex:FS:=λ_=>none
theorem Dz:PFS X st Ex:=λπ s σ H D I⟨H₀,ρ,oc,rb,e,k⟩=>by cases e
def sRet(F:FE):FS:=λρ=>(F ρ).map λx => .rt x.1 x.2
theorem o7(he:PF X e Fe):PFS X (.Return (some e) pos) (sRet Fe):=(ps_ret he).imp λD σ H ⟨H₀,ρ,oc,⟨O,rb⟩,e0,k⟩=>by
 unfold sRet at e0;cases h:Fe ρ with
 | none=>rw[h]at e0;cases e0
 | some x =>
  rw[h]at e0;cases e0;refine⟨ρ,x.1,x.2,rb.all,h,λv H' sm r=>k v H' (rb.same.trans (A7.trans sm)) ?_⟩;by_cases q:x.1.isFr=true
  · rw[q];exact r.fr rb.below q
  · rw[show x.1.isFr=false by simpa using q];exact r.sh
def sIf(c:FT)(F G:FS):FS:=λρ=>(c ρ).bind λb=>if b then F ρ else G ρ
theorem s_if{c:Expr}{a b:List Stmt}{Fc:FT}(hc:PFT X c Fc)(ha:PFSs X a F)(hb:PFSs X b G):PFS X (.If c a b pos) (sIf Fc F G):=(ps_if hc ha hb).imp λD σ H ⟨H₀,ρ,oc,⟨O,rb⟩,e0,k⟩=>by
 obtain⟨z,e1,e2⟩:=j7 e0;refine⟨ρ,z,rb.all,e1,λH' sm=>?_⟩;dsimp only;cases z with
 | true=>rw[if_pos rfl]at e2 ⊢;exact⟨H₀,ρ,oc,⟨O,rb.mono sm⟩,e2,k⟩
 | false=>rw[if_neg wN]at e2 ⊢;exact⟨H₀,ρ,oc,⟨O,rb.mono sm⟩,e2,k⟩
def Ad(F:FE):FS:=λρ=>(F ρ).map λ_ => .nx ρ
theorem Bx(he:PF X e Fe)(hs:swapsWith e none pos.line X.env=pure false:=by rfl):PFS X (.Expr e pos) (Ad Fe):=(Nt he hs).imp λD σ H ⟨H₀,ρ,oc,⟨O,rb⟩,e0,k⟩=>by
 unfold Ad at e0;cases h:Fe ρ with
 | none=>rw[h]at e0;cases e0
 | some x =>
  rw[h]at e0;cases e0;exact⟨ρ,x.1,x.2,rb.all,h,λv H' sm r=>k σ H' ⟨O,rb.mono sm⟩⟩
def AsgF(X:Cx)(st:Stmt)(i:Nat)(F:FE):Prop:=PS X st (tAsg (upF X F) (Jb i))
theorem u5{i:Nat}{x:Str}{pos':Pos}(he:PF X e Fe)(hN:X.N.Nodup)(hi:X.N[i]?=some x)(hx:Loc X.env.scope x)(hs:swapsWith e (some (.Name x pos')) pos.line X.env=pure false)(hf:X.fn x=true\/X.env.scope.names.lookup x=some .local):
 AsgF X (.Assign [.Name x pos'] e pos) i Fe:=ps_set hN hi hx he hs hf
theorem OX{N:List Str}{scope:Scope}{nt:Nat}{js:List Nat}{tg elt iter:Expr}{ifs:List Expr}{Fi:FI}{g:Tg}{Fc:FT}{i:Nat}{x:Str}{pos' spos:Pos}(hN:X.N.Nodup)(hix:X.N[i]?=some x)(hx:X.env.scope.names.lookup x=some .local)
  (hsw:swapsWith (.ListComp elt [⟨tg,iter,ifs,0⟩] scope pos) (some (.Name x pos')) spos.line X.env=pure true)
  (S:CompScope X N scope nt js) (hc:X.calm=true) (hi:PFI X tg iter Fi) (hg:∀ cl C fp s H,PG (C4 X N scope cl C fp s H) tg (g.low X.K)) (hb:g.below nt)
  (hcs:∀ cl C fp s H,PFTs (C4 X N scope cl C fp s H) ifs Fc) (he:∀ cl C fp s H,PF (C4 X N scope cl C fp s H) elt Fe) (hj:∀ j∈js,j<X.N.length)
  (hs:∀ x,foldedSetIterable iter X.env x=pure x:=by intro _;rfl):AsgF X (.Assign [.Name x pos'] (.ListComp elt [⟨tg,iter,ifs,0⟩] scope pos) spos) i (n4 nt js Fi g Fc Fe):=by
 intro π s σ H D I h;exact z5h hN hix hx S hc hi hg (Tg.ok hb) (λcl C fp s H=>PTs.frame (t:=λH1=>upBK ⟨X.K,H1⟩ Fc) (hcs cl C fp s H)) (λcl C fp s H=>PE.frame (he cl C fp s H)) hsw hs π s σ H D I
  (Yj (λj z=>by rw[I.len];exact hj j z) h)
def sSet(rels:List Nat)(i:Nat)(F:FE):FS:=λρ=>(F (L0 (relS rels ρ))).map λx => .nx ((relS rels ρ).set i (.sh x.1.isFr x.2))
theorem D8{rels:List Nat}{i:Nat}(ha:AsgF X st i Fe):PFS X st (sSet rels i Fe):=(PS.frame ha).imp λD σ H ⟨H₀,ρ,oc,⟨O,rb⟩,e0,k⟩=>by
 unfold sSet at e0;cases h:Fe (L0 (relS rels ρ)) with
 | none=>rw[h]at e0;cases e0
 | some x =>
  rw[h]at e0;cases e0;obtain⟨O',rb'⟩:=rb.rels rels;refine⟨O'.adr,rb'.own,L0 (relS rels ρ),x.1,x.2,rb'.rest,h,λv H' sm r hn=>?_⟩;have hg:hidL O'.adr (G4 O'.adr H H')=H':=X3 hn;have rb2:RepO X H₀ (G4 O'.adr H H') O' (relS rels ρ) σ:=rb'.mono (Same.glue sm hn);refine k _ _ ⟨_,rb2.set (f:=x.1.isFr) ?_⟩;rw[hg];by_cases q:x.1.isFr=true
  · rw[q];exact r.fr (rb'.b0.trans rb'.same) q
  · rw[show x.1.isFr=false by simpa using q];exact r.sh
def U1(i:Nat)(F:FE):FS:=λρ=>(F ρ).bind λx=>if x.1.isNw then some (.nx (ρ.set i (.sh true x.2))) else none
theorem z0Y{H H':Hp}{O:Own}{f:Fl}{d:Dt}{v:V}(ho:OwnL X O.adr H)(sm:Same H H')(q:f.isNw=true)(r:RpF X.ky H f d H' v):Rp X.K H d (hidL O.adr H') v:=by
 cases f<;>first|cases q|skip
 refine Rp.hid (λb hb=>?_) d (λb hb o e=>?_) r
 · obtain⟨⟨vs,z⟩,_⟩:=ho b hb;rw[z];exact λw=>nomatch w
 · obtain⟨⟨vs,z⟩,_⟩:=ho b hb;rw[sm _ _ z]at e;cases e;exact⟨vs,rfl⟩
theorem Jq{i:Nat}(ha:AsgF X st i Fe):PFS X st (U1 i Fe):=PS.imp ha λD σ H ⟨H₀,ρ,oc,⟨O,rb⟩,e0,k⟩=>by
 obtain⟨x,e1,e2⟩:=j7 e0;split at e2
 · rename_i q;cases e2;refine⟨ρ,x.1,x.2,rb.all,e1,λv H' sm r=>k _ _ ⟨_,(rb.mono sm).set (f:=true) ?_⟩⟩;exact Rp.anti rb.below _ (z0Y rb.own sm q r)
 · cases e2
def sOwn(i:Nat)(F:FE):FS:=λρ=>(F (L0 ρ)).bind λx=>match x with
 | (.nw,.lst ds)=>if i<ρ.length then some (.nx (ρ.set i (.ow true ds))) else none
 | (.tn,.lst ds)=>if i<ρ.length then some (.nx (ρ.set i (.ow false ds))) else none
 | _=>none
theorem Yl{i:Nat}(ha:AsgF X st i Fe):PFS X st (sOwn i Fe):=(PS.frame ha).imp λD σ H ⟨H₀,ρ,oc,⟨O,rb⟩,e0,k⟩=>by
 obtain⟨x,e1,e2⟩:=j7 e0;refine⟨O.adr,rb.own,L0 ρ,x.1,x.2,rb.rest,e1,λv H' sm r hn=>?_⟩;have hg:hidL O.adr (G4 O.adr H H')=H':=X3 hn;have sg:Same H (G4 O.adr H H'):=Same.glue sm hn;have new:∀{f:Bool} {ds:List Dt} {D:Addr} {vs:List V},hidL O.adr H D=none->H' D=some (.lst vs)->Rps X.K (bsOf X.ky f) ds (hidL [D] H') vs->i<ρ.length->RepB X H₀ (G4 O.adr H H') (ρ.set i (.ow f ds)) (σ.set i (some (.ref D))):=by
   intro f ds D vs hD hv hr hi;have nO:D ∉ O.adr:=λz=>by rw[hn D z]at hv;cases hv
   have hH:H D=none:=by rw[u7 nO]at hD;exact hD
   refine⟨_,rb.setNew hi sg hH (by rw[F2 nO];exact hv) nO (rb.below.free hH) ?_⟩;rw[←Jp,Jh,hg];exact hr
 split at e2
 · rename_i ds;split at e2
   · rename_i hi;cases e2;obtain⟨D,vs,rfl,h0,h1,h2⟩:=(Rp.lst_ (K:=X.K)).mp (show Rp X.K (hidL O.adr H) (.lst ds) H' v from r);exact k _ _ (new (f:=true) h0 h1 (Rps.anti (rb.b0.trans rb.same) _ h2) hi)
   · cases e2
 · rename_i ds;split at e2
   · rename_i hi;cases e2;obtain⟨D,vs,rfl,h0,h1,h2⟩:=Rp.lst_.mp r.1;exact k _ _ (new (f:=false) (r.2.2 D rfl) h1 h2 hi)
   · cases e2
 · cases e2
def sOwnA(i:Nat)(F:FE):FS:=λρ=>(F ρ).bind λx=>match x with
 | (.nw,.lst ds)=>if i<ρ.length then some (.nx (ρ.set i (.ow true ds))) else none
 | _=>none
def F0(c:FT)(F:FS):Nat->FS
 | 0,_=>none
 | n+1,ρ=>(c ρ).bind λb=>if b then(F ρ).bind λoc=>match oc with|.nx ρ'=>F0 c F n ρ'|.ct ρ'=>F0 c F n ρ'|.bk ρ'=>some (.nx ρ')|.rt f d=>some (.rt f d)|.ex C=>some (.ex C) else some (.nx ρ)
open Classical in
noncomputable def AA(c:FT)(F:FS):FS:=λρ=>if h:∃ n o,F0 c F n ρ=some o then some (choose (choose_spec h)) else none
theorem Ae{c:FT}{F:FS}:∀{n m:Nat} {ρ:Rho} {o:Oc},n<=m->F0 c F n ρ=some o->F0 c F m ρ=some o
 | 0,m,ρ,o,_,h=>by cases h
 | n+1,0,ρ,o,hl,h=>by rfl'
 | n+1,m+1,ρ,o,hl,h=>by
  unfold F0 at h ⊢;obtain⟨b,e1,e2⟩:=j7 h;rw[e1];show(if b=true then _ else _)=_;cases b with
  | false=>exact e2
  | true =>
   rw[if_pos rfl]at e2 ⊢;obtain⟨oc,e3,e4⟩:=j7 e2;rw[e3];cases oc with
   | nx ρ'=>exact Ae (by rfl') e4
   | ct ρ'=>exact Ae (by rfl') e4
   | bk ρ'=>exact e4
   | rt f d=>exact e4
   | ex C=>exact e4
theorem DA{c:FT}{F:FS}{n:Nat}{ρ:Rho}{o:Oc}(h:F0 c F n ρ=some o):AA c F ρ=some o:=by
 have hx:∃ n o,F0 c F n ρ=some o:=⟨n,o,h⟩;unfold AA;rw[dif_pos hx];have z:=vc (vc hx);have a:=Ae (Nat.le_max_left n (vH hx)) h;have b:=Ae (Nat.le_max_right n (vH hx)) z;rw[a]at b;exact b.symm
theorem ZB{c:FT}{F:FS}{ρ:Rho}{o:Oc}(h:AA c F ρ=some o):∃ n,F0 c F n ρ=some o:=by
 unfold AA at h;split at h
 · rename_i hx;cases h;exact⟨_,vc (vc hx)⟩
 · cases h
theorem NE{c:Expr}{body:List Stmt}{Fc:FT}(hp:PassesOwn (model X.prog X.w) X.A X.env X.xe)(hc:PFT X c Fc)(hb:PFSs X body F):PFS X (.While c body [] pos) (AA Fc F):=(z0w hp hc hb).imp λD σ H⟨H₀,ρ,oc,rb,e0,k⟩=>by
 obtain⟨n0,e1⟩:=ZB e0;refine⟨λm σ' H'=>∃ ρ',RepB X H₀ H' ρ' σ'/\F0 Fc F m ρ'=some oc,⟨n0,ρ,rb,e1⟩,?_⟩;rintro m σ' H' ⟨ρ',⟨O,rb'⟩,w'⟩;cases m with
 | zero=>cases w'
 | succ n =>
  unfold F0 at w';obtain⟨z,p1,p2⟩:=j7 w';refine⟨ρ',z,rb'.all,p1,λH2 sm=>?_⟩;dsimp only;cases z with
  | false =>
   rw[if_neg wN]at p2 ⊢;cases p2;exact k _ _ ⟨O,rb'.mono sm⟩
  | true =>
   rw[if_pos rfl]at p2 ⊢;obtain⟨oc',p3,p4⟩:=j7 p2;refine⟨λσ' H'=>∃ ρ'',RepB X H₀ H' ρ'' σ'/\F0 Fc F n ρ''=some oc,λσ3 H3⟨ρ3,rb3,w3⟩=>⟨n,vy n,ρ3,rb3,w3⟩,H₀,ρ',oc',⟨O,rb'.mono sm⟩,p3,?_⟩;cases oc' with
   | nx ρ3=>exact λσ3 H3 rb3=>⟨ρ3,rb3,p4⟩
   | ct ρ3=>exact λσ3 H3 rb3=>⟨ρ3,rb3,p4⟩
   | bk ρ3=>cases p4;exact k
   | rt f d=>cases p4;exact k
   | ex C=>cases p4;exact k
def forF(g:Tg)(F:FS):List Dt->FS
 | [],ρ=>some (.nx ρ)
 | x::xs,ρ=>(g.put x ρ).bind λρ2=>(F ρ2).bind λoc=>match oc with|.nx ρ'=>forF g F xs ρ'|.ct ρ'=>forF g F xs ρ'|.bk ρ'=>some (.nx ρ')|.rt f d=>some (.rt f d)|.ex C=>some (.ex C)
def sFor(rels:List Nat)(Fi:FI)(g:Tg)(F:FS):FS:=λρ=>(Fi (L0 (relS rels ρ))).bind λitems=>forF g F items (relS rels ρ)
end
section
variable {X:Cx}{H₀ H H':Hp}{O:Own}{ρ ρ':Rho}{σ:St}
theorem HZ:∀{is:List Nat} {ds:List Dt} {vs:List V} {O:Own} {ρ:Rho} {σ:St},RepO X H₀ H O ρ σ->Rps X.K emp ds (hidL O.adr H) vs->ds.length=is.length->P6 ρ is ds=ρ' ->
  P5 is vs σ H λσ' H'=>H'=H/\∃ O',RepO X H₀ H O' ρ' σ'
 | [],[],vs,O,ρ,σ,rs,r,hl,q=>⟨Rps.nil_.mp r,rfl,O,by rw[←q];exact rs⟩
 | [],d::ds,vs,O,ρ,σ,rs,r,hl,q=>by cases hl
 | i::is,[],vs,O,ρ,σ,rs,r,hl,q=>by cases hl
 | i::is,d::ds,vs,O,ρ,σ,rs,r,hl,q=>by
  obtain⟨v,r',rfl,h1,h2⟩:=Rps.cons_.mp r;exact⟨v,r',rfl,HZ (rs.set (f:=false) h1) (Rps.mono _ (AH M6) h2) (by simpa using hl) q⟩
theorem Tg.simO{g:Tg}{d:Dt}{v:V}(rs:RepO X H₀ H O ρ σ)(r:Rp X.K emp d (hidL O.adr H) v)(h:g.put d ρ=some ρ'):
  g.low X.K v σ H λσ' H'=>H'=H/\∃ O',RepO X H₀ H O' ρ' σ':=by
 cases g with
 | one i=>cases h;exact⟨rfl,_,rs.set (f:=false) r⟩
 | many is =>
  cases d<;>first|cases h|skip
  rename_i ds;replace h:(if ds.length=is.length then some (P6 ρ is ds) else none)=some ρ':=h;split at h
  · rename_i hl;obtain⟨a,vs,rfl,h1,h2⟩:=Rp.tup_.mp r;exact⟨a,vs,rfl,A7.seqT h1,by rw[h2.length];exact hl,HZ rs h2 hl (Option.some.inj h)⟩
  · cases h
end
section
variable {X:Cx}{tg iter:Expr}{body:List Stmt}{Fi:FI}{g:Tg}{F:FS}{pos:Pos}
theorem Af{rels:List Nat}(hp:PassesOwn (model X.prog X.w) X.A X.env X.xe)(hc:X.calm=true)(hi:PFI X tg iter Fi)(hg:PG X tg (g.low X.K))(hb:PFSs X body F)
   (hs:∀ x,foldedSetIterable iter X.env x=pure x:=by intro _;rfl):PFS X (.For tg iter body [] pos) (sFor rels Fi g F):=(z0x hp hc (PI.frame hi) hg hb hs).imp λD σ H ⟨H₀,ρ,oc,⟨O,rb⟩,e0,k⟩=>by
 obtain⟨items,e1,e2⟩:=j7 e0;obtain⟨O',rb'⟩:=rb.rels rels;refine⟨O'.adr,rb'.own,L0 (relS rels ρ),items,rb'.rest,e1,λJ H1 sm hsz wk hn=>?_⟩;have hg1:hidL O'.adr (G4 O'.adr H H1)=H1:=X3 hn;have s01:Same H₀ H1:=rb'.same.trans sm;have start:RepO X H1 (G4 O'.adr H H1) O' (relS rels ρ) σ:=by
   have z:=rb'.mono (Same.glue sm hn);exact⟨z.ndA,z.ndI,z.own,z.len,rb'.b0.trans s01,by rw[hg1];exact Same.refl _,z.at_⟩
 have back:∀{oc:Oc},OcOk X H₀ D oc->OcOk X H1 D oc:=λ{oc} z=>by
   cases oc with
   | nx ρ5=>exact λσ5 H5⟨O5,r5⟩=>z σ5 H5 ⟨O5,r5.base s01 rb'.b0⟩
   | bk ρ5=>exact λσ5 H5⟨O5,r5⟩=>z σ5 H5 ⟨O5,r5.base s01 rb'.b0⟩
   | ct ρ5=>exact λσ5 H5⟨O5,r5⟩=>z σ5 H5 ⟨O5,r5.base s01 rb'.b0⟩
   | rt f d=>exact λv H5 s5 r5=>z v H5 (s01.trans s5) r5
   | ex n=>exact λC q=>(z C q).base s01
 refine⟨λi m σ' H'=>m=items.length-i/\∃ ρ',RepB X H1 H' ρ' σ'/\forF g F (items.drop i) ρ'=some oc,⟨_,rfl,_,⟨O',start⟩,e2⟩,?_⟩;rintro i m σ' H' ⟨rfl,ρ',⟨O2,r2⟩,f2⟩;obtain⟨w1,w2⟩:=wk O2.adr H' r2.same λa ha=>by obtain⟨⟨vs,q⟩,_⟩:=r2.own a ha;exact⟨_,q⟩
 by_cases hlt:i<items.length
 · obtain⟨x,hx⟩:∃ x,items[i]?=some x:=⟨_,wa hlt⟩;have hdrop:items.drop i=x::items.drop (i+1):=by
    rw[uz hlt];rw[wa hlt]at hx;cases hx;rfl
   rw[hdrop]at f2;unfold forF at f2;obtain⟨ρ2,p1,f3⟩:=j7 f2;obtain⟨oc',p2,f4⟩:=j7 f3;obtain⟨go,yl⟩:=w1 i x hx;refine .inr ⟨go,λσ3 H3=>∃ ρ3,RepB X H1 H3 ρ3 σ3/\forF g F (items.drop (i+1)) ρ3=some oc,λσ3 H3⟨ρ3,r3,f3⟩=>⟨items.length-(i+1),by rfl',rfl,ρ3,r3,f3⟩,λxv H3 y3=>?_⟩;obtain⟨s3,k3,r3⟩:=yl xv H3 y3;have sm3:Same H' H3:=λb o e=>by
    by_cases hb:b∈O2.adr
    · rw[k3 b hb];exact e
    · exact(Bs (s3 b o (by rw[u7 hb];exact e))).2
   refine Tg.low_mono (Tg.simO (r2.mono sm3) r3 p1) ?_;rintro σ4 H4 ⟨eH,O4,r4⟩;subst eH;refine⟨H1,ρ2,oc',⟨O4,r4⟩,p2,?_⟩;cases oc' with
   | nx ρ5=>exact λσ5 H5 r5=>⟨ρ5,r5,f4⟩
   | ct ρ5=>exact λσ5 H5 r5=>⟨ρ5,r5,f4⟩
   | bk ρ5=>cases f4;exact back k
   | rt f d=>cases f4;exact back k
   | ex C=>cases f4;exact back k
 · have hd:items.drop i=[]:=vO (by rfl');rw[hd]at f2;cases f2;exact .inl ⟨w2 i (by rfl'),back k σ' H' ⟨O2,r2⟩⟩
end
section
variable {P:Program}{w:World}{K:aD}{mg:aE}{base:Heap}
def rho0(n:Nat)(ds:List Dt):Rho:=ds.map (Cell.sh false)++List.replicate (n-ds.length) Cell.no
theorem Rk{X:Cx}{H:Hp}{ds:List Dt}{vs:List V}{N:List Str}(h0:X.H₀=H)(h:Rps X.K emp ds H vs):RepO X H H [] (rho0 N.length ds) (start N vs):=by
 have hl:=h.length;refine⟨w1l,w1l,λa ha=>(nomatch ha),by unfold rho0 start;simp[hl],by rw[h0];exact Same.refl H,by show Same H (hidL [] H);rw[OQ];exact Same.refl H,λi c e=>?_⟩;unfold rho0 at e;unfold start;by_cases hi:i<ds.length
 · rw[wX (by simpa using hi),wF]at e;cases q:ds[i]? with
   | none=>rw[q]at e;cases e
   | some d =>
     rw[q]at e;cases e;obtain⟨v,e1,e2⟩:=h.get q;refine⟨some v,?_,v,rfl,by show Rp X.K emp d (hidL [] H) v;rw[OQ];exact e2⟩;rw[wX (by simp;rfl'),wF,e1];rfl
 · rw[vi (by simp;rfl'),vj]at e;split at e
   · cases e;rename_i hlt;simp at hlt;refine⟨none,?_,trivial⟩;rw[vi (by simp;rfl'),vj,if_pos (by simp;rfl')]
   · cases e
def cOf(np n:Nat)(fr:Bool)(F:FS):FC:=λds=>if ds.length=np then
 (F (rho0 n ds)).bind λoc=>match oc with|.rt f d=>if fr&&!(f.isFr||d.flat) then none else some d|.nx _=>some .non|_=>none
 else none
theorem Fun.data{x qual:Str}{st:Stmt}{f:Addr}{fd:FuncData}{N ps:List Str}{k:Nat}{fr:Bool}{F:FS}(Fu:Fun K x qual st f fd)(S:FnScope N ps (i6 st))
    (body:∀(cdv:Value) (A:Around) (outer:List Env) (s:Shared) (H:Hp) (E:XK),Room k (A.deeper (envOfC qual (i6 st) s.heap.objs.size f cdv)) ->
      PFSs (cxOf CX0 P w K mg base N qual (i6 st) f cdv A outer s H E).nox (K3 st) F):FnOk P w K mg base CX0 (k+1) f fd ps (spc K fr (cOf ps.length N.length fr F)):=by
  refine Fu.ok S (λvs H Q E h=>?_) (λcdv A outer s H vs Q E hr h=>?_)
  · obtain⟨ds,d,r,e,q⟩:=h;unfold cOf at e;split at e
    · rename_i hl;rw[r.length];exact hl
    · cases e
  · obtain⟨ ds,d,r,e,q⟩:=h
    unfold cOf at e;split at e
    · rename_i hl;obtain⟨oc,e1,e2⟩:=j7 e;refine⟨_,body cdv A outer s H E hr,H,rho0 N.length ds,oc,⟨[],Rk rfl r⟩,e1,?_⟩;cases oc with
      | nx ρ=>cases e2;exact λσ H'⟨O,rb⟩=>q _ H' (rb.same.trans A7) (Rp.non_.mpr rfl)
      | bk ρ=>cases e2
      | ct ρ=>cases e2
      | ex C=>cases e2
      | rt f d' =>
        have e2:(if(fr&&!(f.isFr||d'.flat))=true then none else some d')=some d:=e2;split at e2
        · cases e2
        · rename_i hf;cases e2;refine λv H' sm r'=>q v H' sm ?_;cases fr with
          | false=>exact Rp.anti Same.emp _ r'
          | true =>
            have hf:f.isFr=true\/d.flat=true:=by
              cases h1:f.isFr<;>cases h2:d.flat<;>simp[h1,h2]at hf ⊢
            rcases hf with hf|hf
            · rw[hf]at r';exact r'
            · exact Rp.flat d hf r'
    · cases e
theorem ZC{l:PySem.W.OpenLaw}{q:Program}{loose:List Str}{XP:(aE)->Heap->Prop}{YP:World->Heap->Prop}{d:DefRec}{K:Params->aD}{x:Str}{k:Nat}{fr:Bool}{c:FC}(hn:l.most=some 63)(hdf:d.params.defaults=[])
  (hY:∀(w:World) (h:Heap),YP w h->(K w.params).In h)
  (F:∀(w:World) (mg:Str→Option Value) (fa:Addr) (h:Heap),(K w.params).In h→h.Ns mainGlobals mg→mg d.name=some (.ref fa) →
   ∃ fd:FuncData,(∀(s:Shared) (u:Value),BindsTo s fd ⟨[u],[]⟩ [(x,u)])/\∀ base:Heap,(K w.params).In base->base.Ns mainGlobals mg->FnOk l.prog w (K w.params) mg base CX0 k fa fd [x] (spc (K w.params) fr c))
  (hc:∀ ns:aG,ns.length<=63->c [.scr ns]=some (.bl true))
  (hr:Room k callerA):PySem.W.WalkO q loose XP YP l.row.toRowW d [] (λf vs=>PySem.call f vs) :=
 L2.z5d (n:=63) (k:=k) (x:=x) (CX:=λ_=>CX0) (sp:=λw=>spc (K w.params) fr c) hn (by decide) hdf hr hY F
  (λw H a ns hl _ hS=>⟨[.scr ns],_,Rps.one (Rp.scr_.mpr ⟨a,rfl,rfl,hS⟩),hc ns hl,λv H' _ r=>by cases fr<;>exact Rp.bl_.mp r⟩) λ_ _ _ _ _ z=>z
end
def NF(XN:List Str)(xs:List (Str×NameKind))(scope:Scope)(N:List Str)(nt:Nat)(js:List Nat):Bool :=
 decide ((scope.names.map (·.1)).Nodup)&&(N.length==nt+js.length)&&((List.range js.length).all λk=>match js[k]? with
  | some j=>(match N[nt+k]?,XN[j]? with|some x,some y=>x==y&&scope.names.lookup x==some .free|_,_=>false)
  | none=>false)&&scope.names.all λp=>p.2 != .free||xs.lookup p.1==some .cell||xs.lookup p.1==some .free
theorem A6{X:Cx}{N:List Str}{scope:Scope}{nt:Nat}{js:List Nat}(XN:List Str)(xs:List (Str×NameKind))(h1:X.N=XN)(h2:X.env.scope.names=xs)(hk:scope.kind = .function)(c:NF XN xs scope N nt js=true):CompScope X N scope nt js:=by
 unfold NF at c;rw[wR,wR,wR]at c;obtain⟨⟨⟨c1,c2⟩,c3⟩,c4⟩:=c;have nd:=of_decide_eq_true c1;refine⟨hk,nd,λx hx e=>by rw[U8 nd hx,e],beq_iff_eq.mp c2,λk j e=>?_,λx hx e=>?_⟩
 · have hk:k<js.length:=by
     by_cases hk:k<js.length
     · exact hk
     · rw[wJ (by rfl')]at e;cases e
   have z:=uu.mp c3 k (wQ.mpr hk);rw[e]at z;dsimp only at z;rw[h1];cases q1:N[nt+k]? with
   | none=>rw[q1]at z;cases z
   | some x =>
     cases q2:XN[j]? with
     | none=>rw[q1,q2]at z;cases z
     | some y =>
       rw[q1,q2]at z;dsimp only at z;rw[wR]at z;have exy:x=y:=beq_iff_eq.mp z.1;subst exy;exact⟨x,rfl,rfl,beq_iff_eq.mp z.2⟩
 · have z:=uu.mp c4 x hx;rw[e]at z;have z:(xs.lookup x.1==some .cell||xs.lookup x.1==some .free)=true:=by simpa using z
   show X.env.scope.names.lookup x.1=_\/X.env.scope.names.lookup x.1=_;rw[h2];rcases uX _ _ |>.mp z with z|z
   · exact .inl (beq_iff_eq.mp z)
   · exact .inr (beq_iff_eq.mp z)
structure Df(K:aD)(mg:aE)(name:Str)(st:Stmt)(ps:List Str)(f:Addr)(fd:FuncData):Prop where
 fn:Fun K name name st f fd
 mg:mg name=some (.ref f)
 bd:Binds K fd ps []
theorem df_mk{K:aD}{h:Heap}{mg:aE}(X:K.In h)(G:h.Ns mainGlobals mg){x:Str}{st:Stmt}{f:Addr}{oc:Value}{od an:Option Addr}{osl:Array (Option Value)}{kV doc pm cdv ct:Value}{ps:List Str}
  (e:PySem.W.nsIn K mainGlobals x=some (some (.ref f))) (l:K.lookup f=some ⟨oc,od,.func (PySem.W.fnOf x x (T5 st) (K3 st) (i6 st) .none kV doc pm an cdv ct),osl⟩) (c:PySem.W.codeIn K cdv x=true) (k:PySem.W.keepIn K (.ref f)=true)
  (hb:∀(kV doc pm:Value) (an:Option Addr) (cdv ct:Value) (us:aF),us.length=ps.length->bindArgs (PySem.W.fnOf x x (T5 st) (K3 st) (i6 st) .none kV doc pm an cdv ct) ⟨us,[]⟩=pure (ps.zip us)) :
  Df K mg x st ps f (PySem.W.fnOf x x (T5 st) (K3 st) (i6 st) .none kV doc pm an cdv ct) :=
 ⟨z0I l c k,PySem.W.mg_of X G e,(z0I (st:=st) l c k).binds hb⟩
end L2

end
section
namespace ZL
open PySem PyProof.Rows
def ItAt(h:Heap)(tu:Bool)(it l:Addr)(k:Nat):Prop:=if tu then h.IsTupleIter it l k else h.IsListIter it l k
def SqAt(h:Heap)(tu:Bool)(l:Addr)(xs:Array Value):Prop:=if tu then h.IsTuple l xs else h.IsList l xs
section
variable {h h':Heap}{tu:Bool}{it l c:Addr}{k:Nat}{xs:Array Value}
theorem ItAt.at(x:ItAt h tu it l k)(q:∀ o,h.get? it=some o->h'.get? it=some o):ItAt h' tu it l k:=by
 unfold ItAt at x ⊢;cases tu with
 | true=>obtain⟨o,e,r⟩:=x;exact⟨o,q o e,r⟩
 | false=>obtain⟨o,e,r⟩:=x;exact⟨o,q o e,r⟩
theorem SqAt.at(x:SqAt h tu l xs)(q:∀ o,h.get? l=some o->h'.get? l=some o):SqAt h' tu l xs:=by
 unfold SqAt at x ⊢;cases tu with
 | true=>obtain⟨o,e,r⟩:=x;exact⟨o,q o e,r⟩
 | false=>obtain⟨o,e,r⟩:=x;exact⟨o,q o e,r⟩
theorem ItAt.lt(x:ItAt h tu it l k):it<h.objs.size:=by
 unfold ItAt at x;cases tu with
 | true=>obtain⟨o,e,_⟩:=x;exact wt e
 | false=>obtain⟨o,e,_⟩:=x;exact wt e
theorem SqAt.lt(x:SqAt h tu l xs):l<h.objs.size:=by
 unfold SqAt at x;cases tu with
 | true=>obtain⟨o,e,_⟩:=x;exact wt e
 | false=>obtain⟨o,e,_⟩:=x;exact wt e
end
section
variable {prog:Program}{w:World}{A:Around}{E:aC}{s:Shared}
theorem Rl{it t:Addr}{i:Nat}{items:Array Value}{x:Value}{Q:aC}(a:s.heap.IsTupleIter it t i)(b:s.heap.IsTuple t items)(c:items[i]?=some x)
  (q:∀ h',h'.IsTupleIter it t (i+1)->Heap.SameBut it s.heap h'->Q x { s with heap:=h' }):wpAny (model prog w) A (Builtin.SmallTypes.nextOf (.ref it)) Q E s:=by
 obtain⟨o,e1,e2,e3⟩:=id a;obtain⟨p,f1,_,n,f2⟩:=b;unfold Builtin.SmallTypes.nextOf;refine wpAny_bind (wpAny_callSpecial?_slot (name:=Str.ofString "__next__") a.typeIs F.slot_tuple_iterator_next (wpAny_call_entry F.slot_tuple_iterator_next a.typeIs F.entry_tuple_iterator_next ?_ (F.args_tuple_iterator_next_1 _)));show wpAny _ _ (field (.ref it) 0 >>= λz=>_) _ _ s;refine wpAny_bind (wpAny_field e1 e3 (x:=Value.ref t) rfl ?_);show wpAny _ _ (if(Value.ref t==Value.none)=true then _ else _) _ _ s;rw[if_neg (by exact wN)];show wpAny _ _ (field (.ref it) 1 >>= λz=>_) _ _ s;refine wpAny_bind (wpAny_field e1 e3 (x:=Value.int i 0) rfl ?_);show wpAny _ _ (seqItems? (.ref t) >>= λz=>_) _ _ s;refine wpAny_bind (wpAny_seqItems f1 f2 ?_);simp only[w09,c];refine wpAny_bind (wpAny_setField e1 e3 (by simp) (wpAny_pure ⟨x,rfl,wpAny_pure (q _ ⟨_,w0w _ e1 (Obj.isFreed_of_fields (Obj.data_mapFields e3 _)),(Obj.cls_mapFields ..).trans e2,?_⟩ (Heap.SameBut.update ..))⟩));rw[Obj.data_mapFields e3];simp[rawInt]
theorem ZD{it t:Addr}{i:Nat}{items:Array Value}{Q:aC}(hn:A.handled=none)(a:s.heap.IsTupleIter it t i)(b:s.heap.IsTuple t items)(c:items[i]?=none)
  (q:∀ h' e,Heap.ExtBut it s.heap h'->(∃ o,h'.get? e=some o/\o.cls = .type "StopIteration")->E (.ref e) { s with heap:=h' }):wpAny (model prog w) A (Builtin.SmallTypes.nextOf (.ref it)) Q E s:=by
 obtain⟨o,e1,e2,e3⟩:=id a;obtain⟨p,f1,_,n,f2⟩:=b;unfold Builtin.SmallTypes.nextOf;refine wpAny_bind (wpAny_callSpecial?_slot (name:=Str.ofString "__next__") a.typeIs F.slot_tuple_iterator_next (wpAny_call_entry F.slot_tuple_iterator_next a.typeIs F.entry_tuple_iterator_next ?_ (F.args_tuple_iterator_next_1 _)));show wpAny _ _ (field (.ref it) 0 >>= λz=>_) _ _ s;refine wpAny_bind (wpAny_field e1 e3 (x:=Value.ref t) rfl ?_);show wpAny _ _ (if(Value.ref t==Value.none)=true then _ else _) _ _ s;rw[if_neg (by exact wN)];show wpAny _ _ (field (.ref it) 1 >>= λz=>_) _ _ s;refine wpAny_bind (wpAny_field e1 e3 (x:=Value.int i 0) rfl ?_);show wpAny _ _ (seqItems? (.ref t) >>= λz=>_) _ _ s;refine wpAny_bind (wpAny_seqItems f1 f2 ?_);simp only[w09,c];refine wpAny_bind (wpAny_rule (wpAny_bind (wpAny_setField e1 e3 (by simp) ?_)));show wpAny _ _ (newExc (.type "StopIteration") [] >>= λz=>_) _ _ _;refine wpAny_bind ?_;simp only[newExc,newTuple];refine wpAny_bind (wpAny_newObj_type ?_ (by size_fits));refine wpAny_bind (m:=firstArgMember _ _) (wpAny_of_eq (a:=Value.none) (by first|(simp only[firstArgMember];rfl)|rfl) ?_);refine wpAny_newObj_type ?_ (by size_fits);simp only[raiseNew];refine wpAny_bind (wpAny_handled ?_)
 first|rw[hn]|rw[show A.in1.handled=none from hn]
 refine wpAny_bind (wpAny_pure (wpAny_throw ?_));exact q _ _ (((Heap.SameBut.update ..).extBut.push _).push _) ⟨_,wD _ rfl,rfl⟩
theorem LJ{tu:Bool}{it l:Addr}{i:Nat}{items:Array Value}{x:Value}{Q:Option Value->Shared->Prop}(a:ItAt s.heap tu it l i)(b:SqAt s.heap tu l items)(c:items[i]?=some x)
  (q:∀ h',ItAt h' tu it l (i+1)->Heap.SameBut it s.heap h'->Q (some x) { s with heap:=h' }):wpAny (model prog w) A (Builtin.SmallTypes.nextOrEnd (.ref it)) Q E s:=by
 unfold Builtin.SmallTypes.nextOrEnd;cases tu with
 | true=>exact wpAny_bind (wpAny_attempt (Rl a b c λh' p1 p2=>wpAny_pure (q h' p1 p2)))
 | false=>exact wpAny_bind (wpAny_attempt (wpAny_nextOf_list_item a b c λh' p1 p2=>wpAny_pure (q h' p1 p2)))
theorem OY{tu:Bool}{it l:Addr}{i:Nat}{items:Array Value}{Q:Option Value->Shared->Prop}(hn:A.handled=none)(a:ItAt s.heap tu it l i)(b:SqAt s.heap tu l items)(c:items[i]?=none)
  (q:∀ h',Heap.ExtBut it s.heap h'->Q none { s with heap:=h' }):wpAny (model prog w) A (Builtin.SmallTypes.nextOrEnd (.ref it)) Q E s:=by
 unfold Builtin.SmallTypes.nextOrEnd;cases tu with
 | true=>exact wpAny_bind (wpAny_attempt (ZD hn a b c λh' e p1⟨o,p2,p3⟩=>wpAny_bind (wpAny_isInstance (T := "StopIteration") (b:=true) ⟨o,p2,p3⟩ isSubtype_stop (wpAny_pure (q h' p1)))))
 | false=>exact wpAny_bind (wpAny_attempt (wpAny_nextOf_list_end hn a b c λh' e p1⟨o,p2,p3⟩=>wpAny_bind (wpAny_isInstance (T := "StopIteration") (b:=true) ⟨o,p2,p3⟩ isSubtype_stop (wpAny_pure (q h' p1)))))
def U2(h:Heap)(z ti to:Addr)(f:Value):Prop:=h.get? z=some { cls := .type "zip",dict:=none,data := .fields #[f,.bool false,.bool true,.ref ti,.ref to],slots:=#[] }
structure Apart(z ti to i j a b:Addr):Prop where
 p1:ti≠z
 p2:to≠z
 p3:i≠z
 p4:j≠z
 p5:ti≠to
 p6:ti≠i
 p7:ti≠j
 p8:to≠i
 p9:to≠j
 p10:i≠j
 a1:a≠z
 a2:a≠to
 a3:a≠i
 a4:a≠j
 b1:b≠z
 b2:b≠to
 b3:b≠i
 b4:b≠j
def zEnd(l:aF)(n:Nat):Sem PySem.Fin:=do
 if n > 0 then
  rule "zip.__next__.shorter";raiseError "ValueError" s!"zip() argument {n + 1} is shorter than {if n == 1 then "argument 1" else s!"arguments 1-{n}"}"
 for (e,m) in (l.drop 1).zipIdx 1 do
  if(←Builtin.SmallTypes.nextOrEnd e).isSome then
   rule "zip.__next__.longer";raiseError "ValueError" s!"zip() argument {m + 1} is longer than {if m == 1 then "argument 1" else s!"arguments 1-{m}"}"
 rule "zip.__next__.all-ended";Builtin.SmallTypes.stopIteration
theorem z0Z{z ti to i j a b:Addr}{ta tb:Bool}{k:Nat}{xs ys:Array Value}{x y u v:Value}{Q:aC}(D:Apart z ti to i j a b)
  (hz:U2 s.heap z ti to .none) (hI:IsPair s.heap ti (.ref i) (.ref j)) (hO:IsPair s.heap to u v) (hi:ItAt s.heap ta i a k) (hj:ItAt s.heap tb j b k) (ha:SqAt s.heap ta a xs) (hb:SqAt s.heap tb b ys) (hx:xs[k]?=some x) (hy:ys[k]?=some y)
  (hQ:∀ h',U2 h' z ti to (rawInt s.heap.objs.size)→IsPair h' to x y→ItAt h' ta i a (k+1)→ItAt h' tb j b (k+1)→IsPair h' s.heap.objs.size x y→h'.objs.size=s.heap.objs.size+1 →
   (∀ c o,c≠z->c≠to->c≠i->c≠j->s.heap.get? c=some o->h'.get? c=some o)->Q (.ref s.heap.objs.size) { s with heap:=h' }) :
  wpAny (model prog w) A (Builtin.«zip.__next__» ⟨[.ref z],[]⟩) (λfin s'=>∃ v,fin = .done (.ret v)/\Q v s') E s:=by
 show wpAny _ _ (field (.ref z) 2 >>= λt=>_) _ _ _;refine wpAny_bind (wpAny_field hz rfl (x:=Value.bool true) rfl ?_);show wpAny _ _ (field (.ref z) 3 >>= λt=>_) _ _ _;refine wpAny_bind (wpAny_field hz rfl (x:=Value.ref ti) rfl ?_);refine wpAny_bind (wpAny_seqItems hI rfl ?_);show wpAny _ _ (Builtin.SmallTypes.ownedTupleIsFree (.ref z) >>= λt=>_) _ _ _;refine wpAny_bind ?_;unfold Builtin.SmallTypes.ownedTupleIsFree;refine wpAny_bind (wpAny_field hz rfl (x:=Value.none) rfl (wpAny_pure ?_));simp only[if_true];refine wpAny_bind (wpAny_rule ?_);refine wpAny_bind (wpAny_field hz rfl (x:=Value.ref to) rfl ?_);refine wpAny_bind (wpAny_setField_rec hz (by simp) λg1 z1 m1=>?_);replace z1:U2 g1 z ti to .ellipsis:=z1;refine wpAny_bind ?_;simp only[w0Z,uW,w1f,uK];refine wpAny_bind (wpAny_bind (wpAny_onRaise ?_));show wpAny _ _ (Builtin.SmallTypes.nextOrEnd (.ref i)) _ _ _;refine LJ (hi.at λo e=>m1.extBut _ _ D.p3 e) (ha.at λo e=>m1.extBut _ _ D.a1 e) hx λg2 i2 m2=>?_;have o2:IsPair g2 to u v:=m2.extBut _ _ D.p8 (m1.extBut _ _ D.p2 hO);refine wpAny_bind (wpAny_seqItems o2 rfl ?_);refine wpAny_bind (wpAny_updateSeq_pair o2 λg3 o3 m3=>?_);replace o3:IsPair g3 to x v:=o3;refine wpAny_bind (wpAny_letGo (wpAny_pure ?_));refine wpAny_bind (wpAny_bind (wpAny_onRaise ?_));show wpAny _ _ (Builtin.SmallTypes.nextOrEnd (.ref j)) _ _ _;refine LJ (hj.at λo e=>m3.extBut _ _ D.p9.symm (m2.extBut _ _ D.p10.symm (m1.extBut _ _ D.p4 e))) (hb.at λo e=>m3.extBut _ _ D.b2 (m2.extBut _ _ D.b3 (m1.extBut _ _ D.b1 e))) hy λg4 j4 m4=>?_;have o4:IsPair g4 to x v:=m4.extBut _ _ D.p9 o3;refine wpAny_bind (wpAny_seqItems o4 rfl ?_);refine wpAny_bind (wpAny_updateSeq_pair o4 λg5 o5 m5=>?_);replace o5:IsPair g5 to x y:=o5;refine wpAny_bind (wpAny_letGo (wpAny_pure (wpAny_pure ?_)));refine wpAny_bind (wpAny_seqItems o5 rfl ?_);refine wpAny_bind (wpAny_newTuple ?_);have sz:g5.objs.size=s.heap.objs.size:=by rw[m5.1,m4.1,m3.1,m2.1,m1.1]
 have z5:U2 g5 z ti to .ellipsis:=m5.extBut _ _ D.p2.symm (m4.extBut _ _ D.p4.symm (m3.extBut _ _ D.p2.symm (m2.extBut _ _ D.p3.symm z1)));have k5:∀ c o,c≠z->c≠to->c≠i->c≠j->s.heap.get? c=some o->g5.get? c=some o:=λc o c1 c2 c3 c4 e=>m5.extBut _ _ c2 (m4.extBut _ _ c4 (m3.extBut _ _ c2 (m2.extBut _ _ c3 (m1.extBut _ _ c1 e))));have i5:ItAt g5 ta i a (k+1):=i2.at λo e=>m5.extBut _ _ D.p8.symm (m4.extBut _ _ D.p10 (m3.extBut _ _ D.p8.symm e));have j5:ItAt g5 tb j b (k+1):=j4.at λo e=>m5.extBut _ _ D.p9.symm e;have zl:z<g5.objs.size:=wt z5;show wpAny _ _ (Builtin.SmallTypes.ownedTupleHandOut (.ref z) (.ref g5.objs.size) >>= λt=>_) _ _ _;refine wpAny_bind ?_;unfold Builtin.SmallTypes.ownedTupleHandOut;have z6:U2 (g5.push { cls := .type "tuple",data := .seq #[x,y] }) z ti to .ellipsis:=wf _ z5;refine wpAny_bind (wpAny_setField_rec z6 (by simp) λg7 z7 m7=>?_);replace z7:U2 g7 z ti to (rawInt g5.objs.size):=z7;refine wpAny_setField_rec z7 (by simp) λg8 z8 m8=>?_;replace z8:U2 g8 z ti to (rawInt g5.objs.size):=z8;have up:∀ c o,c≠z->g5.get? c=some o->g8.get? c=some o:=λc o c1 e=>m8.extBut _ _ c1 (m7.extBut _ _ c1 (wf _ e));have t8:IsPair g8 g5.objs.size x y:=m8.extBut _ _ (uI zl) (m7.extBut _ _ (uI zl) (wD _ rfl));have s8:g8.objs.size=g5.objs.size+1:=by rw[m8.1,m7.1,vE]
 rw[sz]at z8 t8 s8;refine wpAny_pure ⟨_,rfl,?_⟩;show Q (.ref g5.objs.size) _;rw[sz];exact hQ g8 z8 (up _ _ D.p2 o5) (i5.at λo e=>up _ o D.p3 e) (j5.at λo e=>up _ o D.p4 e) t8 s8 λc o c1 c2 c3 c4 e=>up c o c1 (k5 c o c1 c2 c3 c4 e)
theorem z5p{z ti to i j a b:Addr}{ta tb:Bool}{k:Nat}{xs ys:Array Value}{u v:Value}{Q:Fin->Shared->Prop}(hn:A.handled=none)(D:Apart z ti to i j a b)
  (hz:U2 s.heap z ti to .none) (hI:IsPair s.heap ti (.ref i) (.ref j)) (hO:IsPair s.heap to u v) (hi:ItAt s.heap ta i a k) (hj:ItAt s.heap tb j b k) (ha:SqAt s.heap ta a xs) (hb:SqAt s.heap tb b ys) (hx:xs[k]?=none) (hy:ys[k]?=none)
  (hE:∀ h' e,(∀ c o,c≠z->c≠to->c≠i->c≠j->s.heap.get? c=some o->h'.get? c=some o)->(∃ o,h'.get? e=some o/\o.cls = .type "StopIteration")->E (.ref e) { s with heap:=h' }) :
  wpAny (model prog w) A (Builtin.«zip.__next__» ⟨[.ref z],[]⟩) Q E s:=by
 show wpAny _ _ (field (.ref z) 2 >>= λt=>_) _ _ _;refine wpAny_bind (wpAny_field hz rfl (x:=Value.bool true) rfl ?_);show wpAny _ _ (field (.ref z) 3 >>= λt=>_) _ _ _;refine wpAny_bind (wpAny_field hz rfl (x:=Value.ref ti) rfl ?_);refine wpAny_bind (wpAny_seqItems hI rfl ?_);show wpAny _ _ (Builtin.SmallTypes.ownedTupleIsFree (.ref z) >>= λt=>_) _ _ _;refine wpAny_bind ?_;unfold Builtin.SmallTypes.ownedTupleIsFree;refine wpAny_bind (wpAny_field hz rfl (x:=Value.none) rfl (wpAny_pure ?_));simp only[if_true];refine wpAny_bind (wpAny_rule ?_);refine wpAny_bind (wpAny_field hz rfl (x:=Value.ref to) rfl ?_);refine wpAny_bind (wpAny_setField_rec hz (by simp) λg1 z1 m1=>?_);replace z1:U2 g1 z ti to .ellipsis:=z1;refine wpAny_bind ?_;simp only[w0Z,uW,w1f,uK];refine wpAny_bind (wpAny_bind (wpAny_onRaise ?_));show wpAny _ _ (Builtin.SmallTypes.nextOrEnd (.ref i)) _ _ _;refine OY hn (hi.at λo e=>m1.extBut _ _ D.p3 e) (ha.at λo e=>m1.extBut _ _ D.a1 e) hx λg2 m2=>?_;have z2:U2 g2 z ti to .ellipsis:=m2 _ _ D.p3.symm z1;refine wpAny_bind (wpAny_setField_rec z2 (by simp) λg3 z3 m3=>?_);refine wpAny_bind ?_;show wpAny _ _ (zEnd [.ref i,.ref j] 0) _ _ _;unfold zEnd;rw[if_neg (vB 0)];show wpAny _ _ (forIn [(Value.ref j,1)] PUnit.unit _ >>= λt=>_) _ _ _;simp only[uW,uK];refine wpAny_bind (wpAny_bind (wpAny_bind (OY hn (hj.at λo e=>m3.extBut _ _ D.p4 (m2 _ _ D.p10.symm (m1.extBut _ _ D.p4 e))) (hb.at λo e=>m3.extBut _ _ D.b1 (m2 _ _ D.b3 (m1.extBut _ _ D.b1 e))) hy λg4 m4=>?_)));simp only[Option.isSome_none,w03,if_false];refine wpAny_pure (wpAny_pure (wpAny_bind (wpAny_rule ?_)));unfold Builtin.SmallTypes.stopIteration;refine wpAny_bind ?_;simp only[newExc,newTuple];refine wpAny_bind (wpAny_newObj_type ?_ (by size_fits));refine wpAny_bind (m:=firstArgMember _ _) (wpAny_of_eq (a:=Value.none) (by first|(simp only[firstArgMember];rfl)|rfl) ?_);refine wpAny_newObj_type ?_ (by size_fits);simp only[raiseNew];refine wpAny_bind (wpAny_handled ?_)
 first|rw[hn]|rw[show A.in1.handled=none from hn]
 refine wpAny_bind (wpAny_pure (wpAny_throw ?_));refine hE _ _ (λc o c1 c2 c3 c4 e=>?_) ⟨_,wD _ rfl,rfl⟩;exact wf _ (wf _ (m4 _ _ c4 (m3.extBut _ _ c1 (m2 _ _ c3 (m1.extBut _ _ c1 e)))))
theorem ZE{z ti to i j a b:Addr}{ta tb:Bool}{k:Nat}{xs ys:Array Value}{x y u v:Value}{Q:Option Value->Shared->Prop}(D:Apart z ti to i j a b)
  (hz:U2 s.heap z ti to .none) (hI:IsPair s.heap ti (.ref i) (.ref j)) (hO:IsPair s.heap to u v) (hi:ItAt s.heap ta i a k) (hj:ItAt s.heap tb j b k) (ha:SqAt s.heap ta a xs) (hb:SqAt s.heap tb b ys) (hx:xs[k]?=some x) (hy:ys[k]?=some y)
  (hQ:∀ h',U2 h' z ti to (rawInt s.heap.objs.size)→IsPair h' to x y→ItAt h' ta i a (k+1)→ItAt h' tb j b (k+1)→IsPair h' s.heap.objs.size x y→h'.objs.size=s.heap.objs.size+1 →
   (∀ c o,c≠z->c≠to->c≠i->c≠j->s.heap.get? c=some o->h'.get? c=some o)->Q (some (.ref s.heap.objs.size)) { s with heap:=h' }):wpAny (model prog w) A (pyNext (.ref z)) Q E s:=by
 have t:s.TypeIs (.ref z) "zip" := ⟨_,hz,rfl⟩;unfold pyNext;exact wpAny_bind (wpAny_attempt (wpAny_callSpecial?_slot (name:=Str.ofString "__next__") t F.slot_zip_next (wpAny_call_entry F.slot_zip_next t F.entry_zip_next
  (z0Z D hz hI hO hi hj ha hb hx hy λh' q1 q2 q3 q4 q5 q6 q7=>wpAny_pure (hQ h' q1 q2 q3 q4 q5 q6 q7)) (F.args_zip_next_1 _))))
theorem z10{z ti to i j a b:Addr}{ta tb:Bool}{k:Nat}{xs ys:Array Value}{u v:Value}{Q:Option Value->Shared->Prop}(hn:A.handled=none)(D:Apart z ti to i j a b)
  (hz:U2 s.heap z ti to .none) (hI:IsPair s.heap ti (.ref i) (.ref j)) (hO:IsPair s.heap to u v) (hi:ItAt s.heap ta i a k) (hj:ItAt s.heap tb j b k) (ha:SqAt s.heap ta a xs) (hb:SqAt s.heap tb b ys) (hx:xs[k]?=none) (hy:ys[k]?=none)
  (hQ:∀ h',(∀ c o,c≠z->c≠to->c≠i->c≠j->s.heap.get? c=some o->h'.get? c=some o)->Q none { s with heap:=h' }):wpAny (model prog w) A (pyNext (.ref z)) Q E s:=by
 have t:s.TypeIs (.ref z) "zip" := ⟨_,hz,rfl⟩;unfold pyNext;refine wpAny_bind (wpAny_attempt (wpAny_callSpecial?_slot (name:=Str.ofString "__next__") t F.slot_zip_next (wpAny_call_entry F.slot_zip_next t F.entry_zip_next
  (z5p hn D hz hI hO hi hj ha hb hx hy λh' e q1⟨o,q2,q3⟩=>?_) (F.args_zip_next_1 _))))
 exact wpAny_bind (wpAny_isInstance (T := "StopIteration") (b:=true) ⟨o,q2,q3⟩ isSubtype_stop (wpAny_pure (hQ _ q1)))
theorem let_go{elts:List Expr}{n:Nat}{pos:Pos}{z ti to t:Addr}{Q:Unit->Shared->Prop}(hz:U2 s.heap z ti to (rawInt t))
  (hQ:∀ h',U2 h' z ti to .none->Heap.SameBut z s.heap h'->Q () { s with heap:=h' }):wpAny (model prog w) A (letOwnedTupleGo (.Tuple elts n pos) (.ref z) (.ref t)) Q E s:=by
 unfold letOwnedTupleGo;refine wpAny_bind (wpAny_load hz ?_);show wpAny _ _ (if(["enumerate", "zip", "dict_itemiterator", "dict_reverseitemiterator", "odict_iterator", "itertools.zip_longest", "itertools.pairwise"].contains "zip" && (#[rawInt t,.bool false,.bool true,.ref ti,.ref to]:Array Value)[0]?==some (rawInt t))=true then _ else _) Q E s;rw[if_pos (by simp)];refine wpAny_bind (wpAny_rule ?_);show wpAny _ _ (setField (.ref z) 0 .none) Q E s;exact wpAny_setField_rec hz (by simp) λh' q1 q2=>hQ h' q1 q2
theorem OZ{z ti to:Addr}{f:Value}{Q:aC}(hz:U2 s.heap z ti to f)(h:Q (.ref z) s):wpAny (model prog w) A (pyIter (.ref z)) Q E s:=by
 have t:s.TypeIs (.ref z) "zip" := ⟨_,hz,rfl⟩;refine wpAny_pyIter_slot t F.slot_zip_iter (wpAny_call_entry F.slot_zip_iter t F.entry_zip_iter ?_ (F.args_zip_iter_1 _));show wpAny _ _ (ret (.ref z)) _ _ s;exact wpAny_pure ⟨_,rfl, "zip",_,t,F.slot_zip_next.lookup,h⟩
def Pa(tu:Bool)(l:Addr):Obj:={ cls := .type (if tu then "tuple_iterator" else "list_iterator"),data := .fields #[.ref l,.int 0 0] }
theorem Pb{tu:Bool}{l:Addr}{xs:Array Value}{Q:aC}(h:SqAt s.heap tu l xs)(q:Q (.ref s.heap.objs.size) { s with heap:=s.heap.push (Pa tu l) }):wpAny (model prog w) A (pyIter (.ref l)) Q E s:=by
 cases tu with
 | true=>exact wpAny_pyIter_tuple h q
 | false=>exact wpAny_pyIter_list h q
theorem Pc{h:Heap}{tu:Bool}{l p:Addr}(e:h.get? p=some (Pa tu l)):ItAt h tu p l 0:=by
 unfold ItAt;cases tu with
 | true=>exact⟨_,e,rfl,rfl⟩
 | false=>exact⟨_,e,rfl,rfl⟩
abbrev h1(h:Heap)(ta:Bool)(a:Addr):Heap:=h.push (Pa ta a)
abbrev h2(h:Heap)(ta tb:Bool)(a b:Addr):Heap:=(h1 h ta a).push (Pa tb b)
abbrev h3(h:Heap)(ta tb:Bool)(a b:Addr):Heap:=(h2 h ta tb a b).push { cls := .type "tuple",data := .seq #[.ref h.objs.size,.ref (h1 h ta a).objs.size] }
abbrev h4(h:Heap)(ta tb:Bool)(a b:Addr):Heap:=(h3 h ta tb a b).push { cls := .type "tuple",data := .seq #[.none,.none] }
abbrev h5(h:Heap)(ta tb:Bool)(a b:Addr):Heap:=(h4 h ta tb a b).push { cls := .type "zip",data := .fields #[.none,.bool false,.bool true,.ref (h2 h ta tb a b).objs.size,.ref (h3 h ta tb a b).objs.size] }
theorem ZF(a b:Addr)(ta tb:Bool)(xs ys:Array Value):Meets (Builtin.«zip.__new__» ⟨[.type "zip",.ref a,.ref b],[(Str.ofString "strict",.bool true)]⟩)
  (λ_ R s=>SqAt s.heap ta a xs/\SqAt s.heap tb b ys/\R (.ok (.ret (.ref (h4 s.heap ta tb a b).objs.size))) { s with heap:=h5 s.heap ta tb a b }) :=
 .of_wp λprog w A R s⟨qa,qb,q⟩=>by
  obtain⟨hp,g,d,tk,os⟩:=s;have f1:=sub_zip;have e1:SqAt (Shared.heap ⟨hp,g,d,tk,os⟩) ta a xs:=qa;have e2:SqAt (Shared.heap ⟨hp.push (Pa ta a),g,d,tk,os⟩) tb b ys:=qb.at λo e=>wf _ e
  wp_walk using Pb e1,Pb e2
  exact⟨_,rfl,q⟩
end
end ZL

end
section
set_option maxHeartbeats 4000000
namespace ZL
open PySem PyProof.Rows
theorem okT(a b v:Value):checkTypeCall "zip" ⟨[a,b],[(Str.ofString "strict",v)]⟩=pure ():=by kernel_rfl
theorem okN(a b v:Value):checkBuiltinCall "zip.__new__" ⟨[.type "zip",a,b],[(Str.ofString "strict",v)]⟩=pure ():=by kernel_rfl
theorem okI(a b c v:Value):argsOk "object.__init__" ⟨[a,b,c],[(Str.ofString "strict",v)]⟩:=by
 unfold argsOk;rw[signature?_of (id := "object.__init__") (n := "__init__".toList.reverse) (o := "object".toList.reverse) (by kernel_rfl) F.owner_object];kernel_rfl
section
variable {prog:Program}{w:World}{A:Around}{E:aC}{s:Shared}
theorem Rm(self a b v:Value):Meets (Builtin.«object.__init__» ⟨[self,a,b],[(Str.ofString "strict",v)]⟩) (λ_ R s=>s.TypeIs self "zip" /\ R (.ok (.ret .none)) s):=by
 refine Meets.of_wp ?_;rintro prog w A R s ⟨t,q⟩;have hl:=F.called_zip.init.lookup;have hm:=F.called_zip.made;have hne:(some "zip.__new__" != some "object.__new__")=true:=by decide
 repeat (any_goals first|assumption|wp_step)
 exact⟨_,rfl,q⟩
theorem z11{a b:Addr}{ta tb:Bool}{xs ys:Array Value}{Q:aC}(qa:SqAt s.heap ta a xs)(qb:SqAt s.heap tb b ys)
   (q:Q (.ref (h4 s.heap ta tb a b).objs.size) { s with heap:=h5 s.heap ta tb a b }):wpAny (model prog w) A (call (.type "zip") [.ref a,.ref b] [(Str.ofString "strict",.bool true)]) Q E s:=by
 obtain⟨c,tl,hmro⟩:=F.called_zip.mro;have m1:=F.called_zip.made;have m2:=F.called_zip.sub;have m3:=okT (.ref a) (.ref b) (.bool true);refine wpAny_call (codeAny_of_tree ?_);show wpAny _ _ (callAny (.type "zip") _) _ _ _;refine wpAny_pure ⟨Code.quiet_builtin _ (by decide +kernel),codeAny_builtin F.entry_type_call ?_⟩;rw[Around.under_plain (weight_type_call_type "zip" _ _) (units_type_call_type "zip" _ _)];have m4:=F.called_zip.notType;have m5:=F.called_zip.canCreate
 repeat (any_goals first|assumption|wp_step)
 refine codeAny_mono (codeAny_call_builtin F.called_zip.plain F.entry_zip_new (wpAny_of_eq (okN _ _ _) (ZF a b ta tb xs ys prog w A.in1 (wants (λo s1=>s1.TypeIs o "zip" /\ Q o s1) E) s ⟨qa,qb,?_⟩))) λr s1 hr=>?_
 · exact⟨⟨_,wD _ rfl,rfl⟩,q⟩
 cases r with
 | error e=>exact hr
 | ok fl =>
   cases fl with
   | ret o =>
    obtain⟨ty,hq⟩:=hr;have n1:=F.called_zip.init.lookup;have n2:=F.called_zip.init.bind o
    repeat (any_goals first|assumption|wp_step)
    refine codeAny_mono (codeAny_call_builtin F.called_zip.init.plain F.entry_object_init (F.called_zip.init.check _ _ _ _ _ _ _ _ ty (okI o _ _ _) (Rm o _ _ _ prog w A.in1 (wants (λr s2=>r = .none/\Q o s2) E) s1 ⟨ty,rfl,hq⟩))) λr2 s2 hr2=>?_;cases r2 with
    | error e=>exact hr2
    | ok f2 =>
     cases f2 with
     | ret r =>
      obtain⟨rfl,hq⟩:=hr2
      repeat (any_goals first|assumption|wp_step)
     | _=>exact hr2.elim
   | _=>exact hr.elim
end
end ZL

end
section
local macro_rules|`(tactic|rfl')=>`(tactic|first|lia|omega +splitDisjunctions)
set_option maxHeartbeats 1000000
namespace L2
open PySem PySem.Spec PyProof.Rows ZL
section
variable {X:Cx}{π:aB}{σ:St}{H:Hp}{s:Shared}{h':Heap}
theorem Inv.turnedL{t':Nat}{ch:List Addr}(I:Inv X π σ H s)(k:∀ b o,b ∉ ch->s.heap.get? b=some o->h'.get? b=some o)(hc:∀ b∈ch,FpOk X π H b):Inv X π σ H { s with heap:=h',toks:=t' }:=by
 have nit:∀ b u,H b=some u->b ∉ ch:=λb u e z=>by rw[(hc b z).1]at e;cases e
 refine I.step (g':=s.gens) (d':=s.drawn) (ch:=ch) (λb hb=>?_) (λb o _ _ hn e _=>k b o hn e) (λb o _ _ hn e _=>⟨o.slots,k b o hn e⟩) (λ_ _ _ _ n=>n)
   (λb o hn e=>⟨o,k b o hn e⟩) (λ_ _ e=>e) (λ_ _ _ e=>e) (λb ps e=>⟨#[],by rw[e];simp⟩) (λm hm=>?_) (λb u e=>?_) I.bare
 · obtain⟨f0,f1,f2,f3,f4,f5⟩:=hc b hb;exact⟨f3,f1,f4,f5⟩
 · obtain⟨o,es,ep,ho,r⟩:=hm;exact⟨o,es,ep,k _ o (λz=>(hc _ z).2.1 rfl) ho,r⟩
 · refine(I.hok b u e).stay (λc v hcc q=>k c v ?_ q) (λ_ q=>q) λ_ _ q=>q;rcases hcc with z|z
   · rw[z];exact nit b u e
   · exact nit c _ z
theorem Inv.pair{t':Nat}{ch:List Addr}{x y:V}{u v:Value}(I:Inv X π σ H s)(rx:RelV x u)(ry:RelV y v)(hp:h'.get? s.heap.objs.size=some { cls := .type "tuple",data := .seq #[u,v] })
   (k:∀ b o,b ∉ ch->s.heap.get? b=some o->h'.get? b=some o) (hc:∀ b∈ch,FpOk X π H b) (hl:∀ b∈ch,b<s.heap.objs.size) :
   H s.heap.objs.size=none/\Inv X π σ (upd H s.heap.objs.size (.tup [x,y])) { s with heap:=h',toks:=t' }:=by
 have hn:H s.heap.objs.size=none:=I.hok.fresh (wu _);have I1:Inv X π σ (upd H s.heap.objs.size (.tup [x,y])) { s with heap:=s.heap.push { cls := .type "tuple",data := .seq #[u,v] },toks:=t' } :=
   I.laid (λb o e=>wf _ e) (wu _) ⟨by show 2<=sizeLine;decide,[u,v],.cons rx (.cons ry .nil),⟨_,wD _ rfl,rfl,_,rfl⟩⟩
 refine⟨hn,Inv.turnedL (s:={ s with heap:=s.heap.push { cls := .type "tuple",data := .seq #[u,v] },toks:=t' }) (h':=h') (t':=t') (ch:=ch) I1 (λb o hb e=>?_) λb hb=>?_⟩
 · by_cases q:b=s.heap.objs.size
   · subst q;have e2:(s.heap.push { cls := .type "tuple",data := .seq #[u,v] }).get? s.heap.objs.size=some _:=wD _ rfl;have e:(s.heap.push { cls := .type "tuple",data := .seq #[u,v] }).get? s.heap.objs.size=some o:=e;rw[e2]at e;rw[hp];exact e
   · refine k b o hb ?_;have e:(s.heap.push { cls := .type "tuple",data := .seq #[u,v] }).get? b=some o:=e;rw[w0O _ _ _ q]at e;exact e
 · obtain⟨f0,f⟩:=hc b hb;exact⟨by rw[w6 (wU (hl b hb))];exact f0,f⟩
end
def SqV(K:aD)(tu:Bool)(H:Hp)(a:Addr)(xs:List V):Prop:=if tu then SqT K H a xs else SqL K H a xs
theorem SqV.mono{K:aD}{tu:Bool}{H H':Hp}{a:Addr}{xs:List V}(e:Same H H')(h:SqV K tu H a xs):SqV K tu H' a xs:=by
 unfold SqV at h ⊢;cases tu with
 | true=>exact e.seqT h
 | false=>exact e.seq h
theorem Inv.sq{X:Cx}{π:aB}{σ:St}{H:Hp}{s:Shared}{tu:Bool}{a:Addr}{xs:List V}(I:Inv X π σ H s)(h:SqV X.K tu H a xs):∃ its:aF,Vals xs its/\SqAt s.heap tu a its.toArray/\xs.length<=sizeLine:=by
 unfold SqV at h;unfold SqAt;cases tu with
 | true=>obtain⟨its,r,p,z⟩:=I.tuple h;exact⟨its,r,p,z⟩
 | false=>obtain⟨its,r,p,z⟩:=I.list h;exact⟨its,r,p.isList,z⟩
theorem Inv.sq_inj{X:Cx}{π:aB}{σ:St}{H:Hp}{s:Shared}{tu:Bool}{a:Addr}{xs ys:List V}(I:Inv X π σ H s)(h:SqV X.K tu H a xs)(h':SqV X.K tu H a ys):xs=ys:=by
 unfold SqV at h h';cases tu with
 | true=>exact I.tuple_inj h h'
 | false=>exact I.list_inj h h'
def Itz(K:aD)(ta tb:Bool)(a b:Addr):It where
 go:=λi H=>∃ xs ys x y,SqV K ta H a xs/\SqV K tb H b ys/\xs[i]?=some x/\ys[i]?=some y
 yld:=λi H v H'=>∃ p x y,(∀ xs,SqV K ta H a xs->xs[i]?=some x)/\(∀ ys,SqV K tb H b ys->ys[i]?=some y)/\H p=none/\v = .ref p/\H'=upd H p (.tup [x,y])
 stop:=λi H=>∃ xs ys,SqV K ta H a xs/\SqV K tb H b ys/\xs.length<=i/\ys.length<=i
theorem mem5{z ti to i j c:Addr}(h:c ∉ [z,ti,to,i,j]):c≠z/\c≠ti/\c≠to/\c≠i/\c≠j:=by simpa using h
theorem z12{P:Program}{w:World}{K:aD}{elts:List Expr}{n:Nat}{pos:Pos}{ta tb:Bool}{z ti to i j a b:Addr}(D:Apart z ti to i j a b):
  Turn P w K (.Tuple elts n pos) (Itz K ta tb a b) [z,ti,to,i,j] z (λk h=>U2 h z ti to .none/\IsPair h ti (.ref i) (.ref j)/\(∃ u v,IsPair h to u v)/\ItAt h ta i a k/\ItAt h tb j b k) where
 mem:=by simp
 obj:=λk h ⟨q1,q2,⟨u,v,q3⟩,q4,q5⟩ c hc=>by
  have it:∀{tu:Bool} {it l:Addr} {k:Nat},ItAt h tu it l k->∃ o,h.get? it=some o/\∀ v,o.data ≠ .cell v:=λ{tu it l k} q=>by
    unfold ItAt at q;cases tu with
    | true=>obtain⟨o,e,_,d⟩:=q;exact⟨o,e,λv z=>by rw[d]at z;cases z⟩
    | false=>obtain⟨o,e,_,d⟩:=q;exact⟨o,e,λv z=>by rw[d]at z;cases z⟩
  simp only[wq,vZ,or_false]at hc;rcases hc with rfl|rfl|rfl|rfl|rfl
  · exact⟨_,q1,λv z=>by have z':Data.fields _=Data.cell v:=z;cases z'⟩
  · exact⟨_,q2,λv z=>by have z':Data.seq _ _=Data.cell v:=z;cases z'⟩
  · exact⟨_,q3,λv z=>by have z':Data.seq _ _=Data.cell v:=z;cases z'⟩
  · exact it q4
  · exact it q5
 keep:=λk h h' ⟨q1,q2,⟨u,v,q3⟩,q4,q5⟩ kk=>⟨kk z (by simp) _ q1,kk ti (by simp) _ q2,⟨u,v,kk to (by simp) _ q3⟩,q4.at λo e=>kk i (by simp) o e,q5.at λo e=>kk j (by simp) o e⟩
 item:=by
  intro X hP hw hK hc k π s σ H E I hf ⟨q1,q2,⟨u,v,q3⟩,q4,q5⟩ hg;subst hP hw hK;obtain⟨xs,ys,x,y,hx,hy,ex,ey⟩:=hg;obtain⟨its,rx,px,_⟩:=I.sq hx;obtain⟨jts,ry,py,_⟩:=I.sq hy;obtain⟨ux,hux,rux⟩:=rx.get ex;obtain⟨uy,huy,ruy⟩:=ry.get ey;have lt:∀ b∈[z,ti,to,i,j],b<s.heap.objs.size:=λb hb=>by
    simp only[wq,vZ,or_false]at hb;rcases hb with rfl|rfl|rfl|rfl|rfl
    · exact wt q1
    · exact wt q2
    · exact wt q3
    · exact q4.lt
    · exact q5.lt
  refine ZE D q1 q2 q3 q4 q5 px py (x:=ux) (y:=uy) (by simpa using hux) (by simpa using huy) λh' a1 a2 a3 a4 a5 a6 a7=>⟨_,rfl,let_go a1 λh'' b1 b2=>?_⟩;have hzp:s.heap.objs.size≠z:=uI (lt z (by simp));have kk:∀ b o,b ∉ [z,ti,to,i,j]->s.heap.get? b=some o->h''.get? b=some o:=λb o hb e=>by
    obtain⟨c1,c2,c3,c4,c5⟩:=mem5 hb;exact b2.extBut _ _ c1 (a7 b o c1 c3 c4 c5 e)
  obtain⟨hn,I1⟩:=I.pair (t':=s.toks) (h':=h'') rux ruy (b2.extBut _ _ hzp a5) kk hf lt;refine⟨.ref s.heap.objs.size,_,I1,rfl,⟨_,x,y,λzs hz=>by rw[I.sq_inj hz hx];exact ex,λzs hz=>by rw[I.sq_inj hz hy];exact ey,hn,rfl,rfl⟩,?_,λb hb=>by rw[w6 (wU (lt b hb))];exact(hf b hb).1⟩;exact⟨b1,b2.extBut _ _ D.p1 (a7 _ _ D.p1 D.p5 D.p6 D.p7 q2),⟨_,_,b2.extBut _ _ D.p2 a2⟩,a3.at λo e=>b2.extBut _ _ D.p3 e,a4.at λo e=>b2.extBut _ _ D.p4 e⟩
 done:=by
  intro X hP hw hK hc k π s σ H E I hf ⟨q1,q2,⟨u,v,q3⟩,q4,q5⟩ hg;subst hP hw hK;obtain⟨xs,ys,hx,hy,ex,ey⟩:=hg;obtain⟨its,rx,px,_⟩:=I.sq hx;obtain⟨jts,ry,py,_⟩:=I.sq hy;have l1:=rx.length;have l2:=ry.length;refine z10 (I.ok.hd hc) D q1 q2 q3 q4 q5 px py (by simp;rfl') (by simp;rfl') λh' a7=>⟨rfl,I.turnedL (t':=s.toks) (ch:=[z,ti,to,i,j]) (λb o hb e=>?_) hf⟩;obtain⟨c1,c2,c3,c4,c5⟩:=mem5 hb;exact a7 b o c1 c3 c4 c5 e
 self:=λ_ _ _ _ _ q h=>OZ q.1 h
def Ite(K:aD)(a:Addr):It where
 go:=λi H=>∃ xs x,SqL K H a xs/\xs[i]?=some x
 yld:=λi H v H'=>∃ p x,(∀ xs,SqL K H a xs->xs[i]?=some x)/\H p=none/\v = .ref p/\H'=upd H p (.tup [.int i,x])
 stop:=λi H=>∃ xs,SqL K H a xs/\xs.length<=i
theorem ZG{P:Program}{w:World}{K:aD}{elts:List Expr}{n:Nat}{pos:Pos}{e it a:Addr}(hne:e≠it):
  Turn P w K (.Tuple elts n pos) (Ite K a) [e,it] e (λk h=>(∃ old,IsEnum h e it k old)/\h.IsListIter it a k) where
 mem:=by simp
 obj:=λk h ⟨⟨old,q1⟩,q2⟩ c hc=>by
  simp only[wq,vZ,or_false]at hc;rcases hc with rfl|rfl
  · exact⟨_,q1,λv z=>by have z':Data.fields _=Data.cell v:=z;cases z'⟩
  · obtain⟨o,e,_,d⟩:=q2;exact⟨o,e,λv z=>by rw[d]at z;cases z⟩
 keep:=λk h h' ⟨⟨old,q1⟩,q2⟩ kk=>⟨⟨old,kk e (by simp) _ q1⟩,q2.at λo q=>kk it (by simp) o q⟩
 item:=by
  intro X hP hw hK hc k π s σ H E I hf ⟨⟨old,q1⟩,q2⟩ hg;subst hP hw hK;obtain⟨xs,x,hx,ex⟩:=hg;obtain⟨its,rx,px,_⟩:=I.list hx;obtain⟨ux,hux,rux⟩:=rx.get ex;have lt:∀ b∈[e,it],b<s.heap.objs.size:=λb hb=>by
    simp only[wq,vZ,or_false]at hb;rcases hb with rfl|rfl
    · exact wt q1
    · obtain⟨o,z,_⟩:=q2;exact wt z
  refine wpAny_pyNext_enum_item q1 q2 px.isList (x:=ux) (by simpa using hux) hne λh' a1 a2 a3 a4 a5=>⟨_,rfl,wpAny_letOwnedTupleGo_enum a1 λh'' b1 b2=>?_⟩;have hzp:s.heap.objs.size≠e:=uI (lt e (by simp));have kk:∀ b o,b ∉ [e,it]->s.heap.get? b=some o->h''.get? b=some o:=λb o hb q=>by
    have c:b≠e/\b≠it:=by simpa using hb
    exact b2.extBut _ _ c.1 (a5 b o c.1 c.2 q)
  obtain⟨hn,I1⟩:=I.pair (x := .int k) (t':=s.toks+1) (h':=h'') ⟨s.toks,rfl⟩ rux (b2.extBut _ _ hzp a3) kk hf lt;refine⟨.ref s.heap.objs.size,_,I1,rfl,⟨_,x,λzs hz=>by rw[I.list_inj hz hx];exact ex,hn,rfl,rfl⟩,⟨⟨_,b1⟩,a2.at λo q=>b2.extBut _ _ (Ne.symm hne) q⟩,λb hb=>by rw[w6 (wU (lt b hb))];exact(hf b hb).1⟩
 done:=by
  intro X hP hw hK hc k π s σ H E I hf ⟨⟨old,q1⟩,q2⟩ hg;subst hP hw hK;obtain⟨xs,hx,ex⟩:=hg;obtain⟨its,rx,px,_⟩:=I.list hx;have l1:=rx.length;refine wpAny_pyNext_enum_end (I.ok.hd hc) q1 q2 px.isList (by simp;rfl') λh' a5=>⟨rfl,I.turnedL (t':=s.toks) (ch:=[e,it]) (λb o hb q=>?_) hf⟩;have c:b≠e/\b≠it:=by simpa using hb
  exact a5 b o c.2 q
 self:=λ_ _ _ _ _ q h=>by obtain⟨⟨old,q1⟩,_⟩:=q;exact wpAny_pyIter_enum q1 h
def Itv(K:aD)(a:Addr)(n:Nat):It where
 go:=λi H=>i<n/\∃ xs,SqL K H a xs/\xs.length=n
 yld:=λi H v H'=>H'=H/\∀ xs,SqL K H a xs->xs[n-1-i]?=some v
 stop:=λi H=>n<=i
theorem z13{P:Program}{w:World}{K:aD}{tg:Expr}{it a:Addr}{n:Nat}:Turn P w K tg (Itv K a n) [it] it (λk h=>k<=n/\h.IsRevIter it a ((n:Int)-1-(k:Int))) where
 mem:=by simp
 obj:=λk h ⟨_,q⟩ c hc=>by
  have e:c=it:=by simpa using hc
  subst e;obtain⟨o,e,_,d⟩:=q;exact⟨o,e,λv z=>by rw[d]at z;cases z⟩
 keep:=λk h h' ⟨q0,q⟩ kk=>⟨q0,q.at λo z=>kk it (by simp) o z⟩
 item:=by
  intro X hP hw hK hc k π s σ H E I hf ⟨q0,q⟩ hg;subst hP hw hK;obtain⟨hk,xs,hx,hn⟩:=hg;obtain⟨its,rx,px,_⟩:=I.list hx;have hlt:n-1-k<xs.length:=by rfl'
  obtain⟨ux,hux,rux⟩:=rx.get (wa hlt);obtain⟨f0,f1,f2,f3,f4,f5⟩:=hf it (by simp);have e1:(n:Int)-1-(k:Int)=((n-1-k:Nat):Int):=by rfl'
  rw[e1]at q;refine wpAny_pyNext_rev_item q px.isList (x:=ux) (by simpa using hux) λh' b1 b2=>?_;have I1:Inv X π σ H { s with heap:=h' }:=I.turned (t':=s.toks) (λb o hb e=>(b2.2 b hb).trans e) f0 f1 f3 f4 f5;have e2:((n-1-k:Nat):Int)-1=(n:Int)-1-((k+1:Nat):Int):=by rfl'
  rw[e2]at b1;obtain⟨o,e,c,d⟩:=id b1;exact⟨ux,rfl,XX (s:={ s with heap:=h' }) e c d (by decide) ⟨_,H,I1,rux,⟨rfl,λys hy=>by rw[I.list_inj hy hx];exact wa hlt⟩,⟨by rfl',b1⟩,λb hb=>(hf b hb).1⟩⟩
 done:=by
  intro X hP hw hK hc k π s σ H E I hf ⟨q0,q⟩ hg;subst hP hw hK;have hg:n<=k:=hg;obtain rfl:k=n:=by rfl'
  obtain⟨f0,f1,f2,f3,f4,f5⟩:=hf it (by simp);have e1:(k:Int)-1-(k:Int) = -1:=by rfl'
  rw[e1]at q;exact wpAny_pyNext_rev_end (I.ok.hd hc) q λh' eb=>⟨rfl,I.turned (t':=s.toks) (λb o hb e=>eb b o hb e) f0 f1 f3 f4 f5⟩
 self:=λ_ _ _ _ _ st h=>wpAny_pyIter_revIter st.2 h
section
variable {K:aD}{H1:Hp}
theorem z5q{A:List Addr}{H:Hp}{p:Addr}{o:HO}(hp:H p=none)(hA:∀ a∈A,∃ o,H a=some o):hidL A (upd H p o)=upd (hidL A H) p o:=funext λb=>by
 have np:p ∉ A:=λz=>by obtain⟨u,e⟩:=hA p z;rw[hp]at e;cases e
 by_cases q:b=p
 · subst q;rw[u7 np,D7,D7]
 · rw[w6 q];by_cases z:b∈A
   · rw[T6 z,T6 z]
   · rw[u7 z,u7 z,w6 q]
theorem Pd{A:List Addr}{H:Hp}{p:Addr}{d d':Dt}{x y:V}(hp:H p=none)(hA:∀ a∈A,∃ o,H a=some o)(rx:Rp K emp d (hidL A H) x)(ry:Rp K emp d' (hidL A H) y):
  Same (hidL A H) (hidL A (upd H p (.tup [x,y])))/\(∀ a∈A,upd H p (.tup [x,y]) a=H a)/\Rp K emp (.tup [d,d']) (hidL A (upd H p (.tup [x,y]))) (.ref p):=by
 have np:p ∉ A:=λz=>by obtain⟨u,e⟩:=hA p z;rw[hp]at e;cases e
 have hq:hidL A H p=none:=by rw[u7 np];exact hp
 rw[z5q hp hA];refine⟨F3 hq,λa ha=>w6 λz=>np (z ▸ ha),Rp.tup_.mpr ⟨p,_,rfl,SqT.of D7,?_⟩⟩;exact Rps.cons_.mpr ⟨x,[y],rfl,Rp.mono _ (F3 hq) rx,Rps.one (Rp.mono _ (F3 hq) ry)⟩
def zipD:List Dt->List Dt->List Dt
 | x::xs,y::ys => .tup [x,y]::zipD xs ys
 | _,_=>[]
theorem Pe:∀{xs ys:List Dt} {i:Nat} {d:Dt},(zipD xs ys)[i]?=some d->∃ x y,xs[i]?=some x/\ys[i]?=some y/\d = .tup [x,y]
 | [],ys,i,d,h=>by simp[zipD]at h
 | x::xs,[],i,d,h=>by simp[zipD]at h
 | x::xs,y::ys,0,d,h=>by simp[zipD]at h;exact⟨x,y,rfl,rfl,h.symm⟩
 | x::xs,y::ys,i+1,d,h=>by
  have h:(zipD xs ys)[i]?=some d:=by simpa[zipD]using h
  obtain⟨a,b,q1,q2,q3⟩:=Pe h;exact⟨a,b,by simpa using q1,by simpa using q2,q3⟩
theorem Fh:∀{xs ys:List Dt},(zipD xs ys).length=min xs.length ys.length
 | [],ys=>by simp[zipD]
 | x::xs,[]=>by simp[zipD]
 | x::xs,y::ys=>by rw[zipD,wn,Fh,wn,wn];rfl'
theorem z14{ta tb:Bool}{a b:Addr}{ds es:List Dt}{vs ws:List V}(h1:SqV K ta H1 a vs)(h2:SqV K tb H1 b ws)(r1:Rps K emp ds H1 vs)(r2:Rps K emp es H1 ws)(hl:ds.length=es.length):Walk K (Itz K ta tb a b) (zipD ds es) H1:=by
 intro A H sm hA;have s2:Same H1 H:=sm.trans A7;refine⟨λi d e=>?_,λi hi=>⟨vs,ws,h1.mono s2,h2.mono s2,?_,?_⟩⟩
 · obtain⟨x,y,ex,ey,rfl⟩:=Pe e;obtain⟨v,e1,p1⟩:=r1.get ex;obtain⟨u,e2,p2⟩:=r2.get ey;refine⟨⟨vs,ws,v,u,h1.mono s2,h2.mono s2,e1,e2⟩,?_⟩;rintro z H' ⟨p,v',u',f1,f2,hp,ez,eH⟩;have g1:=f1 vs (h1.mono s2);have g2:=f2 ws (h2.mono s2);rw[e1]at g1;rw[e2]at g2;cases g1;cases g2;subst ez;subst eH;exact Pd hp hA (Rp.mono _ sm p1) (Rp.mono _ sm p2)
 · rw[Fh]at hi;rw[r1.length];rfl'
 · rw[Fh]at hi;rw[r2.length];rfl'
def V4:Nat->List Dt->List Dt
 | _,[]=>[]
 | n,x::xs => .tup [.int n,x]::V4 (n+1) xs
theorem LK:∀{xs:List Dt} {n i:Nat} {d:Dt},(V4 n xs)[i]?=some d->∃ x,xs[i]?=some x/\d = .tup [.int ((n+i:Nat):Int),x]
 | [],n,i,d,h=>by simp[V4]at h
 | x::xs,n,0,d,h=>by simp[V4]at h;exact⟨x,rfl,h.symm⟩
 | x::xs,n,i+1,d,h=>by
  have h:(V4 (n+1) xs)[i]?=some d:=by simpa[V4]using h
  obtain⟨a,q1,q3⟩:=LK h;exact⟨a,by simpa using q1,by rw[q3,show n+1+i=n+(i+1) by rfl']⟩
theorem GJ:∀{xs:List Dt} {n:Nat},(V4 n xs).length=xs.length
 | [],n=>rfl
 | x::xs,n=>by rw[V4,wn,wn,GJ]
theorem ZH{a:Addr}{ds:List Dt}{vs:List V}(h1:SqL K H1 a vs)(r1:Rps K emp ds H1 vs):Walk K (Ite K a) (V4 0 ds) H1:=by
 intro A H sm hA;have s2:Same H1 H:=sm.trans A7;refine⟨λi d e=>?_,λi hi=>⟨vs,s2.seq h1,?_⟩⟩
 · obtain⟨x,ex,rfl⟩:=LK e;rw[vX];obtain⟨v,e1,p1⟩:=r1.get ex;refine⟨⟨vs,v,s2.seq h1,e1⟩,?_⟩;rintro z H' ⟨p,v',f1,hp,ez,eH⟩;have g1:=f1 vs (s2.seq h1);rw[e1]at g1;cases g1;subst ez;subst eH;exact Pd hp hA (Rp.int_.mpr rfl) (Rp.mono _ sm p1)
 · rw[GJ]at hi;rw[r1.length];rfl'
theorem z15{a:Addr}{ds:List Dt}{vs:List V}(h1:SqL K H1 a vs)(r1:Rps K emp ds H1 vs):Walk K (Itv K a vs.length) ds.reverse H1:=by
 intro A H sm hA;have s2:Same H1 H:=sm.trans A7;have hl:=r1.length;refine⟨λi d e=>?_,λi hi=>?_⟩
 · have hi:i<ds.length:=by
    by_cases hi:i<ds.length
    · exact hi
    · rw[wJ (by simp;rfl')]at e;cases e
   rw[List.getElem?_reverse hi]at e;obtain⟨v,e1,p1⟩:=r1.get e;refine⟨⟨by rfl',vs,s2.seq h1,rfl⟩,?_⟩;rintro z H' ⟨eH,f1⟩;subst eH;have g1:=f1 vs (s2.seq h1);rw[hl,e1]at g1;cases g1;exact⟨Same.refl _,λ_ _=>rfl,Rp.mono _ sm p1⟩
 · show vs.length<=i;rw[w0F]at hi;rfl'
end
section
variable {X:Cx}{a b e:Expr}{Fa Fb:FE}{elts:List Expr}{n:Nat}{tpos pos:Pos}
theorem ZI{M:Model}{A:Around}{E:aC}{s:Shared}{env:Env}{T:String}{es:List Expr}{kws:List Keyword}{Q:aC}
  (h:wpAny M A (spliced (backTo pos (starEach (e::es) env))) (λvs s1=>wpAny M A (evalAll ((backToKw pos (keywordEach kws env)).map (·.2))) (λks s2=>wpAny M A (call (.type T) vs (((backToKw pos (keywordEach kws env)).filterMap (·.1)).zip ks)) Q E s2) E s1) E s)
  (h1:backTo pos (starEach (e::es) env)=(false,eval e env)::backTo pos (starEach es env)) (h2:(backTo pos (starEach (e::es) env)).any (·.1)=false) (h3:(backToKw pos (keywordEach kws env)).all (·.1.isSome)=true) (h4:(backToKw pos (keywordEach kws env)).any (·.1.isNone)=false) :
  wpAny M A (callWith pos (.type T) [] (backTo pos (starEach (e::es) env)) (backToKw pos (keywordEach kws env))) Q E s:=by
 unfold callWith;have g:wpAny M A (evalArgs (.type T) true (backTo pos (starEach (e::es) env)) (backToKw pos (keywordEach kws env))) (λz s1=>wpAny M A (call (.type T) ([]++z.pos) z.kw) Q E s1) E s:=by
  rw[h1]at h ⊢;exact evalArgs_kwB h3 h
 refine wpAny_bind (wpAny_holding (wpAny_mono g (λz s1 g1=>wpAny_bind (wpAny_standAt ?_)) λ_ _ x=>x));simp only[h2,h4,Bool.or_false];refine wpAny_bind (wpAny_pure ?_);exact wpAny_bind (wpAny_mono g1 (λr s2 hr=>wpAny_bind (wpAny_holding (wpAny_point (wpAny_pure hr)))) λ_ _ x=>x)
theorem z16{H:Hp}{d:Dt}{ds:List Dt}{v:V}(e:seqD d=some ds)(r:Rp X.K emp d H v):∃ tu p vs,v = .ref p/\SqV X.K tu H p vs/\Rps X.K emp ds H vs:=by
 cases d<;>first|cases e|skip
 · obtain⟨p,vs,rfl,_,h1,h2⟩:=r.items;exact⟨false,p,vs,rfl,SqL.of h1,h2⟩
 · obtain⟨p,vs,rfl,h1,h2⟩:=Rp.tup_.mp r;exact⟨true,p,vs,rfl,h1,h2⟩
def iZip(F G:FE):FI:=λρ=>(F ρ).bind λx=>(G ρ).bind λy=>(seqD x.2).bind λxs=>(seqD y.2).bind λys=>if xs.length=ys.length then some (zipD xs ys) else none
theorem Pf{p kp kpos:Pos}{jc:Nat}(hg:Gl X "zip")(hm:X.mg "zip" = none)(ha:PF X a Fa)(hb:PF X b Fb)(hs:starEach [a,b] X.env=[(false,eval a X.env),(false,eval b X.env)]:=by rfl)(hs1:starEach [b] X.env=[(false,eval b X.env)]:=by rfl):
   PFI X (.Tuple elts n tpos) (.Call (.Name "zip" p) [a,b] [⟨some "strict",.Constant (.bool true) jc kp,kpos⟩] pos) (iZip Fa Fb):=by
 intro π s σ H R I ⟨ρ,items,rs,e0,k⟩;obtain⟨⟨fa,da⟩,ea,e1⟩:=j7 e0;obtain⟨⟨fb,db⟩,eb,e2⟩:=j7 e1;obtain⟨xs,ex,e3⟩:=j7 e2;obtain⟨ys,ey,e4⟩:=j7 e3;clear e0 e1 e2 e3;split at e4
 · rename_i hl;cases e4;have hA:PA X [a,b] (upAs X (f8 Fa (f8 Fb fNil))):=j3 ha (j3 hb i9 hs1) (by rw[hs,hs1]);refine wpAny_Call_Name_kw (Bk I hg hm (by decide +kernel:bootBuiltins "zip" = some (.type "zip")) ?_);refine ZI (T := "zip") (thn (hA pos π s σ H (λvs H1=>Same H H1/\∃ va vb,vs=[va,vb]/\Rp X.K emp da H1 va/\Rp X.K emp db H1 vb) I ⟨ρ,[(fa,da),(fb,db)],rs,by simp[f8,fNil,ea,eb],λvs H1 s1 ⟨va,r1,ee1,q1,vb,r2,ee2,q2,q3⟩=>⟨s1,va,vb,by rw[ee1,ee2,show r2=[]from q3],q1.sh,q2.sh⟩⟩) λus s1 ⟨vs,H1,I1,rv,s1H,va,vb,ev,ra,rb⟩=>?_) (by rw[hs,hs1];rfl) (by rw[hs];rfl) rfl rfl;subst ev;obtain⟨ua,ub,rfl,rua,rub⟩:=rv.two;obtain⟨ta,pa,vsa,rfl,qa1,qa2⟩:=z16 ex ra;obtain⟨tb,pb,vsb,rfl,qb1,qb2⟩:=z16 ey rb;cases rua;cases rub;have hk:=XY (X:=X) (nm:=some "strict") (kpos:=kpos) (pe_bl (X:=X) (b:=true) (j:=jc) (pos:=kp)) z0E;refine thn (hk pos π s1 σ H1 (λzs H2=>zs=[.bl true]/\H2=H1) I1 ⟨rfl,rfl⟩) ?_;rintro ks s2 ⟨zs,H2,I2,rz,ez,eH⟩;subst ez;subst eH;obtain⟨uk,rfl,ruk⟩:=rz.one;cases ruk;obtain⟨ita,rva,sa,hza⟩:=I2.sq qa1;obtain⟨itb,rvb,sb,hzb⟩:=I2.sq qb1;refine z11 sa sb ?_;have z1:(h1 s2.heap ta pa).objs.size=s2.heap.objs.size+1:=vE ..;have z2:(h2 s2.heap ta tb pa pb).objs.size=s2.heap.objs.size+2:=by rw[vE,z1]
   have z3:(h3 s2.heap ta tb pa pb).objs.size=s2.heap.objs.size+3:=by rw[vE,z2]
   have z4:(h4 s2.heap ta tb pa pb).objs.size=s2.heap.objs.size+4:=by rw[vE,z3]
   have g5:(h5 s2.heap ta tb pa pb).get? (h4 s2.heap ta tb pa pb).objs.size=some _:=wD _ rfl;have g4:(h5 s2.heap ta tb pa pb).get? (h3 s2.heap ta tb pa pb).objs.size=some _:=wf _ (wD _ rfl);have g3:(h5 s2.heap ta tb pa pb).get? (h2 s2.heap ta tb pa pb).objs.size=some _:=wf _ (wf _ (wD _ rfl));have g2:(h5 s2.heap ta tb pa pb).get? (h1 s2.heap ta pa).objs.size=some _:=wf _ (wf _ (wf _ (wD _ rfl)));have g1:(h5 s2.heap ta tb pa pb).get? s2.heap.objs.size=some _:=wf _ (wf _ (wf _ (wf _ (wD _ rfl))));have up:∀ c o,s2.heap.get? c=some o->(h5 s2.heap ta tb pa pb).get? c=some o:=λc o x=>wf _ (wf _ (wf _ (wf _ (wf _ x))));refine OZ (z:=(h4 s2.heap ta tb pa pb).objs.size) (ti:=(h2 s2.heap ta tb pa pb).objs.size) (to:=(h3 s2.heap ta tb pa pb).objs.size) (f := .none) g5 ?_;have la:=sa.lt;have lb:=sb.lt;have D:Apart (h4 s2.heap ta tb pa pb).objs.size (h2 s2.heap ta tb pa pb).objs.size (h3 s2.heap ta tb pa pb).objs.size s2.heap.objs.size (h1 s2.heap ta pa).objs.size pa pb:=by
     rw[z1,z2,z3,z4];constructor<;>exact λz=>by simp only[Addr]at *;rfl'
   refine⟨_,[(h4 s2.heap ta tb pa pb).objs.size,(h2 s2.heap ta tb pa pb).objs.size,(h3 s2.heap ta tb pa pb).objs.size,s2.heap.objs.size,(h1 s2.heap ta pa).objs.size],_,_,H2,rfl,I2.kept (t':=s2.toks) up,z12 (ta:=ta) (tb:=tb) D,⟨g5,g3,⟨_,_,g4⟩,Pc g1,Pc g2⟩,λc hc=>?_,k _ H2 s1H ?_ (z14 qa1 qb1 qa2 qb2 hl)⟩
   · have hge:s2.heap.objs.size<=c:=by
      rw[z1,z2,z3,z4]at hc;simp only[wq,vZ,or_false]at hc;rcases hc with rfl|rfl|rfl|rfl|rfl<;>rfl'
     exact I2.fpOk hge (I2.hok.fresh hge)
   · rw[Fh,←qa2.length];rfl'
 · cases e4
def lstD:Dt->Option (List Dt)
 | .lst ds=>some ds
 | _=>none
def X7(F:FE):FI:=λρ=>(F ρ).bind λx=>(lstD x.2).map (V4 0)
theorem z17{H:Hp}{d:Dt}{ds:List Dt}{v:V}(e:lstD d=some ds)(r:Rp X.K emp d H v):∃ p vs,v = .ref p/\SqL X.K H p vs/\Rps X.K emp ds H vs:=by
 cases d<;>first|cases e|skip
 obtain⟨p,vs,rfl,_,h1,h2⟩:=r.items;exact⟨p,vs,rfl,SqL.of h1,h2⟩
theorem Jr{p:Pos}(hg:Gl X "enumerate")(hm:X.mg "enumerate" = none)(ha:PF X a Fa)(hs:starEach [a] X.env=[(false,eval a X.env)]:=by rfl):PFI X (.Tuple elts n tpos) (.Call (.Name "enumerate" p) [a] [] pos) (X7 Fa):=by
 intro π s σ H R I ⟨ρ,items,rs,e0,k⟩;obtain⟨⟨fa,da⟩,ea,e1⟩:=j7 e0;cases ex:lstD da with
 | none=>rw[ex]at e1;cases e1
 | some xs =>
  rw[ex]at e1;cases e1;have hA:PA X [a] (upAs X (f8 Fa fNil)):=j3 ha i9 hs;refine wpAny_Call_Name_kw (Bk I hg hm (by decide +kernel:bootBuiltins "enumerate" = some (.type "enumerate")) ?_);refine PyProof.Rows.callWith_type1 (thn (hA pos π s σ H (λvs H1=>Same H H1/\∃ va,vs=[va]/\Rp X.K emp da H1 va) I ⟨ρ,[(fa,da)],rs,by simp[f8,fNil,ea],λvs H1 s1 ⟨va,r1,ee1,q1,q3⟩=>⟨s1,va,by rw[ee1,show r1=[]from q3],q1.sh⟩⟩) λus s1 ⟨vs,H1,I1,rv,s1H,va,ev,ra⟩=>?_) hs rfl;subst ev;obtain⟨ua,rfl,rua⟩:=rv.one;obtain⟨pa,vsa,rfl,qa1,qa2⟩:=z17 ex ra;cases rua;obtain⟨ita,rva,pl,hza⟩:=I1.list qa1;refine call_enumerate_list pl.isList λh' b1 b2 b3 b4=>wpAny_pyIter_enum b1 ?_;refine⟨_,[s1.heap.objs.size+1,s1.heap.objs.size],_,_,H1,rfl,I1.kept (t':=s1.toks) b4,ZG (Nat.succ_ne_self _),⟨⟨_,b1⟩,b2⟩,λc hc=>?_,k _ H1 s1H ?_ (ZH qa1 qa2)⟩
  · have hge:s1.heap.objs.size<=c:=by
     simp only[wq,vZ,or_false]at hc;rcases hc with rfl|rfl
     · exact Nat.le_succ _
     · exact wu _
    exact I1.fpOk hge (I1.hok.fresh hge)
  · rw[GJ,←qa2.length];exact hza
def iRev(F:FE):FI:=λρ=>(F ρ).bind λx=>(lstD x.2).map List.reverse
theorem i_rev{tg:Expr}{p:Pos}(hg:Gl X "reversed")(hm:X.mg "reversed" = none)(ha:PF X a Fa)(hs:starEach [a] X.env=[(false,eval a X.env)]:=by rfl):PFI X tg (.Call (.Name "reversed" p) [a] [] pos) (iRev Fa):=by
 intro π s σ H R I ⟨ρ,items,rs,e0,k⟩;obtain⟨⟨fa,da⟩,ea,e1⟩:=j7 e0;cases ex:lstD da with
 | none=>rw[ex]at e1;cases e1
 | some xs =>
  rw[ex]at e1;cases e1;have hA:PA X [a] (upAs X (f8 Fa fNil)):=j3 ha i9 hs;refine wpAny_Call_Name_kw (Bk I hg hm (by decide +kernel:bootBuiltins "reversed" = some (.type "reversed")) ?_);refine PyProof.Rows.callWith_type1 (thn (hA pos π s σ H (λvs H1=>Same H H1/\∃ va,vs=[va]/\Rp X.K emp da H1 va) I ⟨ρ,[(fa,da)],rs,by simp[f8,fNil,ea],λvs H1 s1 ⟨va,r1,ee1,q1,q3⟩=>⟨s1,va,by rw[ee1,show r1=[]from q3],q1.sh⟩⟩) λus s1 ⟨vs,H1,I1,rv,s1H,va,ev,ra⟩=>?_) hs rfl;subst ev;obtain⟨ua,rfl,rua⟩:=rv.one;obtain⟨pa,vsa,rfl,qa1,qa2⟩:=z17 ex ra;cases rua;obtain⟨ita,rva,pl,hza⟩:=I1.list qa1;have hn:ita.toArray.size=vsa.length:=by rw[wx,←rva.length]
  refine call_reversed_list pl.isList ?_;rw[hn];have g1:(s1.heap.push (revObj pa ((vsa.length:Int)-1))).get? s1.heap.objs.size=some _:=wD _ rfl;have it1:(s1.heap.push (revObj pa ((vsa.length:Int)-1))).IsRevIter s1.heap.objs.size pa ((vsa.length:Int)-1-((0:Nat):Int)):=⟨_,g1,rfl,by show Data.fields _=_;simp⟩;refine wpAny_pyIter_revIter it1 ?_;refine⟨_,[s1.heap.objs.size],_,_,H1,rfl,I1.kept (t':=s1.toks) (λc o x=>wf _ x),z13 (n:=vsa.length),⟨wK _,it1⟩,λc hc=>?_,k _ H1 s1H ?_ (z15 qa1 qa2)⟩
  · rw[wW.mp hc];exact I1.fpOk (wu _) (I1.hok.fresh (wu _))
  · rw[w0F,←qa2.length];exact hza
end
end L2

end
section
set_option maxHeartbeats 1000000
namespace L2
open PySem PySem.Spec PyProof.Rows
section
variable {X:Cx}
def z18:V->List V->Hp->VK->Prop:=λx vs H Q=>∃ l xs y,x = .ref l/\vs=[.int 0,y]/\H l=some (.lst xs)/\xs.length<sizeLine/\Q .non (upd H l (.lst (y::xs)))
theorem Rn:MtM X "list.insert" z18:=by
 intro π s σ H x vs v us Q I rx rv h;obtain⟨l,xs,y,rfl,rfl,hH,hz,q⟩:=h;cases rx;obtain⟨u0,u,rfl,ru0,ru⟩:=rv.two;obtain⟨t0,rfl⟩:=ru0;obtain⟨z,its,n,r,hl,e⟩:=I.lstM hH;refine call_meets F.slot_list_insert ⟨_,e,rfl⟩ F.entry_list_insert (F.args_list_insert_3 _ _ _) (AutoSeq1.list_insert_list_int_val_1 l its.toArray n 0 t0 u (by decide) (by rw[wx];rfl')) ⟨e,?_⟩;refine⟨.non,_,I.lset (its':=u::its) hH e ?_ (.cons ru r) ?_,rfl,q⟩
 · simp
 · rw[wn];rfl'
theorem Ym{Y:Ky}{f g:Bool}:Same (bsOf Y (f&&g)) (bsOf Y f):=by
 cases f<;>cases g<;>first|exact Same.refl _|exact Same.emp
theorem Yn{Y:Ky}{f g:Bool}:Same (bsOf Y (f&&g)) (bsOf Y g):=by
 cases f<;>cases g<;>first|exact Same.refl _|exact Same.emp
section
variable {H₀ H H':Hp}{O:Own}{ρ:Rho}{σ:St}{i:Nat}{f:Bool}{ds:List Dt}
theorem RepO.get(h:RepO X H₀ H O ρ σ)(e:ρ[i]?=some (.ow f ds)):∃ a vs,(i,a)∈O/\σ[i]?=some (some (.ref a))/\H a=some (.lst vs)/\Rps X.K (bsOf X.ky f) ds (hidL O.adr H) vs:=by
 obtain⟨o,e1,a,vs,q1,q2,q3,q4⟩:=h.at_ i _ e;subst q2;exact⟨a,vs,q1,e1,q3,q4⟩
theorem Pg{x:Dv}{v:V}(rb:RepO X H₀ H O ρ σ)(r:RpF X.ky (hidL O.adr H) x.1 x.2 H' v):Rp X.K (bsOf X.ky x.1.isFr) x.2 H' v:=by
 by_cases q:x.1.isFr=true
 · rw[q];exact r.fr (rb.b0.trans rb.same) q
 · rw[show x.1.isFr=false by simpa using q];exact r.sh
theorem z5r{x:Dv}{v:V}(rb:RepO X H₀ H O ρ σ)(sm:Same H H')(q:x.1.isNw=true)(r:RpF X.ky H x.1 x.2 H' v):Rp X.K (bsOf X.ky true) x.2 (hidL O.adr H') v :=
 Rp.anti rb.below _ (z0Y rb.own sm q r)
end
abbrev FW:=List Dt->Dt->Option (List Dt)
def Fm(ρ:Rho)(i:Nat):Option (Bool×List Dt):=match ρ[i]? with|some (.ow f ds)=>some (f,ds)|_=>none
theorem GK{ρ:Rho}{i:Nat}{f:Bool}{ds:List Dt}(h:Fm ρ i=some (f,ds)):ρ[i]?=some (.ow f ds):=by
 unfold Fm at h;split at h
 · rename_i e;cases h;exact e
 · cases h
def sWr(w:FW)(i:Nat)(F:FE):FS:=λρ=>(Fm ρ i).bind λo=>(F (L0 ρ)).bind λx=>(w o.2 x.2).map λds => .nx (ρ.set i (.ow (o.1&&x.1.isFr) ds))
def sWrA(w:FW)(i:Nat)(F:FE):FS:=λρ=>(Fm ρ i).bind λo=>(F ρ).bind λx=>if x.1.isNw then(w o.2 x.2).map λds => .nx (ρ.set i (.ow o.1 ds)) else none
def wApp:FW:=λds d=>if ds.length<1000000 then some (ds++[d]) else none
def Js:FW:=λds d=>if ds.length<1000000 then some (d::ds) else none
def MtW(X:Cx)(id:String)(pre:List V)(w:FW):Prop:=∀(H:Hp) (B:Hp) (Hh:Hp) (l:Addr) (vs:List V) (y:V) (ds:List Dt) (d:Dt) (ds':List Dt) (Q:VK),H l=some (.lst vs)->Same Hh H->Rps X.K B ds Hh vs->Rp X.K B d Hh y->w ds d=some ds' ->
 (∀ vs',Rps X.K B ds' Hh vs'->Q .non (upd H l (.lst vs')))->∃ r,MtM X id r/\r (.ref l) (pre++[y]) H Q
theorem mw_app:MtW X "list.append" [] wApp:=λH B Hh l vs y ds d ds' Q hl sm rs r e k=>by
 unfold wApp at e;split at e
 · rename_i h;cases e;exact⟨_,Ly,l,vs,y,rfl,rfl,hl,by rw[rs.length];exact uL h (by decide),k _ (rs.append (Rps.one r))⟩
 · cases e
theorem z5s:MtW X "list.insert" [.int 0] Js:=λH B Hh l vs y ds d ds' Q hl sm rs r e k=>by
 unfold Js at e;split at e
 · rename_i h;cases e;exact⟨_,Rn,l,vs,y,rfl,rfl,hl,by rw[rs.length];exact uL h (by decide),k _ (Rps.cons_.mpr ⟨y,vs,rfl,r,rs⟩)⟩
 · cases e
section
variable {id:String}{w:FW}{x:Str}{name:Str}{e:Expr}{Fe:FE}{i:Nat}{px apos cpos pos:Pos}{pre:List V}
theorem s_wr1(hw:MtW X id [] w)(slot:Slot "list" name id)(hty:typeOf (.builtin id)=pure (.type "method_descriptor"))(hN:X.N[i]?=some x)(hv:Vis X.env.scope x)(he:PF X e Fe)(hd:(x==("__debug__" : Str))=false:=by decide)(hcd:(x==("__classdict__" : Str))=false:=by decide)
  (hbase:attributeBase (.Name x px) name X.env (eval (.Name x px) X.env)=eval (.Name x px) X.env:=by rfl)
  (hfew:((backTo cpos (starEach [e] X.env)).all (λx=>!x.1)&&(backToKw cpos (keywordEach [] X.env)).all (λx=>x.1.isSome)&&decide ([e].length+([]:List Keyword).length+(if([]:List Keyword).isEmpty then 0 else 1)<30))=true:=by rfl)
  (hline:(apos.endLine==cpos.line)=true:=by rfl) (hs:starEach [e] X.env=[(false,eval e X.env)]:=by rfl) (hsw:swapsWith (.Call (.Attribute (.Name x px) name apos) [e] [] cpos) none pos.line X.env=pure false:=by rfl) :
  PFS X (.Expr (.Call (.Attribute (.Name x px) name apos) [e] [] cpos) pos) (sWr w i Fe):=by
 intro π s σ H D I ⟨H₀,ρ,oc,⟨O,rb⟩,e0,k⟩;obtain⟨⟨f,ds⟩,e1,e2⟩:=j7 e0;obtain⟨z,e3,e4⟩:=j7 e2;cases hw':w ds z.2 with
 | none=>rw[hw']at e4;cases e4
 | some ds' =>
  rw[hw']at e4;cases e4;obtain⟨a,vs,q1,q2,q3,q4⟩:=rb.get (GK e1);have hm:MtM X id (λo us H' Q=>∃ y,o = .ref a/\us=[y]/\Same (hidL O.adr H) (hidL O.adr H')/\H' a=some (.lst vs)/\Rp X.K (bsOf X.ky z.1.isFr) z.2 (hidL O.adr H') y/\∀ vs',Rps X.K (bsOf X.ky (f&&z.1.isFr)) ds' (hidL O.adr H') vs'->Q .non (upd H' a (.lst vs'))):=by
   intro π s σ H' o us v vs2 Q I ro ru ⟨y,eo,eu,sm,ha,ry,kk⟩;subst eo;subst eu;obtain⟨r,hr,hq⟩:=hw H' (bsOf X.ky (f&&z.1.isFr)) (hidL O.adr H') a vs y ds z.2 ds' Q ha A7 (Rps.anti Ym _ (Rps.mono _ sm q4)) (Rp.anti Yn _ ry) hw' kk;exact hr π s σ H' _ _ v vs2 Q I ro ru hq
  refine Nt (pe_bm F.plainAttrs_list slot hty hm (Nr hN hv hd hcd) (PA.frame (j3 he i9 hs)) hbase hfew hline hs rfl) hsw π s σ H D I ⟨.ref a,q2,.inl ⟨rfl,vs,SqL.of q3⟩,O.adr,rb.own,L0 ρ,[z],rb.rest,by simp[f8,fNil,e3],?_⟩;rintro us H' sm ⟨y,r,eu,ry,er⟩ hn;have er:r=[]:=er;subst er;subst eu;have hg:hidL O.adr (G4 O.adr H H')=H':=X3 hn;refine⟨y,rfl,rfl,by rw[hg];exact sm,by rw[Du (Bw q1)];exact q3,by rw[hg];exact Pg rb ry,λvs' rs'=>k _ _ ⟨O,?_⟩⟩;exact(rb.mono (Same.glue sm hn)).upd (GK e1) q1 rs'
theorem s_insA{j0:Nat}{p0:Pos}(hN:X.N[i]?=some x)(hv:Vis X.env.scope x)(he:PF X e Fe)(hd:(x==("__debug__" : Str))=false:=by decide)(hcd:(x==("__classdict__" : Str))=false:=by decide)
   (hbase:attributeBase (.Name x px) "insert" X.env (eval (.Name x px) X.env)=eval (.Name x px) X.env:=by rfl)
   (hfew:((backTo cpos (starEach [.Constant (.int 0) j0 p0,e] X.env)).all (λx=>!x.1)&&(backToKw cpos (keywordEach [] X.env)).all (λx=>x.1.isSome)&&decide ([Expr.Constant (.int 0) j0 p0,e].length+([]:List Keyword).length+(if([]:List Keyword).isEmpty then 0 else 1)<30))=true:=by rfl)
   (hline:(apos.endLine==cpos.line)=true:=by rfl) (hs:starEach [e] X.env=[(false,eval e X.env)]:=by rfl) (hs2:starEach [.Constant (.int 0) j0 p0,e] X.env=(false,eval (.Constant (.int 0) j0 p0) X.env)::starEach [e] X.env:=by rfl)
   (hsw:swapsWith (.Call (.Attribute (.Name x px) "insert" apos) [.Constant (.int 0) j0 p0,e] [] cpos) none pos.line X.env=pure false:=by rfl) :
   PFS X (.Expr (.Call (.Attribute (.Name x px) "insert" apos) [.Constant (.int 0) j0 p0,e] [] cpos) pos) (sWrA Js i Fe):=by
 intro π s σ H D I ⟨H₀,ρ,oc,⟨O,rb⟩,e0,k⟩;obtain⟨⟨f,ds⟩,e1,e2⟩:=j7 e0;obtain⟨z,e3,e5⟩:=j7 e2;split at e5
 · rename_i qn;cases hw':Js ds z.2 with
   | none=>rw[hw']at e5;cases e5
   | some ds' =>
    rw[hw']at e5;cases e5;obtain⟨a,vs,q1,q2,q3,q4⟩:=rb.get (GK e1);have hm:MtM X "list.insert" (λo us H' Q=>∃ y,o = .ref a/\us=[.int 0,y]/\Same H H'/\RpF X.ky H z.1 z.2 H' y/\∀ vs',Rps X.K (bsOf X.ky f) ds' (hidL O.adr H') vs'->Q .non (upd H' a (.lst vs'))):=by
     intro π s σ H' o us v vs2 Q I ro ru ⟨y,eo,eu,sm,ry,kk⟩;subst eo;subst eu;have r1:=z5r rb sm qn ry;obtain⟨r,hr,hq⟩:=z5s (X:=X) H' (bsOf X.ky f) (hidL O.adr H') a vs y ds z.2 ds' Q (sm _ _ q3) A7 (Rps.mono _ (M5 sm) q4) (Rp.anti (by cases f<;>first|exact Same.refl _|exact Same.emp) _ r1) hw' kk;exact hr π s σ H' _ _ v vs2 Q I ro ru hq
    refine Nt (pe_bm F.plainAttrs_list F.slot_list_insert F.type_list_insert hm (Nr hN hv hd hcd) (j3 (j9 (X:=X)) (j3 he i9 hs) hs2) hbase hfew hline hs2 (by rw[hs];rfl)) hsw π s σ H D I ⟨.ref a,q2,.inl ⟨rfl,vs,SqL.of q3⟩,ρ,[(.nw,.int 0),z],rb.all,by simp[f8,fNil,fC,e3],?_⟩;rintro us H' sm ⟨y0,r0,eu0,ry0,y,r,eu,ry,er⟩;have er:r=[]:=er;subst er;subst eu;subst eu0;have e00:y0 = .int 0:=Rp.int_.mp ry0.sh;subst e00;exact⟨y,rfl,rfl,sm,ry,λvs' rs'=>k _ _ ⟨O,(rb.mono sm).upd (GK e1) q1 rs'⟩⟩
 · cases e5
end
def setD(ds:List Dt)(j:Int)(d:Dt):Option (List Dt):=(ixN ds.length j).map λk=>ds.set k d
def sPut(i:Nat)(Fj Fe:FE):FS:=λρ=>(Fm ρ i).bind λo=>(Fe (L0 ρ)).bind λx=>(Fj ρ).bind λj=>(intD j.2).bind λn=>(setD o.2 n x.2).map λds => .nx (ρ.set i (.ow (o.1&&x.1.isFr) ds))
section
variable {x:Str}{e j:Expr}{Fe Fj:FE}{i:Nat}{px spos pos:Pos}
theorem z19(hN:X.N[i]?=some x)(hv:Vis X.env.scope x)(hj:PF X j Fj)(he:PF X e Fe)(hd:(x==("__debug__" : Str))=false:=by decide)(hcd:(x==("__classdict__" : Str))=false:=by decide)
  (ha:∀ v,assign (.Subscript (.Name x px) j spos) X.env v=(do
   let ov ←holding [v] (eval (.Name x px) X.env);let iv ←holding [v,ov] (eval j X.env)
   standAt spos
   holding [v,ov,iv] (setItem ov iv v)
   release [v,ov,iv] []):=by intro _;rfl)
  (hs:swapsWithSole [.Subscript (.Name x px) j spos] e pos.line X.env=pure false:=by rfl) (hw:swappedStores [.Subscript (.Name x px) j spos] e X.env=pure none:=by rfl)
  (h1:(assignEach [.Subscript (.Name x px) j spos] X.env).map (·.2)=[assign (.Subscript (.Name x px) j spos) X.env]:=by rfl) :
  PFS X (.Assign [.Subscript (.Name x px) j spos] e pos) (sPut i Fj Fe):=by
 intro π s σ H D I ⟨H₀,ρ,oc,⟨O,rb⟩,e0,k⟩;obtain⟨⟨f,ds⟩,e1,e2⟩:=j7 e0;obtain⟨z,e3,e4⟩:=j7 e2;obtain⟨⟨fj,dj⟩,e5,e6⟩:=j7 e4;obtain⟨n,e7,e8⟩:=j7 e6;obtain⟨a,vs,q1,q2,q3,q4⟩:=rb.get (GK e1);unfold setD at e8;cases hx:ixN ds.length n with
 | none=>rw[hx]at e8;cases e8
 | some m =>
  rw[hx]at e8;cases e8;refine ps_asg (PE.frame he) (pg_sub (Nr hN hv hd hcd) hj z0G ha) hs hw h1 π s σ H D I ⟨O.adr,rb.own,L0 ρ,z.1,z.2,rb.rest,e3,λv H' sm r hn=>?_⟩;have hg:hidL O.adr (G4 O.adr H H')=H':=X3 hn;have rb2:=rb.mono (Same.glue sm hn);refine⟨.ref a,q2,ρ,fj,dj,rb2.all,e5,λv2 H2 s2 r2=>?_⟩;have ed:=Dy e7;have ed:dj = .int n:=ed;subst ed;have rv:Rp X.K (bsOf X.ky z.1.isFr) z.2 (hidL O.adr H2) v:=Rp.mono _ (by rw[←hg];exact M5 s2) (Pg rb r);have ha2:H2 a=some (.lst vs):=s2 _ _ (by rw[Du (Bw q1)];exact q3);refine⟨a,vs,n,m,rfl,Rp.int_.mp r2.sh,ha2,by rw[q4.length];exact hx,k _ _ ⟨O,(rb2.mono s2).upd (GK e1) q1 ?_⟩⟩;exact Rps.set m (Rps.anti Ym _ (Rps.mono _ (M5 ((Same.glue sm hn).trans s2)) q4)) (Rp.anti Yn _ rv)
end
end
end L2

end
section
set_option maxHeartbeats 1000000
namespace L2
open PySem PySem.Spec PyProof.Rows
def upR(X:Cx)(F:FI):TI:=λσ H R=>∃ ρ items,RepS X.ky H ρ σ/\F ρ=some items/\∀ J H',Same H H'->items.length<=sizeLine->(∀ H2,Walk X.K J items H2)->R J H'
def PFR(X:Cx)(tg e:Expr)(F:FI):Prop:=PI X tg e (upR X F)
section
variable {X:Cx}{tg a b e:Expr}{Fa Fb Fe:FE}{pos:Pos}
theorem ZJ{p:Pos}(hg:Gl X "range")(hm:X.mg "range" = none)(ha:PF X a Fa)(hs:starEach [a] X.env=[(false,eval a X.env)]:=by rfl):PFR X tg (.Call (.Name "range" p) [a] [] pos) (n9 Fa) :=
 (Lq hg hm (Bm ha Je hs) hs).imp fun σ H R hZ=>hZ.elim fun ρ hZ=>hZ.elim fun items hZ=>hZ.elim fun rs hZ=>hZ.elim fun e0 k=>by
  obtain⟨⟨f,d⟩,e1,e2⟩:=j7 e0;obtain⟨j,e3,e4⟩:=j7 e2;clear e0 e2;have ed:=Dy e3;cases (show d = .int j from ed);split at e4
  · rename_i hr;cases e4;obtain⟨h1,h2⟩:=NC hr;refine⟨ρ,f,_,rs,e1,λv H1 s1 r1=>⟨j,by rw[Rp.int_.mp r1.sh],by rfl',by rfl',k _ H1 s1 ?_ (λ_=>Ev)⟩⟩;rw[Ew];have:sizeLine=16777216:=rfl;rfl'
  · cases e4
theorem ZK{p:Pos}(hg:Gl X "range")(hm:X.mg "range" = none)(ha:PF X a Fa)(hb:PF X b Fb)(hs:starEach [a,b] X.env=[(false,eval a X.env),(false,eval b X.env)]:=by rfl)
  (hs1:starEach [b] X.env=[(false,eval b X.env)]:=by rfl):PFR X tg (.Call (.Name "range" p) [a,b] [] pos) (IL Fa Fb) :=
 (Zp hg hm (Bm ha (Bm hb Je hs1) (by rw[hs,hs1])) hs hs1).imp fun σ H R hZ=>hZ.elim fun ρ hZ=>hZ.elim fun items hZ=>hZ.elim fun rs hZ=>hZ.elim fun e0 k=>by
  obtain⟨⟨f,d⟩,e1,e2⟩:=j7 e0;obtain⟨⟨f',d'⟩,e1',e2'⟩:=j7 e2;obtain⟨i,e3,e4⟩:=j7 e2';obtain⟨j,e5,e6⟩:=j7 e4;clear e0 e2 e2' e4;have ed:=Dy e3;have ed':=Dy e5;cases (show d = .int i from ed);cases (show d' = .int j from ed');split at e6
  · rename_i hr;rw[wR]at hr;cases e6;obtain⟨h1,h2⟩:=NC hr.1;obtain⟨h3,h4⟩:=NC hr.2;refine⟨ρ,f,_,rs,e1,λv H1 s1 r1=>⟨ρ,f',_,rs.mono s1,e1',λv' H2 s2 r2=>⟨i,j,by rw[Rp.int_.mp r1.sh,Rp.int_.mp r2.sh],⟨by rfl',by rfl',by rfl',by rfl'⟩,k _ H2 (s1.trans s2) ?_ (λ_=>Ev)⟩⟩⟩;rw[Ew];have:sizeLine=16777216:=rfl;rfl'
  · cases e6
end
def Ia(Fi:FI)(g:Tg)(F:FS):FS:=λρ=>(Fi ρ).bind λitems=>forF g F items ρ
section
variable {X:Cx}{tg iter:Expr}{body:List Stmt}{Fi:FI}{g:Tg}{F:FS}{pos:Pos}
theorem z1a(hp:PassesOwn (model X.prog X.w) X.A X.env X.xe)(hc:X.calm=true)(hi:PFR X tg iter Fi)(hg:PG X tg (g.low X.K))(hb:PFSs X body F)
   (hs:∀ x,foldedSetIterable iter X.env x=pure x:=by intro _;rfl):PFS X (.For tg iter body [] pos) (Ia Fi g F):=(z0x hp hc hi hg hb hs).imp λD σ H ⟨H₀,ρ,oc,⟨O,rb⟩,e0,k⟩=>by
 obtain⟨items,e1,e2⟩:=j7 e0;refine⟨ρ,items,rb.all,e1,λJ H1 sm hsz wk=>?_⟩;refine⟨λi m σ' H'=>m=items.length-i/\∃ ρ',RepB X H₀ H' ρ' σ'/\forF g F (items.drop i) ρ'=some oc,⟨_,rfl,_,⟨O,rb.mono sm⟩,e2⟩,?_⟩;rintro i m σ' H' ⟨rfl,ρ',⟨O2,r2⟩,f2⟩;obtain⟨w1,w2⟩:=wk (hidL O2.adr H') O2.adr H' (Same.refl _) λa ha=>by obtain⟨⟨vs,q⟩,_⟩:=r2.own a ha;exact⟨_,q⟩
 by_cases hlt:i<items.length
 · obtain⟨x,hx⟩:∃ x,items[i]?=some x:=⟨_,wa hlt⟩;have hdrop:items.drop i=x::items.drop (i+1):=by
    rw[uz hlt];rw[wa hlt]at hx;cases hx;rfl
   rw[hdrop]at f2;unfold forF at f2;obtain⟨ρ2,p1,f3⟩:=j7 f2;obtain⟨oc',p2,f4⟩:=j7 f3;obtain⟨go,yl⟩:=w1 i x hx;refine .inr ⟨go,λσ3 H3=>∃ ρ3,RepB X H₀ H3 ρ3 σ3/\forF g F (items.drop (i+1)) ρ3=some oc,λσ3 H3⟨ρ3,r3,f3⟩=>⟨items.length-(i+1),by rfl',rfl,ρ3,r3,f3⟩,λxv H3 y3=>?_⟩;obtain⟨s3,k3,r3⟩:=yl xv H3 y3;have sm3:Same H' H3:=λb o e=>by
    by_cases hb:b∈O2.adr
    · rw[k3 b hb];exact e
    · exact(Bs (s3 b o (by rw[u7 hb];exact e))).2
   refine Tg.low_mono (Tg.simO (r2.mono sm3) r3 p1) ?_;rintro σ4 H4 ⟨eH,O4,r4⟩;subst eH;refine⟨H₀,ρ2,oc',⟨O4,r4⟩,p2,?_⟩;cases oc' with
   | nx ρ5=>exact λσ5 H5 r5=>⟨ρ5,r5,f4⟩
   | ct ρ5=>exact λσ5 H5 r5=>⟨ρ5,r5,f4⟩
   | bk ρ5=>cases f4;exact k
   | rt f d=>cases f4;exact k
   | ex C=>cases f4;exact k
 · have hd:items.drop i=[]:=vO (by rfl');rw[hd]at f2;cases f2;exact .inl ⟨w2 i (by rfl'),k σ' H' ⟨O2,r2⟩⟩
end
section
variable {P:Program}{w:World}{K:aD}{mg:aE}{base:Heap}
theorem Fun.dat{x qual:Str}{st:Stmt}{f:Addr}{fd:FuncData}{N ps:List Str}{k np nn:Nat}{fr:Bool}{F:FS}(Fu:Fun K x qual st f fd)(S:FnScope N ps (i6 st))(hp:np=ps.length)(hn:nn=N.length)
  (body:∀(cdv:Value) (A:Around) (outer:List Env) (s:Shared) (H:Hp) (E:XK),Room k (A.deeper (envOfC qual (i6 st) s.heap.objs.size f cdv)) →
   PFSs (cxOf CX0 P w K mg base N qual (i6 st) f cdv A outer s H E).nox (K3 st) F):FnOk P w K mg base CX0 (k+1) f fd ps (spc K fr (cOf np nn fr F)):=by
 subst hp hn;exact Fun.data Fu S body
end
theorem p_cal{X:Cx}{e:Expr}{es:List Expr}{pos:Pos}{Fs:FA}{fr:Bool}{k k':Nat}{f:Addr}{fd:FuncData}{ps:List Str}{ct:FC}{x:Str}{st:Stmt}{p:Pos}(F:FnOk X.prog X.w X.K X.mg X.base CX0 k f fd ps (spc X.K fr ct))(D:Df X.K X.mg x st ps f fd)(hr:Room k' X.A)(hg:Gl X x)
  (ha:PFA X (e::es) Fs) (hle:k<=k':=by decide) (hdb:(x==("__debug__" : Str))=false:=by decide) (hst:starEach (e::es) X.env=(false,eval e X.env)::starEach es X.env:=by rfl) (hpl:(backTo pos (starEach es X.env)).any (·.1)=false:=by rfl):PF X (.Call (.Name x p) (e::es) [] pos) (i7 fr ct Fs) :=
 p_call F (hr.mono hle) hg D.mg D.fn.kp D.bd ha hdb hst hpl
def Dh(K:aD)(x:Str)(st:Stmt)(f:Addr):Prop:=∃(oc kV doc pm cdv ct:Value) (od an:Option Addr) (osl:Array (Option Value)),PySem.W.nsIn K mainGlobals x=some (some (.ref f))/\K.lookup f=some ⟨oc,od,.func (PySem.W.fnOf x x (T5 st) (K3 st) (i6 st) .none kV doc pm an cdv ct),osl⟩/\PySem.W.codeIn K cdv x=true/\PySem.W.keepIn K (.ref f)=true
theorem dh{K:aD}{x:Str}{st:Stmt}{f:Addr}{oc kV doc pm cdv ct:Value}{od an:Option Addr}{osl:Array (Option Value)}(e:PySem.W.nsIn K mainGlobals x=some (some (.ref f)))(l:K.lookup f=some ⟨oc,od,.func (PySem.W.fnOf x x (T5 st) (K3 st) (i6 st) .none kV doc pm an cdv ct),osl⟩)(c:PySem.W.codeIn K cdv x=true)(k:PySem.W.keepIn K (.ref f)=true):Dh K x st f:=⟨_,_,_,_,_,_,_,_,_,e,l,c,k⟩
theorem Dh.df{K:aD}{h:Heap}{mg:aE}(X:K.In h)(G:h.Ns mainGlobals mg){x:Str}{st:Stmt}{f:Addr}{ps:List Str}(d:Dh K x st f)
  (hb:∀(kV doc pm:Value) (an:Option Addr) (cdv ct:Value) (us:aF),us.length=ps.length->bindArgs (PySem.W.fnOf x x (T5 st) (K3 st) (i6 st) .none kV doc pm an cdv ct) ⟨us,[]⟩=pure (ps.zip us)) :
  ∃ fd,Df K mg x st ps f fd/\∀ us:aF,us.length=ps.length->bindArgs fd ⟨us,[]⟩=pure (ps.zip us):=by
 obtain⟨_,_,_,_,_,_,_,_,_,e,l,c,k⟩:=d;exact⟨_,df_mk X G e l c k hb,hb _ _ _ _ _ _⟩
theorem ndp(l:List Str)(h:l.Nodup:=by decide +kernel):l.Nodup:=h
theorem jlt(l:List Nat)(m:Nat)(h:∀ j∈l,j<m:=by decide):∀ j∈l,j<m:=h
theorem scm{N P:List Str}{sc:Scope}(kind:sc.kind = .function:=by rfl)(co:sc.isCoroutine=false:=by rfl)(gen:sc.isGenerator=false:=by rfl)(nd:N.Nodup:=by decide +kernel)(pre:N.take P.length=P:=by rfl)(par:∀ x∈P,sc.names.lookup x=some .local\/sc.names.lookup x=some .cell:=by decide +kernel)(nofree:∀ y∈sc.names,y.2 ≠ .free:=by decide +kernel):FnScope N P sc:=⟨kind,co,gen,nd,pre,par,nofree⟩
theorem z1b{Fi:FI}{g:Tg}{F:FS}{ρ:Rho}:Ia Fi g F ρ=(Fi ρ).bind λitems=>forF g F items ρ:=rfl
end L2

end
section
namespace L2
open PySem PySem.Spec PySem.W PyProof.Rows
section
variable {X:Cx}{C:Addr}{n:Nat}{e:Expr}{es:List Expr}{pos:Pos}{Fs:FA}{fr:Bool}{k k':Nat}{f:Addr}{fd:FuncData}{ps:List Str}{x:Str}{st:Stmt}{p:Pos}
abbrev FX:=List Dt->Option (Dt ⊕ Nat)
end
section
variable {P:Program}{w:World}{K:aD}{mg:aE}{base:Heap}
end
end L2

end
section
namespace L2
open PySem PySem.Spec PySem.W PyProof.Rows
section
variable {X:Cx}{π:aB}{σ:St}{H H1 H' H₀:Hp}{s s1:Shared}{ea C M:Addr}{E:aC}
end
section
variable {X:Cx}{C:Addr}{n:Nat}{e:Expr}{es:List Expr}{pos pos' tpos hpos np:Pos}{Fs:FA}{fr:Bool}{k k':Nat}{f:Addr}{fd:FuncData}{ps:List Str}{x y:Str}{st:Stmt}{p:Pos}{ct:FX}
end
section
variable {X:Cx}{H₀ H:Hp}{O:Own}{ρ:Rho}{σ:St}{π:aB}{s:Shared}{ea:Addr}
end
end L2

end
section
namespace L2
open PySem PySem.Spec PySem.W PyProof.Rows
section
variable {X:Cx}{C:Addr}{n:Nat}{e:Expr}{es:List Expr}{pos pos' tpos hpos np:Pos}{Fs:FA}{fr:Bool}{k k':Nat}{f:Addr}{fd:FuncData}{ps:List Str}{x y z:Str}{st:Stmt}{p:Pos}{ct:FX}
end
end L2

end
section
namespace L2
open PySem PySem.Spec PySem.W PyProof.Rows
abbrev FR:=Rho->Option Nat
section
variable {X:Cx}{e a b:Expr}{es:List Expr}{pos pos' p:Pos}{Fs:FA}{R:FR}{fr:Bool}{k k':Nat}{f:Addr}{fd:FuncData}{ps:List Str}{x:Str}{st:Stmt}{ct:FX}
end
end L2

end
section
namespace L2
open PySem PySem.Spec PyProof.Rows
section
variable {X:Cx}{x y:Str}{j j2:Expr}{Fj Fk:FE}{i iy:Nat}{px px2 spos spos2 pos pos':Pos}
end
def NG:FO
 | .tup xs,.tup ys=>if xs.length+ys.length<=1000000 then some (if E8 (xs++ys) then .nw else .sh,.tup (xs++ys)) else none
 | _,_=>none
theorem o_catT{X:Cx}:OpF X (binaryOp .Add) NG:=by
 rintro π s σ H x y v u Q I r1 r2 ⟨d1,d2,f,d,q1,q2,e,k⟩;unfold NG at e;split at e
 · rename_i xs ys;split at e
   · rename_i hc;cases e;obtain⟨a,vs,rfl,ha,ra⟩:=Rp.tup_.mp q1;obtain⟨b,ws,rfl,hb,rb⟩:=Rp.tup_.mp q2;have rr:=ra.append rb;have fin:∀(p:Addr) (H':Hp),Same H H'->SqT X.K H' p (vs++ws)->Q (.ref p) H':=λp H' sm sq=>k _ _ sm (by
       have rp:Rp X.K emp (.tup (xs++ys)) H' (.ref p):=Rp.tup_.mpr ⟨p,vs++ws,rfl,sq,Rps.mono _ sm rr⟩;by_cases z:E8 (xs++ys)=true
       · rw[if_pos z];exact RpF.scal (by rw[Dt.flat];exact z) rp
       · rw[if_neg z];exact rp)
     have hz:vs.length+ws.length<=sizeLine:=wG (by rw[ra.length,rb.length];exact hc) (by decide);by_cases hv:vs=[]
     · subst hv;cases r1;cases r2;obtain⟨its,g1,p1,_⟩:=I.tuple ha;obtain⟨its2,g2,p2,_⟩:=I.tuple hb;have e1:its=[]:=g1.nil_iff.mpr rfl;subst e1;obtain⟨⟨cls,dd,data,sl⟩,ho,hc1,n,hd⟩:=id p1;obtain⟨⟨cls2,dd2,data2,sl2⟩,ho2,hc2,n2,hd2⟩:=id p2;simp only at hc1 hd hc2 hd2;subst hc1 hd hc2 hd2;exact concat_meets ⟨_,ho,rfl⟩ ⟨_,ho2,rfl⟩ noFill_tuple_add seq_tuple_add PySem.F.slot_tuple_add PySem.F.entry_tuple_add (PySem.F.args_tuple_add_2 _ _)
         (tuple_addW0 a b [].toArray its2.toArray n n2 dd dd2 sl sl2 (by simp)) ⟨ho,ho2,⟨.ref b,H,I,rfl,fin b H (Same.refl H) hb⟩⟩
     · refine z59 π s σ H _ _ v u Q I r1 r2 ⟨a,b,vs,ws,rfl,rfl,ha,hb,hv,hz,λhw=>?_,λhw p hp=>?_⟩
       · subst hw;exact fin a H (Same.refl H) (by rw[uf];exact ha)
       · exact fin p _ (F3 hp) (SqT.of D7)
   · cases e
 · cases e
end L2

end
section
namespace L2
open PySem PySem.Spec PyProof.Rows
theorem asn{X:Cx}{e:Expr}{Fe:FE}{pos pos':Pos}{x:Str}(i:Nat)(he:PF X e Fe)(hN:X.N.Nodup)(hi:X.N[i]?=some x:=by rfl)(hx:Loc X.env.scope x:=by exact Or.inl rfl)(hs:swapsWith e (some (.Name x pos')) pos.line X.env=pure false:=by rfl)(hf:X.fn x=true\/X.env.scope.names.lookup x=some .local:=by exact Or.inl rfl):PFS X (.Assign [.Name x pos'] e pos) (sSet [] i Fe):=D8 (rels:=[]) (u5 he hN hi hx hs hf)
section
variable {X:Cx}{e:Expr}{es:List Expr}{pos p:Pos}{Fs:FA}{r:FB}{x:Str}
theorem p_bu{id:String}(hc:Ch X (.builtin id) r)(hm:X.mg x=none)(ha:PFA X (e::es) Fs)(hg:Gl X x:=by rfl)(hv:bootBuiltins x=some (.builtin id):=by decide +kernel)(hn:x ≠ "__name__" := by decide)(hdb:(x==("__debug__" : Str))=false:=by decide)(hst:starEach (e::es) X.env=(false,eval e X.env)::starEach es X.env:=by rfl)(hpl:(backTo pos (starEach es X.env)).any (·.1)=false:=by rfl):
 PF X (.Call (.Name x p) (e::es) [] pos) (fBlt r Fs):=z5m hc hg hm hv ha hn hdb hst hpl
theorem p_ty{T:String}(hc:Ch X (.type T) r)(hm:X.mg x=none)(ha:PFA X (e::es) Fs)(hg:Gl X x:=by rfl)(hv:bootBuiltins x=some (.type T):=by decide +kernel)(hn:x ≠ "__name__" := by decide)(hdb:(x==("__debug__" : Str))=false:=by decide)(hst:starEach (e::es) X.env=(false,eval e X.env)::starEach es X.env:=by rfl)(hpl:(backTo pos (starEach es X.env)).any (·.1)=false:=by rfl):
 PF X (.Call (.Name x p) (e::es) [] pos) (fBlt r Fs):=z0V hc hg hm hv ha hn hdb hst hpl
theorem p_ca{fr:Bool}{k k':Nat}{f:Addr}{fd:FuncData}{ps:List Str}{ct:FC}{st:Stmt}(F:FnOk X.prog X.w X.K X.mg X.base CX0 k f fd ps (spc X.K fr ct))(D:Df X.K X.mg x st ps f fd)(hr:Room k' X.A)
  (ha:PFA X (e::es) Fs) (hg:Gl X x:=by rfl) (hle:k<=k':=by decide) (hdb:(x==("__debug__" : Str))=false:=by decide) (hst:starEach (e::es) X.env=(false,eval e X.env)::starEach es X.env:=by rfl) (hpl:(backTo pos (starEach es X.env)).any (·.1)=false:=by rfl):PF X (.Call (.Name x p) (e::es) [] pos) (i7 fr ct Fs) :=
 p_cal F D hr hg ha hle hdb hst hpl
end
section
variable {X:Cx}{a b:Expr}{Fa Fb:FE}{pos:Pos}{op:CmpOp}{r:FO}
theorem p_cm(ho:OpF X (compareOp op) r)(ha:PF X a Fa)(hb:PF X b Fb)(h:op ≠ .In:=by decide)(h2:op ≠ .NotIn:=by decide):PF X (.Compare a [op] [b] pos) (fOp r Fa Fb):=p_cmp ho ha hb (z0z _ h h2)
theorem t_cm(ho:OpF X (compareOp op) r)(ha:PF X a Fa)(hb:PF X b Fb)(h:op ≠ .In:=by decide)(h2:op ≠ .NotIn:=by decide):PFT X (.Compare a [op] [b] pos) (o9 (fOp r Fa Fb)):=t_cmp ho ha hb (z0z _ h h2)
end
section
variable {X:Cx}{scope:Scope}{x:Str}{tp pos:Pos}{elt iter:Expr}{Fi:FI}{Fe:FE}
theorem p_co(N:List Str)(nt:Nat)(js:List Nat)(XN:List Str)(xs:List (Str×NameKind))(hi:PFI X (.Name x tp) iter Fi)(he:∀ cl C fp s H,PF (C4 X N scope cl C fp s H) elt Fe)
  (h1:X.N=XN:=by rfl) (h2:X.env.scope.names=xs:=by rfl) (hk:scope.kind = .function:=by rfl) (c:NF XN xs scope N nt js=true:=by decide +kernel) (hc:X.calm=true:=by rfl) (nd:N.Nodup:=by decide +kernel) (h0:N[0]?=some x:=by rfl) (hl:∀ cl C fp s H,(C4 X N scope cl C fp s H).env.scope.names.lookup x=some .local:=by intro _ _ _ _ _;rfl) (hb:0<nt:=by decide) (hj:∀ j∈js,j<XN.length:=by decide)
  (hs:∀ x,foldedSetIterable iter X.env x=pure x:=by intro _;rfl):PF X (.ListComp elt [⟨.Name x tp,iter,[],0⟩] scope pos) (n4 nt js Fi (Tg.one 0) fYes Fe) :=
 V1 (A6 XN xs h1 h2 hk c) hc hi (λcl C fp s H=>R1 nd h0 (Or.inl (hl cl C fp s H)) (Or.inr (hl cl C fp s H))) hb (λ_ _ _ _ _=>X6) he (λj hj'=>by rw[h1];exact hj j hj') hs
theorem a_co{y:Str}{pos' spos:Pos}(i:Nat)(hN:X.N.Nodup)(N:List Str)(nt:Nat)(js:List Nat)(XN:List Str)(xs:List (Str×NameKind))(hi:PFI X (.Name x tp) iter Fi)(he:∀ cl C fp s H,PF (C4 X N scope cl C fp s H) elt Fe)
  (hix:X.N[i]?=some y:=by rfl) (hx:X.env.scope.names.lookup y=some .local:=by rfl) (hsw:swapsWith (.ListComp elt [⟨.Name x tp,iter,[],0⟩] scope pos) (some (.Name y pos')) spos.line X.env=pure true:=by rfl)
  (h1:X.N=XN:=by rfl) (h2:X.env.scope.names=xs:=by rfl) (hk:scope.kind = .function:=by rfl) (c:NF XN xs scope N nt js=true:=by decide +kernel) (hc:X.calm=true:=by rfl) (nd:N.Nodup:=by decide +kernel) (h0:N[0]?=some x:=by rfl) (hl:∀ cl C fp s H,(C4 X N scope cl C fp s H).env.scope.names.lookup x=some .local:=by intro _ _ _ _ _;rfl) (hb:0<nt:=by decide) (hj:∀ j∈js,j<XN.length:=by decide)
  (hs:∀ x,foldedSetIterable iter X.env x=pure x:=by intro _;rfl):AsgF X (.Assign [.Name y pos'] (.ListComp elt [⟨.Name x tp,iter,[],0⟩] scope pos) spos) i (n4 nt js Fi (Tg.one 0) fYes Fe) :=
 OX hN hix hx hsw (A6 XN xs h1 h2 hk c) hc hi (λcl C fp s H=>R1 nd h0 (Or.inl (hl cl C fp s H)) (Or.inr (hl cl C fp s H))) hb (λ_ _ _ _ _=>X6) he (λj hj'=>by rw[h1];exact hj j hj') hs
end
theorem p_i{X:Cx}{a b:Expr}{Fa Fb:FE}{pos:Pos}(ha:PF X a Fa)(hb:PF X b Fb)(hs:Nw b:=by exact λ_ _=>rfl):PF X (.Subscript a b pos) (fAt Fa Fb):=p_ix ha hb hs
theorem Df.d{P:Program}{w:World}{K:aD}{mg:aE}{base:Heap}{x:Str}{st:Stmt}{f:Addr}{fd:FuncData}{N ps:List Str}{np nn:Nat}{fr:Bool}(D:Df K mg x st ps f fd)(k:Nat)(F:FS)(S:FnScope N ps (i6 st))
 (body:∀(cdv:Value) (A:Around) (outer:List Env) (s:Shared) (H:Hp) (E:XK),Room k (A.deeper (envOfC x (i6 st) s.heap.objs.size f cdv))→(A.deeper (envOfC x (i6 st) s.heap.objs.size f cdv)).units+64<cLine →
  PFSs (cxOf CX0 P w K mg base N x (i6 st) f cdv A outer s H E).nox (K3 st) F) (hp:np=ps.length:=by rfl) (hn:nn=N.length:=by rfl):FnOk P w K mg base CX0 (k+1) f fd ps (spc K fr (cOf np nn fr F)):=Fun.dat D.fn S hp hn λcdv A outer s H E hr=>body cdv A outer s H E hr hr.units
theorem q_n{X:Cx}{x:Str}{pos:Pos}{es:List Expr}{Fs:FA}(i:Nat)(hr:PFA X es Fs)(hN:X.N[i]?=some x:=by rfl)(hv:Vis X.env.scope x:=by first|exact Or.inl rfl|exact Or.inr (Or.inl rfl)|exact Or.inr (Or.inr rfl))(hd:(x==("__debug__" : Str))=false:=by decide)(hcd:(x==("__classdict__" : Str))=false:=by decide)(hs:starEach (.Name x pos::es) X.env=(false,eval (.Name x pos) X.env)::starEach es X.env:=by rfl):PFA X (.Name x pos::es) (f8 (fN i) Fs):=j3 (i0 i hN hv hd hcd) hr hs
end L2

end
section
namespace L2
open PySem PySem.Spec PyProof.Rows
end L2

end
section
local macro_rules|`(tactic|rfl')=>`(tactic|first|lia|omega +splitDisjunctions)
set_option maxHeartbeats 2000000
namespace L2
open PySem PySem.Spec PyProof.Rows
section
variable {α β:Type}
def insK(p:Int×α):List (Int×α)->List (Int×α)
 | []=>[p]
 | q::qs=>if p.1<=q.1 then p::q::qs else q::insK p qs
def U3:List (Int×α)->List (Int×α)
 | []=>[]
 | p::ps=>insK p (U3 ps)
theorem GL(p:Int×α):∀ qs:List (Int×α),(insK p qs).Perm (p::qs)
 | []=>List.Perm.refl _
 | q::qs=>by
  unfold insK;split
  · exact List.Perm.refl _
  · exact((GL p qs).cons q).trans (List.Perm.swap p q qs)
theorem O0:∀ ps:List (Int×α),(U3 ps).Perm ps
 | []=>List.Perm.refl _
 | p::ps=>(GL p _).trans ((O0 ps).cons p)
abbrev Le(p q:Int×α):Prop:=p.1<=q.1
theorem Ib(p:Int×α):∀ qs:List (Int×α),qs.Pairwise Le->(insK p qs).Pairwise Le
 | [],_=>List.pairwise_singleton _ _
 | q::qs,h=>by
  obtain⟨h1,h2⟩:=vg.mp h;unfold insK;split
  · rename_i hle;exact vg.mpr ⟨λx hx=>by
      rcases wq.mp hx with rfl|hx
      · exact hle
      · exact Int.le_trans hle (h1 x hx),h⟩
  · rename_i hle;refine vg.mpr ⟨λx hx=>?_,Ib p qs h2⟩;rcases wq.mp ((GL p qs).mem_iff.mp hx)with rfl|hx
    · show q.1<=x.1;rfl'
    · exact h1 x hx
theorem BA:∀ ps:List (Int×α),(U3 ps).Pairwise Le
 | []=>List.Pairwise.nil
 | p::ps=>Ib p _ (BA ps)
theorem Ph(g:α->β)(p:Int×α):∀ qs:List (Int×α),insK (p.1,g p.2) (qs.map λq=>(q.1,g q.2))=(insK p qs).map λq=>(q.1,g q.2)
 | []=>rfl
 | q::qs=>by
  rw[wm];unfold insK;by_cases h:p.1<=q.1
  · rw[if_pos h,if_pos h];rfl
  · rw[if_neg h,if_neg h,wm,Ph g p qs]
theorem DB(g:α->β):∀ ps:List (Int×α),U3 (ps.map λq=>(q.1,g q.2))=(U3 ps).map λq=>(q.1,g q.2)
 | []=>rfl
 | p::ps=>by rw[wm,U3,U3,DB g ps,Ph g p]
theorem Jt:∀{xs ys:List (Int×α)},xs.Perm ys->xs.Pairwise Le->ys.Pairwise Le->(xs.map (·.1)).Nodup->xs=ys
 | [],ys,p,_,_,_=>(List.Perm.nil_eq p)
 | x::xs,[],p,_,_,_=>by have:=p.length_eq;simp at this
 | x::xs,y::ys,p,h1,h2,nd=>by
  obtain⟨a1,a2⟩:=vg.mp h1;obtain⟨b1,b2⟩:=vg.mp h2;have nd':(x.1::xs.map (·.1)).Nodup:=nd;obtain⟨n1,n2⟩:=vq.mp nd';have hx:x∈y::ys:=p.mem_iff.mp we;have hy:y∈x::xs:=p.mem_iff.mpr we
  have exy:x=y:=by
   rcases wq.mp hx with e|hx
   · exact e
   · rcases wq.mp hy with e|hy
     · exact e.symm
     · have l1:x.1<=y.1:=a1 y hy;have l2:y.1<=x.1:=b1 x hx;have e:x.1=y.1:=by rfl'
       exact absurd (wg.mpr ⟨y,hy,e.symm⟩) n1
  subst exy;rw[Jt (p.cons_inv) a2 b2 n2]
end
section
variable {X:Cx}{π:aB}{σ:St}{H:Hp}{s:Shared}
theorem Inv.track{D:Addr}{its:aF}{ys:List V}{n:Nat}(I:Inv X π σ H s)(hD:H D=none)(f:FpOk X π H D)(hn:X.s₀.heap.objs.size<=D)(ho:s.heap.get? D=some { cls := .type "list",data := .seq its.toArray n })(hv:Vals ys its)(hz:ys.length<=sizeLine):
   Inv X π σ (upd H D (.lst ys)) s:=by
 obtain⟨f0,f1,f2,f3,f4,f5⟩:=f;have ne:∀ b o,X.s₀.heap.get? b=some o->b≠D:=λb o e z=>by
   subst z;exact absurd (wB (wt e) hn) (vB _)
 have nH:∀ b o,H b=some o->b≠D:=λb o e z=>by rw[z,hD]at e;cases e
 refine⟨I.ok,I.os,I.bare,⟨I.base.keep,I.base.slot,λb o e q hx=>?_,I.base.there,λb xs e=>?_,λb o u e=>?_,λb ps e=>?_⟩,I.loc,I.cell,?_,λx c e=>?_,λp hp=>?_,λa o e=>?_,I.len⟩
 · rw[w6 (ne b o e)];exact I.base.free b o e q hx
 · have:=I.base.tups b xs e;rw[w6 (nH b _ this)];exact this
 · have:=I.base.frzs b o u e;rw[w6 (nH b _ this)];exact this
 · obtain⟨more,this⟩:=I.base.tbls b ps e;exact⟨more,by rw[w6 (nH b _ this)];exact this⟩
 · rw[w6 (Ne.symm f1)];exact I.free
 · rw[w6 (f4 x c e)];exact I.freeC x c e
 · obtain⟨q1,q2,q3⟩:=I.pin p hp;exact⟨q1,by rw[w6 (f5 p hp)];exact q2,q3⟩
 · by_cases z:a=D
   · subst z;rw[D7]at e;cases e;exact⟨hz,its,n,hv,ho⟩
   · rw[w6 z]at e;refine(I.hok a o e).stay (λb u _ q=>q) (λb q=>?_) (λb xs q=>?_)
     · rw[w6 (nH b _ q)];exact q
     · rw[w6 (nH b _ q)];exact q
theorem ns_inj{h:Heap}{a:Addr}{m m':aE}(p:h.Ns a m)(q:h.Ns a m'):m=m':=by
 obtain⟨o,es,ep,e,d,_,f⟩:=p;obtain⟨o',es',ep',e',d',_,f'⟩:=q;rw[e]at e';cases e';rw[d]at d';cases d'
 funext x
 rw[←f x,←f' x]
def Ju(base:Heap)(L a b:Addr)(h:Heap):aB:=(List.range h.objs.size).filterMap λc=>match h.get? c with
 | some o=>if base.get? c=none/\c≠L/\c≠a/\c≠b then some (c,o) else none
 | none=>none
theorem Ro{base:Heap}{L a b c:Addr}{h:Heap}{o:Obj}(e:h.get? c=some o)(h1:base.get? c=none)(h2:c≠L)(h3:c≠a)(h4:c≠b):(c,o)∈Ju base L a b h :=
 vU.mpr ⟨c,wQ.mpr (wt e),by rw[e];simp[h1,h2,h3,h4]⟩
theorem GM{base:Heap}{L a b:Addr}{h:Heap}{p:Addr×Obj}(hp:p∈Ju base L a b h):h.get? p.1=some p.2/\base.get? p.1=none/\p.1≠L/\p.1≠a/\p.1≠b:=by
 obtain⟨c,hc,e⟩:=vU.mp hp;cases q:h.get? c with
 | none=>rw[q]at e;cases e
 | some o =>
  rw[q]at e;dsimp only at e;split at e
  · rename_i hh;cases e;exact⟨q,hh⟩
  · cases e
theorem Inv.turnedN{h':Heap}{t':Nat}{ch:List Addr}{m:aE}(I:Inv X π σ H s)(hm:s.heap.Ns X.env.locals m)(hm':h'.Ns X.env.locals m)(hl:∃ o,h'.get? X.env.locals=some o)(k:∀ b o,b ∉ ch->b≠X.env.locals->s.heap.get? b=some o->h'.get? b=some o)(hc:∀ b∈ch,FpOk X π H b):
   Inv X π σ H { s with heap:=h',toks:=t' }:=by
 have nit:∀ b u,H b=some u->b ∉ ch:=λb u e z=>by rw[(hc b z).1]at e;cases e
 have nL:∀ b u,H b=some u->b≠X.env.locals:=λb u e z=>by rw[z,I.free]at e;cases e
 refine I.step (g':=s.gens) (d':=s.drawn) (ch:=ch) (λb hb=>?_) (λb o nl _ hn e _=>k b o hn nl e) (λb o nl _ hn e _=>⟨o.slots,k b o hn nl e⟩) (λ_ _ _ _ n=>n)
   (λb o hn e=>?_) (λ_ _ e=>e) (λ_ _ _ e=>e) (λb ps e=>⟨#[],by rw[e];simp⟩) (λm' hm2=>by rw[←ns_inj hm hm2];exact hm') (λb u e=>?_) I.bare
 · obtain⟨f0,f1,f2,f3,f4,f5⟩:=hc b hb;exact⟨f3,f1,f4,f5⟩
 · by_cases z:b=X.env.locals
   · subst z;exact hl
   · exact⟨o,k b o hn z e⟩
 · refine(I.hok b u e).stay (λc v hcc q=>k c v ?_ ?_ q) (λ_ q=>q) λ_ _ q=>q
   · rcases hcc with z|z
     · rw[z];exact nit b u e
     · exact nit c _ z
   · rcases hcc with z|z
     · rw[z];exact nL b u e
     · exact nL c _ z
end
def R5(c:FC):List Dt->Option (aG)
 | []=>some []
 | d::ds=>(c [d]).bind λr=>(intD r).bind λi=>(R5 c ds).map (i::·)
theorem Ey{c:FC}:∀{ds:List Dt} {ks:aG},R5 c ds=some ks->ks.length=ds.length
 | [],ks,h=>by cases h;rfl
 | d::ds,ks,h=>by
  obtain⟨r,_,h⟩:=j7 h;obtain⟨i,_,h⟩:=j7 h;cases q:R5 c ds with
  | none=>rw[q]at h;cases h
  | some js=>rw[q]at h;cases h;rw[wn,wn,Ey q]
theorem Jv{c:FC}:∀{ds:List Dt} {ks:aG} {j:Nat} {d:Dt} {k:Int},R5 c ds=some ks->ds[j]?=some d->ks[j]?=some k->c [d]=some (.int k)
 | [],ks,j,d,k,h,e,_=>by simp at e
 | a::ds,ks,j,d,k,h,e,e'=>by
  obtain⟨r,h1,h⟩:=j7 h;obtain⟨i,h2,h⟩:=j7 h;cases q:R5 c ds with
  | none=>rw[q]at h;cases h
  | some js =>
   rw[q]at h;cases h;cases j with
   | zero =>
    simp at e e';subst e;subst e';rw[h1,Dy h2]
   | succ j=>exact Jv q (by simpa using e) (by simpa using e')
section
variable {X:Cx}{π:aB}{σ:St}{H:Hp}{s:Shared}{k:Nat}{f:Addr}{fd:FuncData}{p:Str}{fr:Bool}{ct:FC}{l:Addr}{vs:List V}{ds:List Dt}{ks:aG}{Q:VK}
theorem z5t{H1:Hp}{s1:Shared}{d:Dt}{v:V}{u:Value}{n:Int}(F:FnOk X.prog X.w X.K X.mg X.base CX0 k f fd [p] (spc X.K fr ct))(hr:Room (k+2) X.A)(hb:Binds X.K fd [p] [])(I:Inv X π σ H1 s1)(r:RelV v u)(rd:Rp X.K emp d H1 v)(hc:ct [d]=some (.int n))
  {P:aC} {E:aC} (q:∀ t H2 s2,Inv X π σ H2 s2->Same H1 H2->(∀ b o,s1.heap.get? b=some o->H1 b=none->b ∉ frs X.stack->s2.heap.get? b=some o/\H2 b=none)->P (.int n t) s2):wpAny (model X.prog X.w) X.A.in1.in1 (call (.ref f) [u]) P E s1:=by
 have hr2:Room k X.A.in1.in1:=(show Room (k+1+1) X.A from hr).in1.in1;refine wpAny_call (codeAny_mono (F.run X.A.in1.in1 X.stack s1 H1 ⟨[u],[]⟩ [u] [v] (λw H2=>w = .int n/\Same H1 H2) E0 hr2 I.env0.in1.in1 (hb s1 [u] I.kIn rfl) (.cons r .nil) ⟨[d],_,Rps.one rd,hc,λw H2 sm rw'=>⟨by cases fr<;>exact Rp.int_.mp rw',sm⟩⟩) λres s2 hres=>?_);cases res with
 | error e=>exact hres.elim
 | ok fl =>
  cases fl with
  | ret w =>
   obtain⟨x,H2,os,bare,un,hok,rw',ex,sm⟩:=hres;subst ex;obtain⟨t,rfl⟩:=rw';exact q t H2 s2 (I.call' (ch:=[]) os un hok bare λb hb=>absurd hb (by simp)) sm λb o e hn hf=>⟨un.keep b o e hn hf (by simp),un.free b o e hn (by simp)⟩
  | next=>exact hres.elim
  | brk=>exact hres.elim
  | cont=>exact hres.elim
theorem z1c(I:Inv X π σ H s){b:Addr}(hb:b∈frs X.stack):b<s.heap.objs.size:=by
 obtain⟨_,o,e,_⟩:=I.stack.mem hb;exact wt e
theorem ZM{D kS:Addr}{e1:Nat}{its:List Value}{P:PySem.Fin→Shared→Prop}{E:Value→Shared→Prop}(F:FnOk X.prog X.w X.K X.mg X.base CX0 k f fd [p] (spc X.K fr ct))(hr:Room (k+2) X.A)(hb:Binds X.K fd [p] [])(I:Inv X π    σ H s)(rv:Vals vs its)(rs:Rps X.K emp ds H vs)(hk:R5 ct ds=some ks)(h64:ds.length<64)
  (hD:s.heap.get? D=some (seqObj "list" #[] e1)) (hS:s.heap.get? kS=some (seqObj "list" #[] 0)) (nDS:kS≠D) (fD:FpOk X π H D) (fS:FpOk X π H kS) (gD:D ∉ frs X.stack) (gS:kS ∉ frs X.stack) (sD:X.s₀.heap.objs.size<=D) (sS:X.s₀.heap.objs.size<=kS)
  (q:∀ H2 s2 (out:aF) c,Inv X π σ H2 s2->Same H H2->H2 D=none->s2.heap.get? D=some (seqObj "list" out.toArray c)->KskOut false ks its out->P (.done (.ret .none)) s2) :
  wpAny (model X.prog X.w) X.A.in1.in1 (ksk_rest D (.ref f) false its.toArray e1 (.ref kS)) P E s:=by
 have hlen:=Ey hk;have l1:=rs.length;have l2:=rv.length;unfold ksk_rest;refine wpAny_bind (wpAny_rule ?_);rw[List.forIn_toArray];refine wpAny_bind (ksk_fold (λi s'=>∃ H1 kA e,Inv X π σ H1 s'/\Same H H1/\H1 D=none/\H1 kS=none/\s'.heap.get? D=some (seqObj "list" #[] e1)/\s'.heap.get? kS=some (seqObj "list" kA e)/\IntsAre kA.toList (ks.take i)) its 0 s
  ⟨H,#[],0,I,Same.refl H,fD.1,fS.1,hD,hS,by simpa using IntsAre.nil⟩ ?step ?done)
 case step =>
  rintro j u s' hu ⟨H1,kA,e,I1,sm,d1,d2,o1,o2,hka⟩;simp only[vX]at hka ⊢;have hj:j<its.length:=(vF.mp hu).1;obtain⟨n,hn⟩:∃ n,ks[j]?=some n:=⟨_,wa (by rfl')⟩;obtain⟨d,hd⟩:∃ d,ds[j]?=some d:=⟨_,wa (by rfl')⟩;obtain⟨v,hv,rd⟩:=rs.get hd;obtain⟨u',hu',ru⟩:=rv.get hv;rw[hu]at hu';cases hu';have hz:kA.size<=its.length:=by
    have h1:=hka.length;rw[Array.length_toList,vx]at h1;rfl'
  refine wpAny_bind (wpAny_attempt (z5t F hr hb I1 ru (Rp.mono _ sm rd) (Jv hk hd hn) λt H2 s2 I2 sm2 kk=>?_));obtain⟨p1,p2⟩:=kk D _ o1 d1 gD;obtain⟨p3,p4⟩:=kk kS _ o2 d2 gS
  try dsimp only
  have sb:=Heap.SameBut.update s2.heap kS (Obj.mapSeq (·.push (.int n t)));have g2:=get?_update_seq p3 (·.push (.int n t));have ek:ks.take (j+1)=ks.take j++[n]:=by rw[List.take_add_one,hn];simp
  have ea:(kA.push (Value.int n t)).toList=kA.toList++[Value.int n t]:=by simp
  refine wpAny_bind (listUpdate_at p3 rfl ?_ (by rw[sizeLine_eq];rfl') (wG (Nat.le_of_eq (Array.size_push ..)) (by rw[sizeLine_eq];rfl')));have fS2:FpOk X π H2 kS:=⟨p4,fS.2⟩;refine wpAny_pure ⟨rfl,H2,kA.push (.int n t),_,I2.turnedL (t':=s2.toks) (ch:=[kS]) (λb o hb e=>(sb.2 b (by simpa using hb)).trans e) (λb hb=>by rw[wW.mp hb];exact fS2),sm.trans sm2,p2,p4,(sb.2 D (Ne.symm nDS)).trans p1,g2,by rw[ea,ek];exact ksk_snoc hka⟩
 case done =>
  rintro s' ⟨H1,kA,e,I1,sm,d1,d2,o1,o2,hka⟩;have hk':IntsAre kA.toList ks:=by
    rw[vP (by rfl')]at hka;exact hka
  try dsimp only
  refine wpAny_bind (listItems_at o2 rfl ?_);obtain⟨m,hfr⟩:=I1.fr;have fD1:FpOk X π H1 D:=⟨d1,fD.2⟩;have fS1:FpOk X π H1 kS:=⟨d2,fS.2⟩;have bD:X.base.get? D=none:=uT (wG I.ok.bsz sD);have bS:X.base.get? kS=none:=uT (wG I.ok.bsz sS);refine ksk_end_ (e:=e) (news:=Ju X.base X.env.locals kS D s'.heap) hfr (λz hz=>?_) nDS (λz hz=>(GM hz).2.2.2.1) (λz hz=>(GM hz).2.2.2.2) hk' (by rfl') (by rfl') λh' tk out c F' N' ko=>?_
  · rcases wo.mp hz with hz|hz
    · obtain⟨z1,z2,z3,_⟩:=GM hz;exact⟨z1,z3,z2⟩
    · rcases wq.mp hz with rfl|hz
      · exact⟨o2,fS1.2.1,bS⟩
      · rw[wW.mp hz];exact⟨o1,fD1.2.1,bD⟩
  · have nd:=N' (D,seqObj "list" out c) we;refine q H1 _ out.toList c (I1.turnedN (t':=tk) (ch:=[kS,D]) hfr.ns F'.ns (by obtain⟨o,_,_,e,_⟩:=F'.ns;exact⟨o,e⟩) (λb o hb hl eb=>?_) (λb hb=>?_)) sm d1 nd.1 ko
    · have hb2:b≠kS/\b≠D:=by simpa using hb
      cases z:X.base.get? b with
      | some o' =>
        have e2:=I1.bk b o' z;rw[eb]at e2;cases e2;exact F'.keep b _ z
      | none=>exact(N' _ (wc _ (Ro eb z hl hb2.1 hb2.2))).1
    · rcases wq.mp hb with rfl|hb
      · exact fS1
      · rw[wW.mp hb];exact fD1
theorem ZN{D:Addr}{n0:Nat}{its:aF}{P:PySem.Fin->Shared->Prop}{E:aC}(F:FnOk X.prog X.w X.K X.mg X.base CX0 k f fd [p] (spc X.K fr ct))(hr:Room (k+2) X.A)(hb:Binds X.K fd [p] [])(I:Inv X π σ H s)(rv:Vals vs its)(rs:Rps X.K emp ds H vs)(hk:R5 ct ds=some ks)(h64:ds.length<64)
  (hD:s.heap.get? D=some (seqObj "list" its.toArray n0)) (fD:FpOk X π H D) (gD:D ∉ frs X.stack) (sD:X.s₀.heap.objs.size<=D)
  (q:∀ H2 s2 (out:aF) c,Inv X π σ H2 s2->Same H H2->H2 D=none->s2.heap.get? D=some (seqObj "list" out.toArray c)->KskOut false ks its out->P (.done (.ret .none)) s2) :
  wpAny (model X.prog X.w) X.A.in1.in1 (ksk_tree D (.ref f) false) P E s:=by
 have l1:=rs.length;have l2:=rv.length;have hlt:D<s.heap.objs.size:=wt hD;unfold ksk_tree;refine wpAny_bind (listItems_at hD rfl ?_);have sb:=Heap.SameBut.update s.heap D (Obj.mapSeq λ_=>(#[]:Array Value));have o1:=get?_update_seq hD λ_=>(#[]:Array Value);refine wpAny_bind (listUpdate_at hD rfl ?_ (by rw[wx,sizeLine_eq];rfl') (wK _));have I1:Inv X π σ H { s with heap:=s.heap.update D (Obj.mapSeq λ_=>(#[]:Array Value)) }:=I.turnedL (t':=s.toks) (ch:=[D]) (λb o hb e=>(sb.2 b (by simpa using hb)).trans e) (λb hb=>by rw[wW.mp hb];exact fD);refine wpAny_bind (seqEpoch_at o1 rfl ?_);refine wpAny_bind (wpAny_newTuple ?_ (by show its.length<=_;rw[sizeLine_eq];rfl'));refine wpAny_bind (wpAny_newList ?_ (wK _));refine wpAny_holding ?_;generalize hg:s.heap.update D (Obj.mapSeq λ_=>(#[]:Array Value))=g at *;have zg:g.objs.size=s.heap.objs.size:=sb.1;have I2:Inv X π σ H { s with heap:=(g.push (seqObj "tuple" its.toArray 0)).push (seqObj "list" #[] 0) }:=I1.kept (t':=s.toks) λb o e=>wf _ (wf _ e);have zk:(g.push (seqObj "tuple" its.toArray 0)).objs.size=g.objs.size+1:=size_push' _ _;have ge:s.heap.objs.size<=(g.push (seqObj "tuple" its.toArray 0)).objs.size:=by rfl'
 refine ZM (s:={ s with heap:=(g.push (seqObj "tuple" its.toArray 0)).push (seqObj "list" #[] 0) }) (kS:=(g.push (seqObj "tuple" its.toArray 0)).objs.size) F hr hb I2 rv rs hk h64 (wf _ (wf _ o1)) (wD _ rfl) (uI (wB hlt ge)) fD (I.fpOk ge (I.hok.fresh ge)) gD (λz=>?_) sD (wG I.sz ge) q;exact absurd (wB (z1c I z) ge) (vB _)
theorem Rq(F:FnOk X.prog X.w X.K X.mg X.base CX0 k f fd [p] (spc X.K fr ct))(hr:Room (k+2) X.A)(hb:Binds X.K fd [p] [])(I:Inv X π σ H s)(hl:H l=some (.lst vs))(rs:Rps X.K emp ds H vs)(hk:R5 ct ds=some ks)(h64:ds.length<64)(nd:ks.Nodup)
  (q:∀ D H2 ys,Same H H2->H2 D=none->Rps X.K emp ((U3 (ks.zip ds)).map (·.2)) H2 ys->Q (.ref D) (upd H2 D (.lst ys))) :
  wpAny (model X.prog X.w) X.A (call (.builtin "sorted") [.ref l] [(Str.ofString "key",.ref f)]) (EP X π σ Q) X.xe s:=by
 obtain⟨its,rv,pl,hz⟩:=I.list (SqL.of (K:=X.K) hl);have l1:=rs.length;have l2:=rv.length;have l3:=Ey hk;refine call_function_entry_kw kind_sorted plain_sorted entry_sorted (ksk_s1 _ _) ?_;unfold Builtin.«sorted»;refine wpAny_bind (m:=checkCount "sorted" 1 1 _) (wpAny_pure ?_);refine wpAny_bind (collect_list pl.isList ?_ (by rw[sizeLine_eq];rfl'));refine wpAny_bind (wpAny_newList ?_ (by rw[sizeLine_eq];rfl'));generalize hg:(s.heap.push (seqObj "list" #[] 0)).update s.heap.objs.size (Obj.mapSeq (·++its.toArray))=g;have zg:g.objs.size=s.heap.objs.size+1:=by rw[←hg,Heap.size_update,size_push']
 have kg:∀ b o,s.heap.get? b=some o->g.get? b=some o:=λb o e=>by
  have hlt:=wt e;rw[←hg,Heap.get?_update_ne _ _ _ _ (wU hlt),w0O _ _ _ (wU hlt)];exact e
 have I1:Inv X π σ H { s with heap:=g.push (seqObj "list" its.toArray 0) }:=I.kept (t':=s.toks) λb o e=>wf _ (kg b o e);have oD:(g.push (seqObj "list" its.toArray 0)).get? g.objs.size=some (seqObj "list" its.toArray 0):=wD _ rfl;have ge:s.heap.objs.size<=g.objs.size:=by rfl'
 refine wpAny_bind (wpAny_holding (wpAny_call_entry_kw slot_list_sort ⟨_,oD,rfl⟩ entry_list_sort ?body (ksk_l1 _ _)))
 case body =>
  show wpAny (model X.prog X.w) X.A.in1.in1 (Builtin.«list.sort» ⟨[.ref g.objs.size],[(Str.ofString "key",.ref f)]⟩) _ _ _;rw[ksk_t1];refine ZN (s:={ s with heap:=g.push (seqObj "list" its.toArray 0) }) F hr hb I1 rv rs hk h64 oD (I.fpOk ge (I.hok.fresh ge)) (λz=>absurd (wB (z1c I z) ge) (vB _)) (wG I.sz ge) λH2 s2 out c I2 sm d2 o2 ⟨ps,pp,eo,so⟩=>⟨_,rfl,?_⟩;refine wpAny_pure ⟨_,rfl,?_⟩;have key:∃ ts:List (Int×(Dt×(V×Value))),(ts.map λt=>(t.1,t.2.2.2))=ps/\(ts.map λt=>(t.1,t.2.1))=U3 (ks.zip ds)/\∀ t∈ts,Rp X.K emp t.2.1 H t.2.2.1/\RelV t.2.2.1 t.2.2.2:=by
   refine⟨U3 (ks.zip (ds.zip (vs.zip its))),?_,?_,λt ht=>?_⟩
   · have e1:ks.zip its=(ks.zip (ds.zip (vs.zip its))).map λt=>(t.1,t.2.2.2):=by
      apply vS
      · simp;rfl'
      · intro i h1 h2;simp
     rw[←DB (λz:Dt×(V×Value)=>z.2.2),←e1];refine Jt ((O0 _).trans pp.symm) (BA _) (so.imp λh=>by simpa using h) ?_;have:((U3 (ks.zip its)).map (·.1)).Perm ks:=((O0 (ks.zip its)).map _).trans (by rw[List.map_fst_zip (by rfl')]);exact this.nodup_iff.mpr nd
   · have e1:ks.zip ds=(ks.zip (ds.zip (vs.zip its))).map λt=>(t.1,t.2.1):=by
      apply vS
      · simp;rfl'
      · intro i h1 h2;simp
     rw[←DB (λz:Dt×(V×Value)=>z.1),←e1]
   · have ht:=(O0 _).mem_iff.mp ht;obtain⟨i,hi,e⟩:=wH ht;simp at hi;subst e;simp only[List.getElem_zip];obtain⟨v,e1,r1⟩:=rs.get (i:=i) (wa (by rfl'));obtain⟨u,e2,r2⟩:=rv.get e1;rw[wa (by rfl')]at e1 e2;cases e1;cases e2;exact⟨r1,r2⟩
  obtain⟨ts,k1,k2,k3⟩:=key;have ev:Vals (ts.map λt=>t.2.2.1) out:=by
   rw[eo,←k1,wV];clear k1 k2 eo
   induction ts with
   | nil=>exact .nil
   | cons t ts ih=>exact .cons (k3 t we).2 (ih λz hz=>k3 z (wc _ hz))
  have er:Rps X.K emp ((U3 (ks.zip ds)).map (·.2)) H (ts.map λt=>t.2.2.1):=by
   rw[←k2,wV];clear k1 k2 eo ev
   induction ts with
   | nil=>exact Rps.nil_.mpr rfl
   | cons t ts ih=>exact Rps.cons_.mpr ⟨_,_,rfl,(k3 t we).1,ih λz hz=>k3 z (wc _ hz)⟩
  have lt:(ts.map λt=>t.2.2.1).length<=sizeLine:=by
   rw[wv,←wv (f:=λt:Int×(Dt×(V×Value))=>(t.1,t.2.1)),k2,(O0 _).length_eq,List.length_zip,sizeLine_eq];rfl'
  exact⟨.ref g.objs.size,_,I2.track d2 ⟨d2,(I.fpOk ge (I.hok.fresh (H:=H) ge)).2⟩ (wG I.sz ge) (by simpa using o2) ev lt,rfl,q _ _ _ sm d2 (Rps.mono _ sm er)⟩
end
section
variable {X:Cx}{a:Expr}{Fa:FE}{k:Nat}{f:Addr}{fd:FuncData}{prm:Str}{fr:Bool}{ct:FC}{x:Str}{p pos kp kpos:Pos}
def Ez(c:FC)(F:FE):FE:=λρ=>(F ρ).bind λx=>(lstD x.2).bind λds=>(R5 c ds).bind λks=>if ds.length<64/\ks.Nodup then some (newL ((U3 (ks.zip ds)).map (·.2))) else none
theorem z5u(F:FnOk X.prog X.w X.K X.mg X.base CX0 k f fd [prm] (spc X.K fr ct))(hr:Room (k+2) X.A)(hg:Gl X "sorted")(hm:X.mg "sorted" = none)(hf:X.mg x=some (.ref f))(hgf:Gl X x)(hb:Binds X.K fd [prm] [])(ha:PF X a Fa)(hd:(x==("__debug__" : Str))=false:=by decide)(hs:starEach [a] X.env=[(false,eval a X.env)]:=by rfl):
   PF X (.Call (.Name "sorted" p) [a] [⟨some "key",.Name x kp,kpos⟩] pos) (Ez ct Fa):=by
 intro π s σ H Q I ⟨ρ,fz,dz,rs,e0,kk⟩;obtain⟨⟨fa,da⟩,ea,e1⟩:=j7 e0;obtain⟨ds,ed,e2⟩:=j7 e1;obtain⟨ks,ek,e3⟩:=j7 e2;split at e3
 · rename_i hh;cases e3;have hA:PA X [a] (upAs X (f8 Fa fNil)):=j3 ha i9 hs;refine wpAny_Call_Name_kw (Bk I hg hm (by decide +kernel:bootBuiltins "sorted" = some (.builtin "sorted")) ?_);refine PyProof.Rows.callWith_kw (thn (hA pos π s σ H (λvs H1=>Same H H1/\∃ va,vs=[va]/\Rp X.K emp da H1 va) I ⟨ρ,[(fa,da)],rs,by simp[f8,fNil,ea],λvs H1 s1 ⟨va,r1,ee1,q1,q3⟩=>⟨s1,va,by rw[ee1,show r1=[]from q3],q1.sh⟩⟩) λus s1 ⟨vs,H1,I1,rv,s1H,va,ev,ra⟩=>?_) (by rw[hs];rfl) (by rw[hs];rfl) rfl rfl;subst ev;obtain⟨ua,rfl,rua⟩:=rv.one;have hkw:=XY (X:=X) (nm:=some "key") (kpos:=kpos) (XW (v:=V.ref f) (pos:=kp) hgf hf rfl hd) z0E;refine thn (hkw pos π s1 σ H1 (λzs H2=>zs=[.ref f]/\H2=H1) I1 ⟨rfl,rfl⟩) ?_;rintro kvs s2 ⟨zs,H2,I2,rz,ez,eH⟩;subst ez;subst eH;obtain⟨uk,rfl,ruk⟩:=rz.one;cases ruk;have ex:∃ l vs,va = .ref l/\H2 l=some (.lst vs)/\Rps X.K emp ds H2 vs:=by
    cases da<;>first|cases ed|skip
    obtain⟨l,vs,e,_,h1,h2⟩:=ra.items;exact⟨l,vs,e,h1,h2⟩
   obtain⟨l,vs,rfl,h1,h2⟩:=ex;cases rua;refine Rq F hr hb I2 h1 h2 ek hh.1 hh.2 λD H3 ys sm d3 r3=>kk _ _ (s1H.trans (sm.trans (F3 d3))) ?_;exact(Fg d3 r3).early (s1H.trans sm)
 · cases e3
end
end L2

end
section
namespace L2
open PySem
abbrev L(ns:aG):Dt := .lst (ns.map .int)
abbrev T(ns:aG):Dt := .tup (ns.map .int)
theorem v5{α β:Type}{a:α}{f:α->Option β}:(some a).bind f=f a:=rfl
theorem Yo{α:Type}{xs:List α}{i:Int}(h0:0<=i):atI xs i=xs[i.toNat]?:=by
 unfold atI ixN;rw[if_pos h0];by_cases h:i<xs.length
 · rw[if_pos h];rfl
 · rw[if_neg h,wJ (by rfl')];rfl
theorem atI_c0{α:Type}{x:α}{xs:List α}:atI (x::xs) 0=some x:=Bn (j:=0) rfl
theorem atI_c1{α:Type}{x y:α}{xs:List α}:atI (x::y::xs) 1=some y:=Bn (j:=1) rfl
theorem atI_c2{α:Type}{x y z:α}{xs:List α}:atI (x::y::z::xs) 2=some z:=Bn (j:=2) rfl
theorem X8:∀ ns:aG,E8 (ns.map Dt.int)=true
 | []=>rfl
 | n::ns=>by rw[wm,E8,X8 ns];rfl
theorem O7:∀(k:Nat) (ns:aG),oksN k (ns.map Dt.int)=true
 | k,[]=>by cases k<;>rfl
 | k,n::ns=>by rw[wm,oksN,O7 k ns];cases k<;>rfl
theorem U4:∀ ns:aG,pys (ns.map Dt.int)=ns.map PyData.int
 | []=>rfl
 | n::ns=>by rw[wm,pys,U4 ns];rfl
theorem O8:∀ ns ms:aG,PyData.eqvAll (ns.map PyData.int) (ms.map PyData.int)=decide (ns=ms)
 | [],[]=>by simp[PyData.eqvAll]
 | [],m::ms=>by simp[PyData.eqvAll]
 | n::ns,[]=>by simp[PyData.eqvAll]
 | n::ns,m::ms=>by
  rw[wm,wm,PyData.eqvAll,O8 ns ms,PyData.eqv,uY];simp
theorem LM(ns ms:aG):opEq (L ns) (L ms)=some (.nw,.bl (decide (ns=ms))):=by
 unfold opEq L;rw[Dt.okN,Dt.okN,O7,O7];unfold eqD;rw[Dt.py,Dt.py,U4,U4,PyData.eqv,O8];rfl
theorem LN(ns ms:aG):opNe (L ns) (L ms)=some (.nw,.bl (!decide (ns=ms))):=by
 unfold opNe L;rw[Dt.okN,Dt.okN,O7,O7];unfold eqD;rw[Dt.py,Dt.py,U4,U4,PyData.eqv,O8];rfl
theorem z5v(ns:aG):(Dt.scr ns).okN 8=true:=by simp[Dt.okN]
theorem Pi(ns ms:aG):opEq (.scr ns) (L ms)=some (.nw,.bl (decide (ns=ms))):=by
 unfold opEq;rw[z5v];unfold L;rw[Dt.okN,O7];unfold eqD;rw[Dt.py,Dt.py,U4,PyData.eqv,O8];rfl
theorem v8(i j:Int):opEq (.int i) (.int j)=some (.nw,.bl (decide (i=j))):=by
 unfold opEq eqD;rw[Dt.py,Dt.py,PyData.eqv,w0x];rfl
theorem A8(i j:Int):opNe (.int i) (.int j)=some (.nw,.bl (!decide (i=j))):=by
 unfold opNe eqD;rw[Dt.py,Dt.py,PyData.eqv,w0x];rfl
theorem Ah{i j:Int}(h:j.natAbs<2 ^ 64):C9 i j=true:=by unfold C9;rw[decide_eq_true h];simp
theorem P7{i j:Int}(h:i.natAbs<2 ^ 64):C9 i j=true:=by unfold C9;rw[decide_eq_true h];simp
section
variable (i j:Int)
end
def A1(ns:aG)(k:Int):Int:=if k<ns.length then ns.getD k.toNat 0 else if ns=[] then 0 else ns.getD (k.fmod ns.length).toNat 0*31+k
end L2

end
section
namespace L2
open PySem
section
variable {α β γ:Type}{g:Tg}{Fc:FT}{Fe:FE}{ρ0:Rho}
theorem GN(e:α->Dt)(h:α->Dv):∀(xs:List α),(∀ x∈xs,(g.put (e x) ρ0).bind Fe=some (h x))->Cm g fYes Fe ρ0 (xs.map e)=some (xs.map h)
 | [],_=>rfl
 | x::xs,q=>by
  have q1:=q x we;have ih:=GN e h xs λy hy=>q y (wc _ hy);rw[wm,Cm];cases p:g.put (e x) ρ0 with
  | none=>rw[p]at q1;cases q1
  | some ρ1 =>
   rw[p]at q1;have q1:Fe ρ1=some (h x):=q1;simp[fYes,q1,ih]
theorem BB(e:α->Dt)(h:α->Dv)(p:α->Bool):∀(xs:List α),(∀ x∈xs,(g.put (e x) ρ0).bind Fc=some (p x))->(∀ x∈xs,p x=true->(g.put (e x) ρ0).bind Fe=some (h x))->Cm g Fc Fe ρ0 (xs.map e)=some ((xs.filter p).map h)
 | [],_,_=>rfl
 | x::xs,q,q'=>by
  have q1:=q x we;have q2:=q' x we;have ih:=BB e h p xs (λy hy=>q y (wc _ hy)) (λy hy=>q' y (wc _ hy));rw[wm,Cm];cases z:g.put (e x) ρ0 with
  | none=>rw[z]at q1;cases q1
  | some ρ1 =>
   rw[z]at q1 q2;have q1:Fc ρ1=some (p x):=q1;cases w:p x with
   | true =>
    have q2:Fe ρ1=some (h x):=q2 w;simp[q1,w,q2,ih]
   | false=>simp[q1,w,ih]
theorem Co(h:α->Dv):∀ xs:List α,sndL (xs.map h)=xs.map λx=>(h x).2
 | []=>rfl
 | x::xs=>by rw[wm,sndL,Co h xs];rfl
theorem GO{h:α->Dv}:∀{xs:List α},(∀ x∈xs,(h x).1.isFr=true)->V3 (xs.map h)=true
 | [],_=>rfl
 | x::xs,q=>by rw[wm,V3,q x we,GO λy hy=>q y (wc _ hy)];rfl
theorem o0{nt:Nat}{js:List Nat}{Fi:FI}{ρ:Rho}{e:α->Dt}{h:α->Dt}{xs:List α}(hi:Fi ρ=some (xs.map e))(q:∀ x∈xs,(g.put (e x) (sigD nt js ρ)).bind Fe=some (.nw,h x)):n4 nt js Fi g fYes Fe ρ=some (.nw,.lst (xs.map h)):=by
 unfold n4;rw[hi,v5,GN e (λx=>(.nw,h x)) xs q,v5,GO (λx _=>rfl),Co];rfl
theorem Fn{nt:Nat}{js:List Nat}{Fi:FI}{ρ:Rho}{e:α->Dt}{h:α->Dt}{p:α->Bool}{xs:List α}(hi:Fi ρ=some (xs.map e))(q:∀ x∈xs,(g.put (e x) (sigD nt js ρ)).bind Fc=some (p x))(q':∀ x∈xs,p x=true->(g.put (e x) (sigD nt js ρ)).bind Fe=some (.nw,h x)):
  n4 nt js Fi g Fc Fe ρ=some (.nw,.lst ((xs.filter p).map h)):=by
 unfold n4;rw[hi,v5,BB e (λx=>(.nw,h x)) p xs q q',v5,GO (λx _=>rfl),Co];rfl
theorem Jw{nt:Nat}{js:List Nat}{Fi:FI}{ρ:Rho}{e:α->Dt}{h:α->Dv}{xs:List α}(hi:Fi ρ=some (xs.map e))(q:∀ x∈xs,(g.put (e x) (sigD nt js ρ)).bind Fe=some (h x)):n4 nt js Fi g fYes Fe ρ=some (if V3 (xs.map h) then .nw else .tn,.lst (xs.map λx=>(h x).2)):=by
 unfold n4;rw[hi,v5,GN e h xs q,v5,Co]
variable {F:FS}
def nextO(G:FS):Oc->Option Oc
 | .nx ρ=>G ρ
 | .ct ρ=>G ρ
 | .bk ρ=>some (.nx ρ)
 | .rt f d=>some (.rt f d)
 | .ex C=>some (.ex C)
theorem z1d{ρ:Rho}:forF g F [] ρ=some (.nx ρ):=rfl
theorem E4{x:Dt}{xs:List Dt}{ρ:Rho}:forF g F (x::xs) ρ=((g.put x ρ).bind F).bind (nextO (forF g F xs)):=by
 rw[forF];cases g.put x ρ with
 | none=>rfl
 | some ρ1 =>
  show(F ρ1).bind _=(F ρ1).bind _;congr 1
  first|done|(funext oc;cases oc<;>rfl)
theorem DC(e:α->Dt)(R:β->γ->Rho)(step:β->α->β):∀(xs:List α) (b:β) (j:γ),(∀ b x j,x∈xs->∃ j',(g.put (e x) (R b j)).bind F=some (.nx (R (step b x) j')))->∃ j',forF g F (xs.map e) (R b j)=some (.nx (R (xs.foldl step b) j'))
 | [],b,j,_=>⟨j,rfl⟩
 | x::xs,b,j,h=>by
  obtain⟨j1,h1⟩:=h b x j we;obtain⟨j2,h2⟩:=DC e R step xs (step b x) j1 λb y j hy=>h b y j (wc _ hy);refine⟨j2,?_⟩;rw[wm,E4,h1];exact h2
theorem EA(e:α->Dt)(R:β->γ->Rho)(step:β->α->β)(P:β->Prop):∀(xs:List α) (b:β) (j:γ),P b->(∀ b x j,x∈xs->P b->P (step b x)/\∃ j',(g.put (e x) (R b j)).bind F=some (.nx (R (step b x) j')))->P (xs.foldl step b)/\∃ j',forF g F (xs.map e) (R b j)=some (.nx (R (xs.foldl step b) j'))
 | [],b,j,p,_=>⟨p,j,rfl⟩
 | x::xs,b,j,p,h=>by
  obtain⟨p1,j1,h1⟩:=h b x j we p;obtain⟨p2,j2,h2⟩:=EA e R step P xs (step b x) j1 p1 λb y j hy=>h b y j (wc _ hy);refine⟨p2,j2,?_⟩;rw[wm,E4,h1];exact h2
end
abbrev LL(rows:aA):Dt := .lst (rows.map L)
abbrev TTu(rows:aA):Dt := .tup (rows.map T)
abbrev j8(k:Int)(bills:aA):Dt := .tup [.int k,TTu bills]
theorem z1e(ns:aG):(T ns).flat=true:=by show E8 _=true;exact X8 ns
theorem GP:∀ rows:aA,E8 (rows.map T)=true
 | []=>rfl
 | r::rows=>by rw[wm,E8,z1e,GP rows];rfl
theorem nrm_T(f:Fl)(ns:aG):nrm f (T ns)=(.nw,T ns):=by unfold nrm;rw[z1e];rfl
theorem z1f(ns:aG):lfl (ns.map .int) = .nw:=by unfold lfl;rw[X8];rfl
theorem AN(ns:aG):newL (ns.map .int)=(.nw,L ns):=by unfold newL;rw[z1f]
theorem W1{α:Type}(h:α->Bool):∀ xs:List α,Ej (xs.map λx => .bl (h x))=some (xs.map h)
 | []=>rfl
 | x::xs=>by rw[wm,Ej,W1 h xs];rfl
theorem Ic:∀ xs:aG,Bv (xs.map .int)=some xs
 | []=>rfl
 | x::xs=>by rw[wm,Bv,Ic xs];rfl
theorem X9{α β:Type}(e:α->Dt)(f:β->Dt):∀(xs:List α) (ys:List β),zipD (xs.map e) (ys.map f)=(xs.zip ys).map λp => .tup [e p.1,f p.2]
 | [],ys=>by simp[zipD]
 | x::xs,[]=>by simp[zipD]
 | x::xs,y::ys=>by rw[wm,wm,zipD,X9 e f xs ys];rfl
theorem w8(lo:Int)(n:Nat):K2 lo n=(List.range n).map λ(k:Nat) => .int (lo+(k:Int)):=rfl
theorem D5(c:Int){m:Int}(h:0<m):0<=c.fmod m/\c.fmod m<m:=⟨vk c h,vD c h⟩
def Cp(c m:Int):Int :=
 if m=2 then(if((c.fdiv (10 ^ 30)).fmod 2)=1 then -(c.fmod (10 ^ 30)) else c.fmod (10 ^ 30))
 else
  let wide:Int:=if m=0 then 9 else 61
  let n:=c.fmod wide
  if wide.fdiv 2<n then n-wide else n
theorem z1g(c m:Int):(Cp c m).natAbs<10 ^ 30:=by
 unfold Cp;have a1:=vk c (show(0:Int)<10 ^ 30 by decide);have a2:=vD c (show(0:Int)<10 ^ 30 by decide);dsimp only;split
 · split<;>rfl'
 · have hw:(if m=0 then(9:Int) else 61)=9\/(if m=0 then(9:Int) else 61)=61:=by split<;>simp
   generalize (if m=0 then(9:Int) else 61)=wide at *;have b1:=vk c (show(0:Int)<wide by rfl');have b2:=vD c (show(0:Int)<wide by rfl');split<;>rfl'
theorem Pj(c m:Int)(h:m=0):(Cp c m).natAbs<=4:=by
 subst h;unfold Cp;have b1:=vk c (show(0:Int)<9 by decide);have b2:=vD c (show(0:Int)<9 by decide);simp;split<;>rfl'
theorem ZO(c m:Int)(h:m=1):(Cp c m).natAbs<=30:=by
 subst h;unfold Cp;have b1:=vk c (show(0:Int)<61 by decide);have b2:=vD c (show(0:Int)<61 by decide);simp;split<;>rfl'
def L1(ns:aG)(at_:Int)(n:Nat)(m:Int):aG:=(List.range n).map λ(k:Nat)=>Cp (A1 ns (at_+(k:Int))) m
theorem AO(ns:aG)(a:Int)(n:Nat)(m:Int):(L1 ns a n m).length=n:=by unfold L1;simp
end L2

end
section
local macro_rules|`(tactic|rfl')=>`(tactic|first|lia|omega +splitDisjunctions)
namespace L2
open PySem
def addR(a b:aG):aG:=List.zipWith (·+·) a b
def subR(a b:aG):aG:=List.zipWith (· - ·) a b
def sclR(k:Int)(a:aG):aG:=a.map (k*·)
def o6(n:Nat):aG:=List.replicate n 0
def mixR(n:Nat)(rows:aA)(cs:aG):aG:=(rows.zip cs).foldl (λt p=>addR t (sclR p.2 p.1)) (o6 n)
def isWh:Dt->Bool
 | .int _=>true
 | _=>false
theorem P8{a b:aG}(h:a.length=b.length):(addR a b).length=a.length:=by unfold addR;rw[vN];rfl'
theorem Fo{a b:aG}(h:a.length=b.length):(subR a b).length=a.length:=by unfold subR;rw[vN];rfl'
theorem v9{k:Int}{a:aG}:(sclR k a).length=a.length:=by unfold sclR;simp
theorem B9{n:Nat}:(o6 n).length=n:=by unfold o6;simp
theorem R6{i j:Int}{p q:Nat}(h1:i.natAbs<2 ^ p)(h2:j.natAbs<2 ^ q)(h:p+q<=134217728):C9 i j=true:=by
 unfold C9;have a:=Nz h1;have b:=Nz h2;rw[decide_eq_true (show Builtin.Int.intBits i+Builtin.Int.intBits j<=134217728 by rfl')];rfl
theorem lt30{i:Int}(h:i.natAbs<10 ^ 30):i.natAbs<2 ^ 100:=wB h (by decide)
theorem z1h(a b:aG):(a.zip b).map (λp=>Dt.int (p.1+p.2))=(addR a b).map .int:=by
 unfold addR;rw[List.zip,]
 induction a generalizing b with
 | nil=>rfl
 | cons x a ih=>cases b with
  | nil=>rfl
  | cons y b=>have:=ih b;simp[List.zipWith]
theorem ZP(a b:aG):(a.zip b).map (λp=>Dt.int (p.1-p.2))=(subR a b).map .int:=by
 unfold subR;rw[List.zip,]
 induction a generalizing b with
 | nil=>rfl
 | cons x a ih=>cases b with
  | nil=>rfl
  | cons y b=>have:=ih b;simp[List.zipWith]
theorem GQ:∀(k:Nat) (rows:aA),oksN (k+1) (rows.map L)=true
 | k,[]=>rfl
 | k,r::rows=>by rw[wm,oksN,GQ k rows,Dt.okN,O7];rfl
theorem Jx:∀ rows:aA,pys (rows.map L)=rows.map λr => .list (r.map PyData.int)
 | []=>rfl
 | r::rows=>by rw[wm,pys,Jx rows,Dt.py,U4];rfl
theorem Ie:∀ a b:aA,PyData.eqvAll (a.map λr => .list (r.map PyData.int)) (b.map λr => .list (r.map PyData.int))=decide (a=b)
 | [],[]=>by simp[PyData.eqvAll]
 | [],m::ms=>by simp[PyData.eqvAll]
 | n::ns,[]=>by simp[PyData.eqvAll]
 | n::ns,m::ms=>by
  rw[wm,wm,PyData.eqvAll,Ie ns ms,PyData.eqv,O8,uY];simp
theorem ZQ(a b:aA):opNe (LL a) (LL b)=some (.nw,.bl (!decide (a=b))):=by
 unfold opNe LL;rw[Dt.okN,Dt.okN,GQ,GQ];unfold eqD;rw[Dt.py,Dt.py,Jx,Jx,PyData.eqv,Ie];rfl
theorem Y0{α β:Type}(g:α->β)(xs:List α)(i:Int):atI (xs.map g) i=(atI xs i).map g:=by
 unfold atI;rw[wv];cases ixN xs.length i with
 | none=>rfl
 | some j=>show(xs.map g)[j]?=_;rw[wF];rfl
theorem z1i{α:Type}{xs:List α}{i:Nat}(h:i<xs.length):atI xs (i:Int)=some xs[i]:=Bn (wa h)
def Wide(n:Nat)(rows:aA):Prop:=∀ r∈rows,r.length=n
theorem Pk{n:Nat}:∀(ps:List (aG×Int)) (t:aG),t.length=n->(∀ p∈ps,p.1.length=n)->(ps.foldl (λt p=>addR t (sclR p.2 p.1)) t).length=n
 | [],t,h,_=>h
 | p::ps,t,h,q=>Pk ps _ (by rw[P8 (by rw[h,v9,q p we])];exact h) λp hp=>q p (wc _ hp)
theorem AQ{n:Nat}{rows:aA}{cs:aG}(h:Wide n rows):(mixR n rows cs).length=n :=
 Pk _ _ B9 λp hp=>h _ (vt hp).1
theorem ZR(a b:aG)(h:a.length=b.length)(f:Int->Int->Int):(List.range a.length).map (λk=>f (a.getD k 0) (b.getD k 0))=List.zipWith f a b:=by
 apply vS
 · simp;rfl'
 · intro i h1 h2;simp at h1;simp[List.getD,wa h1,wa (show i<b.length by rfl')]
theorem z1j(d:Dt):nrm .nw d=(.nw,d):=by unfold nrm;split<;>rfl
theorem run{F G:FS}{ρ ρ':Rho}{r:Option Oc}(h:F ρ=some (.nx ρ'))(k:G ρ'=r):sSeq F G ρ=r:=by
 unfold sSeq;rw[h];exact k
theorem V5{np n:Nat}{fr:Bool}{F:FS}{ds:List Dt}{f:Fl}{d:Dt}(hl:ds.length=np)(h:F (rho0 n ds)=some (.rt f d))(hf:(f.isFr||d.flat)=true):cOf np n fr F ds=some d:=by
 unfold cOf;rw[if_pos hl,h];show(if(fr&&!(f.isFr||d.flat))=true then none else some d)=some d;rw[hf];cases fr<;>rfl
theorem BD{n:Nat}(h:n<=1000000):X5 (n:Int)=true:=by
 unfold X5;rw[decide_eq_true (show -1000000<=(n:Int) by rfl'),decide_eq_true (show(n:Int)<=1000000 by rfl')];rfl
theorem ZS(rows:aA)(cs:aG)(h:rows.length=cs.length):(List.range rows.length).map (λj=>(rows.getD j [],cs.getD j 0))=rows.zip cs:=by
 apply vS
 · simp;rfl'
 · intro i h1 h2;simp at h1;simp[List.getD,wa h1,wa (show i<cs.length by rfl')]
theorem Rr(n:Nat)(rows:aA)(cs:aG)(h:rows.length=cs.length):(List.range rows.length).foldl (λt j=>addR t (sclR (cs.getD j 0) (rows.getD j []))) (o6 n)=mixR n rows cs:=by
 unfold mixR;rw[←ZS rows cs h,w1m]
theorem z1k(a b:aG)(k:Int)(h:a.length=b.length):(List.range a.length).map (λi=>a.getD i 0+k*b.getD i 0)=addR a (sclR k b):=by
 unfold addR sclR;rw[w0q];exact ZR a b h λx y=>x+k*y
theorem z1l(f:Nat->Int)(n:Nat):(List.range n).map (λk=>Dt.int (f k))=((List.range n).map f).map .int:=by rw[wV];rfl
theorem Fp{α:Type}{xs:List α}{i:Nat}(d:α)(h:i<xs.length):xs.getD i d∈xs:=by
 simp[List.getD,wa h]
theorem L3{α:Type}{xs:List α}{i:Nat}(d:α)(h:i<xs.length):atI xs (i:Int)=some (xs.getD i d):=by
 rw[z1i h];simp[List.getD,wa h]
theorem Jy(ns:aG)(a:Int)(n:Nat)(m:Int):∀ x∈L1 ns a n m,x.natAbs<10 ^ 30:=λx hx=>by
 unfold L1 at hx;obtain⟨k,_,rfl⟩:=wg.mp hx;exact z1g _ _
end L2

end
section
namespace L2
open PySem
@[simp] theorem x0:∀(n:Nat) (ds:List Dt),rho0 n ds=List.map (Cell.sh false) ds++List.replicate (n-List.length ds) Cell.no:=by intros;rfl
@[simp] theorem x1:∀(F G:FS) (ρ:Rho),sSeq F G ρ=Option.bind (F ρ) (seqO G):=by intros;rfl
@[simp] theorem x2:∀(G:FS) (ρ:Rho),seqO G (Oc.nx ρ)=G ρ:=by intros;rfl
@[simp] theorem x3:∀(G:FS) (x:Oc),(∀(ρ:Rho),x=Oc.nx ρ->False)->seqO G x=some x:=by exact @L2.seqO.eq_2
@[simp] theorem x4:∀(c:FT) (F G:FS) (ρ:Rho),sIf c F G ρ=Option.bind (c ρ) λb=>if b=true then F ρ else G ρ:=by intros;rfl
@[simp] theorem x5:∀(F:FE) (ρ:Rho),o9 F ρ=Option.bind (F ρ) λx=>blD (Prod.snd x):=by intros;rfl
@[simp] theorem x6:∀(r:FO) (Fa Fb:FE) (ρ:Rho),
 fOp r Fa Fb ρ=Option.bind (Fa ρ) λx=>Option.bind (Fb ρ) λy=>r (Prod.snd x) (Prod.snd y):=by intros;rfl
@[simp] theorem x7:∀(i:Nat) (ρ:Rho),fN i ρ=OT ρ i:=by intros;rfl
@[simp] theorem x8:∀(ρ:Rho) (i:Nat),OT ρ i=Option.bind ρ[i]? Cell.val:=by intros;rfl
@[simp] theorem x9:Cell.val Cell.no=none:=by intros;rfl
@[simp] theorem x10:∀(f:Bool) (d:Dt),Cell.val (Cell.sh f d)=some (nrm (flOf f) d):=by intros;rfl
@[simp] theorem x11:∀(f:Bool) (ds:List Dt),Cell.val (Cell.ow f ds)=some (flOf f,Dt.lst ds):=by intros;rfl
@[simp] theorem x12:∀(f:Bool),flOf f=if f=true then Fl.fr else Fl.sh:=by intros;rfl
@[simp] theorem x13:∀(r:FB) (Fs:FA) (ρ:Rho),fBlt r Fs ρ=Option.bind (Fs ρ) λxs=>r (sndL xs):=by intros;rfl
@[simp] theorem x14:∀(Fa:FE) (Fs:FA) (ρ:Rho),f8 Fa Fs ρ=Option.bind (Fa ρ) λx=>Option.bind (Fs ρ) λxs=>some (x::xs):=by intros;rfl
@[simp] theorem x15:∀(x:Rho),fNil x=some []:=by intros;rfl
@[simp] theorem x16:sndL []=[]:=by intros;rfl
@[simp] theorem x17:∀(x_1:Dv) (xs:List Dv),sndL (x_1::xs)=Prod.snd x_1::sndL xs:=by intros;rfl
@[simp] theorem x18:∀(xs:List Dt),bLen [Dt.lst xs]=some (Fl.nw,Dt.int ↑(List.length xs)):=by intros;rfl
@[simp] theorem x19:∀(xs:List Dt),bLen [Dt.tup xs]=some (Fl.nw,Dt.int ↑(List.length xs)):=by intros;rfl
@[simp] theorem x20:∀(xs:aG),bLen [Dt.scr xs]=some (Fl.nw,Dt.int ↑(List.length xs)):=by intros;rfl
@[simp] theorem x22:∀(b:Bool),blD (Dt.bl b)=some b:=by intros;rfl
@[simp] theorem x24:truD Dt.non=some false:=by intros;rfl
@[simp] theorem x25:∀(b:Bool),truD (Dt.bl b)=some b:=by intros;rfl
@[simp] theorem x26:∀(i:Int),truD (Dt.int i)=some (i != 0):=by intros;rfl
@[simp] theorem x27:∀(ds:List Dt),truD (Dt.lst ds)=some !List.isEmpty ds:=by intros;rfl
@[simp] theorem x28:∀(ds:List Dt),truD (Dt.tup ds)=some !List.isEmpty ds:=by intros;rfl
@[simp] theorem x30:∀(F:FE) (ρ:Rho),sRet F ρ=Option.map (λx=>Oc.rt (Prod.fst x) (Prod.snd x)) (F ρ):=by intros;rfl
@[simp] theorem x31:∀(ρ:Rho),v4 ρ=some (Oc.nx ρ):=by intros;rfl
@[simp] theorem x32:∀(Fa Fb:FE) (ρ:Rho),fAt Fa Fb ρ=Option.bind (Fa ρ) λx=>Option.bind (Fb ρ) λy=>opAt x y:=by intros;rfl
@[simp] theorem x33:∀(x y:Dv),
 opAt x y =
  match Prod.snd x,Prod.snd y with
  | Dt.lst ds,Dt.int i=>Option.map (nrm (Fl.item (Prod.fst x))) (atI ds i)
  | Dt.tup ds,Dt.int i=>Option.map (nrm (Fl.item (Prod.fst x))) (atI ds i)
  | Dt.scr ns,Dt.int i=>Option.map (λn=>(Fl.nw,Dt.int n)) (atI ns i)
  | x,x_1=>none:=by intros;rfl
@[simp] theorem x34:∀(Fs:FA) (ρ:Rho),
 fLst Fs ρ =
  Option.bind (Fs ρ) λxs =>
   if List.length xs<=1000 then some (if Cg xs=true then Fl.nw else Fl.tn,Dt.lst (sndL xs)) else none:=by intros;rfl
@[simp] theorem x35:∀(Fs:FA) (ρ:Rho),
 fTup Fs ρ =
  Option.bind (Fs ρ) λxs =>
   if List.length xs<=1000 then
    some (if Cg xs=true then Fl.nw else if V3 xs=true then Fl.fr else Fl.sh,Dt.tup (sndL xs))
   else none:=by intros;rfl
@[simp] theorem x36:Fl.item Fl.tn=Fl.sh:=by intros;rfl
@[simp] theorem x37:∀(x:Fl),(x=Fl.tn->False)->Fl.item x=x:=by exact @L2.Fl.item.eq_2
@[simp] theorem x38:∀(d:Dt) (x:Rho),fC d x=some (Fl.nw,d):=by intros;rfl
@[simp] theorem x39:∀(F:FE) (ρ:Rho),fTru F ρ=Option.bind (F ρ) λx=>truD (Prod.snd x):=by intros;rfl
@[simp] theorem x40:∀(F:FT) (ρ:Rho),fNot F ρ=Option.map not (F ρ):=by intros;rfl
@[simp] theorem x41:∀(F G:FT) (ρ:Rho),fAnd F G ρ=Option.bind (F ρ) λb=>if b=true then G ρ else some false:=by intros;rfl
@[simp] theorem x42:∀(F G:FT) (ρ:Rho),fOr F G ρ=Option.bind (F ρ) λb=>if b=true then some true else G ρ:=by intros;rfl
@[simp] theorem x43:∀(F G:FE) (ρ:Rho),
 vAnd F G ρ=Option.bind (o9 F ρ) λb=>if b=true then G ρ else some (Fl.nw,Dt.bl false):=by intros;rfl
@[simp] theorem x44:∀(F G:FE) (ρ:Rho),vOr F G ρ=Option.bind (o9 F ρ) λb=>if b=true then some (Fl.nw,Dt.bl true) else G ρ:=by intros;rfl
@[simp] theorem x45:∀(F:FE) (ρ:Rho),vNot F ρ=Option.map (λb=>(Fl.nw,Dt.bl !b)) (o9 F ρ):=by intros;rfl
@[simp] theorem x46:∀(F:FE) (ρ:Rho),
 fNeg F ρ =
  Option.bind (F ρ) λx =>
   match Prod.snd x with
   | Dt.int i=>some (Fl.nw,Dt.int (-i))
   | x=>none:=by intros;rfl
@[simp] theorem x47:∀(F:FT) (Fa Fb:FE) (ρ:Rho),fIf F Fa Fb ρ=Option.bind (F ρ) λb=>if b=true then Fa ρ else Fb ρ:=by intros;rfl
@[simp] theorem x48:∀(T:String) (F:FE) (ρ:Rho),fIsi T F ρ=Option.map (λx=>(Fl.nw,Dt.bl (OW (tyN (Prod.snd x)) T))) (F ρ):=by intros;rfl
@[simp] theorem x49:∀(t T:String),OW t T=(t==T||t == "bool" && T == "int"):=by intros;rfl
@[simp] theorem x50:tyN Dt.non = "NoneType" := by intros;rfl
@[simp] theorem x51:∀(b:Bool),tyN (Dt.bl b) = "bool" := by intros;rfl
@[simp] theorem x52:∀(i:Int),tyN (Dt.int i) = "int" := by intros;rfl
@[simp] theorem x53:∀(x_1:PySem.Str),tyN (Dt.str x_1) = "str" := by intros;rfl
@[simp] theorem x54:∀(xs:List Dt),tyN (Dt.lst xs) = "list" := by intros;rfl
@[simp] theorem x55:∀(ns:aG),tyN (Dt.scr ns) = "list" := by intros;rfl
@[simp] theorem x56:∀(xs:List Dt),tyN (Dt.tup xs) = "tuple" := by intros;rfl
@[simp] theorem x57:∀(rels:List Nat) (i:Nat) (F:FE) (ρ:Rho),
 sSet rels i F ρ =
  Option.map (λx=>Oc.nx (List.set (relS rels ρ) i (Cell.sh (Fl.isFr (Prod.fst x)) (Prod.snd x))))
   (F (L0 (relS rels ρ))):=by intros;rfl
@[simp] theorem x58:∀(x:Rho),relS [] x=x:=by intros;rfl
@[simp] theorem x59:∀(x:Rho) (i:Nat) (is:List Nat),relS (i::is) x=relS is (LI x i):=by intros;rfl
@[simp] theorem x60:L0 []=[]:=by intros;rfl
@[simp] theorem x61:∀(c:Cell) (ρ:List Cell),L0 (c::ρ)=Cn c::L0 ρ:=by intros;rfl
@[simp] theorem x62:∀(f:Bool) (ds:List Dt),Cn (Cell.ow f ds)=Cell.no:=by intros;rfl
@[simp] theorem x63:∀(x:Cell),(∀(f:Bool) (ds:List Dt),x=Cell.ow f ds->False)->Cn x=x:=by exact @L2.Cn.eq_2
@[simp] theorem x64:∀(fr:Bool) (c:FC) (Fs:FA) (ρ:Rho),
 i7 fr c Fs ρ=Option.bind (Fs ρ) λxs=>Option.map (nrm (if fr=true then Fl.nw else Fl.sh)) (c (sndL xs)):=by intros;rfl
@[simp] theorem x65:Fl.isFr Fl.nw=true:=by intros;rfl
@[simp] theorem x66:Fl.isFr Fl.fr=true:=by intros;rfl
@[simp] theorem x68:Fl.isNw Fl.nw=true:=by intros;rfl
@[simp] theorem x69:∀(x:Fl),(x=Fl.nw->False)->Fl.isNw x=false:=by exact @L2.Fl.isNw.eq_2
@[simp] theorem x70:Cg []=true:=by intros;rfl
@[simp] theorem x71:∀(x_1:Dv) (xs:List Dv),Cg (x_1::xs)=(Fl.isNw (Prod.fst x_1)&&Cg xs):=by intros;rfl
@[simp] theorem x72:V3 []=true:=by intros;rfl
@[simp] theorem x73:∀(x_1:Dv) (xs:List Dv),V3 (x_1::xs)=(Fl.isFr (Prod.fst x_1)&&V3 xs):=by intros;rfl
@[simp] theorem x74:∀(F:FE) (ρ:Rho),Ad F ρ=Option.map (λx=>Oc.nx ρ) (F ρ):=by intros;rfl
@[simp] theorem x75:∀(rels:List Nat) (Fi:FI) (g:Tg) (F:FS) (ρ:Rho),
 sFor rels Fi g F ρ=Option.bind (Fi (L0 (relS rels ρ))) λitems=>forF g F items (relS rels ρ):=by intros;rfl
@[simp] theorem x76:∀(F:FE) (ρ:Rho),iSeq F ρ=Option.bind (F ρ) λx=>seqD (Prod.snd x):=by intros;rfl
@[simp] theorem x77:∀(ds:List Dt),seqD (Dt.lst ds)=some ds:=by intros;rfl
@[simp] theorem x78:∀(ds:List Dt),seqD (Dt.tup ds)=some ds:=by intros;rfl
@[simp] theorem x80:∀(i:Nat) (F:FE) (ρ:Rho),
 U1 i F ρ =
  Option.bind (F ρ) λx =>
   if Fl.isNw (Prod.fst x)=true then some (Oc.nx (List.set ρ i (Cell.sh true (Prod.snd x)))) else none:=by intros;rfl
@[simp] theorem x81:∀(i:Nat) (F:FE) (ρ:Rho),
 sOwn i F ρ =
  Option.bind (F (L0 ρ)) λx =>
   match x with
   | (Fl.nw,Dt.lst ds)=>if i<List.length ρ then some (Oc.nx (List.set ρ i (Cell.ow true ds))) else none
   | (Fl.tn,Dt.lst ds)=>if i<List.length ρ then some (Oc.nx (List.set ρ i (Cell.ow false ds))) else none
   | x=>none:=by intros;rfl
@[simp] theorem x82:∀(i:Nat) (F:FE) (ρ:Rho),
 sOwnA i F ρ =
  Option.bind (F ρ) λx =>
   match x with
   | (Fl.nw,Dt.lst ds)=>if i<List.length ρ then some (Oc.nx (List.set ρ i (Cell.ow true ds))) else none
   | x=>none:=by intros;rfl
@[simp] theorem x83:∀(w:FW) (i:Nat) (F:FE) (ρ:Rho),
 sWr w i F ρ =
  Option.bind (Fm ρ i) λo =>
   Option.bind (F (L0 ρ)) λx =>
    Option.map (λds=>Oc.nx (List.set ρ i (Cell.ow (Prod.fst o&&Fl.isFr (Prod.fst x)) ds)))
     (w (Prod.snd o) (Prod.snd x)):=by intros;rfl
@[simp] theorem x84:∀(w:FW) (i:Nat) (F:FE) (ρ:Rho),
 sWrA w i F ρ =
  Option.bind (Fm ρ i) λo =>
   Option.bind (F ρ) λx =>
    if Fl.isNw (Prod.fst x)=true then
     Option.map (λds=>Oc.nx (List.set ρ i (Cell.ow (Prod.fst o) ds))) (w (Prod.snd o) (Prod.snd x))
    else none:=by intros;rfl
@[simp] theorem x85:∀(i:Nat) (Fj Fe:FE) (ρ:Rho),
 sPut i Fj Fe ρ =
  Option.bind (Fm ρ i) λo =>
   Option.bind (Fe (L0 ρ)) λx =>
    Option.bind (Fj ρ) λj =>
     Option.bind (intD (Prod.snd j)) λn =>
      Option.map (λds=>Oc.nx (List.set ρ i (Cell.ow (Prod.fst o&&Fl.isFr (Prod.fst x)) ds)))
       (setD (Prod.snd o) n (Prod.snd x)):=by intros;rfl
@[simp] theorem x86:∀(ρ:Rho) (i:Nat),
 Fm ρ i =
  match ρ[i]? with
  | some (Cell.ow f ds)=>some (f,ds)
  | x=>none:=by intros;rfl
@[simp] theorem x87:∀(F:FE) (ρ:Rho),X7 F ρ=Option.bind (F ρ) λx=>Option.map (V4 0) (lstD (Prod.snd x)):=by intros;rfl
@[simp] theorem x88:∀(F:FE) (ρ:Rho),iRev F ρ=Option.bind (F ρ) λx=>Option.map List.reverse (lstD (Prod.snd x)):=by intros;rfl
@[simp] theorem x89:∀(ds:List Dt),lstD (Dt.lst ds)=some ds:=by intros;rfl
@[simp] theorem x91:∀(F G:FE) (ρ:Rho),
 iZip F G ρ =
  Option.bind (F ρ) λx =>
   Option.bind (G ρ) λy =>
    Option.bind (seqD (Prod.snd x)) λxs =>
     Option.bind (seqD (Prod.snd y)) λys=>if List.length xs=List.length ys then some (zipD xs ys) else none:=by intros;rfl
@[simp] theorem x92:∀(F:FE) (ρ:Rho),
 n9 F ρ =
  Option.bind (F ρ) λx =>
   Option.bind (intD (Prod.snd x)) λj=>if X5 j=true then some (K2 0 (Int.toNat j)) else none:=by intros;rfl
@[simp] theorem x93:∀(i:Int),intD (Dt.int i)=some i:=by intros;rfl
@[simp] theorem x95:∀(ds:List Dt) (d:Dt),wApp ds d=if List.length ds<1000000 then some (ds++[d]) else none:=by intros;rfl
@[simp] theorem x96:∀(ds:List Dt) (d:Dt),Js ds d=if List.length ds<1000000 then some (d::ds) else none:=by intros;rfl
@[simp] theorem x97:∀(ds:List Dt) (j:Int) (d:Dt),setD ds j d=Option.map (λk=>List.set ds k d) (ixN (List.length ds) j):=by intros;rfl
@[simp] theorem x98:∀(xs:List Dt),bLst [Dt.lst xs]=some (newL xs):=by intros;rfl
@[simp] theorem x99:∀(xs:List Dt),bLst [Dt.tup xs]=some (newL xs):=by intros;rfl
@[simp] theorem x101:∀(xs:List Dt),bTup [Dt.lst xs]=some (if E8 xs=true then Fl.nw else Fl.sh,Dt.tup xs):=by intros;rfl
@[simp] theorem x102:∀(xs:List Dt),bTup [Dt.tup xs]=some (if E8 xs=true then Fl.nw else Fl.sh,Dt.tup xs):=by intros;rfl
@[simp] theorem x104:∀(x:Dt) (x_1:Rho) (i:Nat),Tg.put (Tg.one i) x x_1=some (List.set x_1 i (Cell.sh false x)):=by intros;rfl
@[simp] theorem x105:∀(x:Rho) (is:List Nat) (ds:List Dt),
 Tg.put (Tg.many is) (Dt.tup ds) x=if List.length ds=List.length is then some (P6 x is ds) else none:=by intros;rfl
@[simp] theorem x107:∀(x:Rho) (i:Nat) (is:List Nat) (d:Dt) (ds:List Dt),
 P6 x (i::is) (d::ds)=P6 (List.set x i (Cell.sh false d)) is ds:=by intros;rfl
@[simp] theorem x108:∀(x:Rho) (x_1:List Nat) (x_2:List Dt),
 (∀(i:Nat) (is:List Nat) (d:Dt) (ds:List Dt),x_1=i::is->x_2=d::ds->False)->P6 x x_1 x_2=x:=by exact @L2.P6.eq_2
@[simp] theorem x109:El Cell.no=Cell.no:=by intros;rfl
@[simp] theorem x110:∀(f:Bool) (d:Dt),El (Cell.sh f d)=Cell.sh false d:=by intros;rfl
@[simp] theorem x111:∀(f:Bool) (ds:List Dt),El (Cell.ow f ds)=Cell.sh false (Dt.lst ds):=by intros;rfl
@[simp] theorem x112:∀(nt:Nat) (js:List Nat) (ρ:Rho),
 sigD nt js ρ =
  List.replicate nt Cell.no ++
   List.map
    (fun j =>
     match ρ[j]? with
     | some c=>El c
     | none=>Cell.no)
    js:=by intros;rfl
@[simp] theorem x113:∀(r r':FO) (Fa Fb Fc:FE) (ρ:Rho),
 Jj r r' Fa Fb Fc ρ =
  Option.bind (Fa ρ) λx =>
   Option.bind (Fb ρ) λy =>
    Option.bind (r (Prod.snd x) (Prod.snd y)) λz =>
     Option.bind (blD (Prod.snd z)) λk =>
      if k=true then Option.bind (Fc ρ) λw=>r' (Prod.snd y) (Prod.snd w) else some (Fl.nw,Dt.bl false):=by intros;rfl
@[simp] theorem x114:∀(c:FC) (F:FE) (ρ:Rho),
 Ez c F ρ =
  Option.bind (F ρ) λx =>
   Option.bind (lstD (Prod.snd x)) λds =>
    Option.bind (R5 c ds) λks =>
     if List.length ds<64/\List.Nodup ks then
      some (newL (List.map (λx=>Prod.snd x) (U3 (List.zip ks ds))))
     else none:=by intros;rfl
@[simp] theorem x115:∀(i j:Int),opLt (Dt.int i) (Dt.int j)=some (Fl.nw,Dt.bl (decide (i<j))):=by intros;rfl
@[simp] theorem x116:∀(i j:Int),opLe (Dt.int i) (Dt.int j)=some (Fl.nw,Dt.bl (decide (i<=j))):=by intros;rfl
@[simp] theorem x117:∀(i j:Int),opGt (Dt.int i) (Dt.int j)=some (Fl.nw,Dt.bl (decide (j<i))):=by intros;rfl
@[simp] theorem x118:∀(i j:Int),opGe (Dt.int i) (Dt.int j)=some (Fl.nw,Dt.bl (decide (j<=i))):=by intros;rfl
@[simp] theorem x119:∀(i j:Int),HW (Dt.int i) (Dt.int j)=some (Fl.nw,Dt.int (i-j)):=by intros;rfl
@[simp] theorem x120:∀(i j:Int),E3 (Dt.int i) (Dt.int j)=if Ac i j=true then some (Fl.nw,Dt.int (Int.fmod i j)) else none:=by intros;rfl
@[simp] theorem x121:∀(i j:Int),C3 (Dt.int i) (Dt.int j)=if C9 i j=true then some (Fl.nw,Dt.int (i*j)) else none:=by intros;rfl
@[simp] theorem x122:∀(i j:Int),AI (Dt.int i) (Dt.int j)=if P4 i j=true then some (Fl.nw,Dt.int (Int.fdiv i j)) else none:=by intros;rfl
@[simp] theorem x123:∀(i j:Int),LB (Dt.int i) (Dt.int j)=if Ji i j=true then some (Fl.nw,Dt.int (i ^ Int.toNat j)) else none:=by intros;rfl
@[simp] theorem x124:∀(i j:Int),u4 (Dt.int i) (Dt.int j)=some (Fl.nw,Dt.int (i+j)):=by intros;rfl
@[simp] theorem x125:∀(f:Fl) (i:Int),nrm f (Dt.int i)=(Fl.nw,Dt.int i):=by intros;rfl
@[simp] theorem x126:∀(f:Fl) (i:Bool),nrm f (Dt.bl i)=(Fl.nw,Dt.bl i):=by intros;rfl
@[simp] theorem x127:∀(f:Fl),nrm f Dt.non=(Fl.nw,Dt.non):=by intros;rfl
@[simp] theorem x128:∀(f:Fl) (ns:aG),nrm f (Dt.scr ns)=(f,Dt.scr ns):=by intros;rfl
@[simp] theorem x129:∀(f:Fl) (ns:aG),nrm f (L ns)=(f,L ns):=by intros;rfl
@[simp] theorem x130:∀(f:Fl) (ns:aA),nrm f (LL ns)=(f,LL ns):=by intros;rfl
@[simp] theorem x134:∀{α β:Type} {a:α} {f:α->Option β},Option.bind (some a) f=f a:=by intros;rfl
@[simp] theorem x135:∀{α β:Type} {f:α->Option β},Option.bind none f=none:=by intros;rfl
@[simp] theorem x136:∀{α:Type} {x:α} {xs:List α},atI (x::xs) 0=some x:=by exact @L2.atI_c0
@[simp] theorem x137:∀{α:Type} {x y:α} {xs:List α},atI (x::y::xs) 1=some y:=by exact @L2.atI_c1
@[simp] theorem x138:∀{α:Type} {x y z:α} {xs:List α},atI (x::y::z::xs) 2=some z:=by exact @L2.atI_c2
@[simp] theorem y1(ns:aG):newL (List.map Dt.int ns)=(Fl.nw,Dt.lst (List.map Dt.int ns)):=AN ns
@[simp] theorem y2:newL []=(Fl.nw,Dt.lst []):=rfl
@[simp] theorem y3(ns:aG):E8 (List.map Dt.int ns)=true:=X8 ns
@[simp] theorem y4(d:Dt):nrm Fl.nw d=(Fl.nw,d):=z1j d
@[simp] theorem y5(i:Int):Dt.flat (Dt.int i)=true:=rfl
@[simp] theorem y6(i:Bool):Dt.flat (Dt.bl i)=true:=rfl
@[simp] theorem y7(f:Fl)(ds:List Dt):nrm f (Dt.lst ds)=(f,Dt.lst ds):=rfl
@[simp] theorem y8:E8 []=true:=rfl
@[simp] theorem y9(d:Dt)(ds:List Dt):E8 (d::ds)=(d.flat&&E8 ds):=by rw[E8]
@[simp] theorem y10(ds:List Dt):Dt.flat (Dt.lst ds)=false:=by rw[Dt.flat]
@[simp] theorem y11(ds:List Dt):Dt.flat (Dt.tup ds)=E8 ds:=by rw[Dt.flat]
@[simp] theorem y12(f:Fl)(ds:List Dt):nrm f (Dt.tup ds)=(if E8 ds=true then Fl.nw else f,Dt.tup ds):=rfl
@[simp] theorem xd1:tyN Dt.dic = "dict" := rfl
end L2

end
section
local macro_rules|`(tactic|rfl')=>`(tactic|first|lia|omega +splitDisjunctions)
namespace L2
open PySem
theorem Ig{γ:Type}{g:Tg}{F:FS}(R:Nat->γ->Rho):∀(n k:Nat) (j:γ),(∀ i j,k<=i->i<k+n->∃ j',(g.put (.int (i:Int)) (R i j)).bind F=some (.nx (R (i+1) j')))->∃ j',forF g F ((List.range n).map λ(i:Nat) => .int (((k+i:Nat):Int))) (R k j)=some (.nx (R (k+n) j'))
 | 0,k,j,_=>⟨j,rfl⟩
 | n+1,k,j,h=>by
  obtain⟨j1,h1⟩:=h k j (wu _) (by rfl');obtain⟨j2,h2⟩:=Ig R n (k+1) j1 λi j hi hl=>h i j (by rfl') (by rfl');refine⟨j2,?_⟩;rw[uM,wm,E4,Nat.add_zero,h1,wV];rw[show k+(n+1)=k+1+n by rfl',←h2];show forF g F _ (R (k+1) j1)=forF g F _ (R (k+1) j1);congr 1;apply uA;intro i _;show Dt.int ((k+(i+1):Nat):Int)=_;rw[show k+(i+1)=k+1+i by rfl']
theorem Rs{γ:Type}{g:Tg}{F:FS}(R:Nat->γ->Rho)(n:Nat)(j:γ)(h:∀ i j,i<n->∃ j',(g.put (.int (i:Int)) (R i j)).bind F=some (.nx (R (i+1) j'))):∃ j',forF g F (K2 0 n) (R 0 j)=some (.nx (R n j')):=by
 obtain⟨j',e⟩:=Ig R n 0 j λi j _ hi=>h i j (by rfl');refine⟨j',?_⟩;rw[vX]at e;rw[←e,w8];congr 1
@[simp] theorem y13(n:Nat)(h:n<=1000000):X5 (n:Int)=true:=BD h
theorem getD_L(S:aA){k:Nat}(h:k<S.length):atI (S.map L) (k:Int)=some (L (S.getD k [])):=by rw[Y0,L3 [] h];rfl
end L2
namespace L2
open PySem
theorem Cq{α:Type}(xs:List α)(n:Nat):cutD xs (some (n:Int)) none=xs.drop n:=by
 unfold cutD;rw[HT.sIx_none,HT.sIx_nat];by_cases h:n<=xs.length
 · rw[w1g h,vP (by rw[wY];rfl')]
 · rw[w12 (by rfl'),uN (by rfl'),uN (by rfl')];simp
theorem Jz{α:Type}(xs:List α)(n:Nat):cutD xs none (some (n:Int))=xs.take n:=by
 unfold cutD;rw[HT.sIx_none,HT.sIx_nat,w0y,Nat.sub_zero];by_cases h:n<=xs.length
 · rw[w1g h]
 · rw[w12 (by rfl'),vP (by rfl'),vP (by rfl')]
@[simp] theorem y14(F:FE)(A B:FP)(ρ:Rho):fSl F A B ρ=(F ρ).bind λx=>(A ρ).bind λlo=>(B ρ).bind λhi=>match x.2 with|.lst ds=>some (newL (cutD ds lo hi))|_=>none:=rfl
@[simp] theorem y15(F:FE)(ρ:Rho):K9 F ρ=(F ρ).bind λx=>(intD x.2).map some:=rfl
@[simp] theorem y16(ρ:Rho):B7 ρ=some none:=rfl
theorem L4(xs:aG)(n:Nat):newL ((xs.map Dt.int).drop n)=(.nw,L (xs.drop n)):=by rw[←List.map_drop];exact AN _
theorem Y1(xs:aG)(n:Nat):newL ((xs.map Dt.int).take n)=(.nw,L (xs.take n)):=by rw[←w0h];exact AN _
theorem JA(a b:aG)(h:a.length+b.length<=1000000):u4 (.lst (a.map Dt.int)) (.lst (b.map Dt.int))=some (.nw,L (a++b)):=by
 have:u4 (.lst (a.map Dt.int)) (.lst (b.map Dt.int))=Cj (.lst (a.map Dt.int)) (.lst (b.map Dt.int)):=rfl;rw[this,Cj,if_pos (by simpa using h),←vm,AN]
end L2

end
section
local macro_rules|`(tactic|rfl')=>`(tactic|first|lia|omega +splitDisjunctions)
namespace Lat
abbrev Vec:=Nat->Int
def Span:List Vec->Vec->Prop
 | [],v=>∀ k,v k=0
 | r::rs,v=>∃ c:Int,Span rs (λk=>v k-c*r k)
theorem Span.congr{rs:List Vec}{v w:Vec}(h:∀ k,v k=w k)(s:Span rs v):Span rs w:=by
 have:v=w:=funext h;rw[←this];exact s
theorem Span.zero:∀{rs:List Vec},Span rs (λ_=>0)
 | []=>λ_=>rfl
 | r::rs=>⟨0,Span.congr (λk=>by simp) (Span.zero (rs:=rs))⟩
theorem Span.add:∀{rs:List Vec} {v w:Vec},Span rs v->Span rs w->Span rs (λk=>v k+w k)
 | [],v,w,h1,h2=>λk=>by show v k+w k=0;rw[h1 k,h2 k];rfl
 | r::rs,v,w,⟨c,h1⟩,⟨d,h2⟩=>⟨c+d,Span.congr (λk=>by show _=(v k+w k)-(c+d)*r k;rw[w19];rfl') (h1.add h2)⟩
theorem Span.smul:∀{rs:List Vec} {v:Vec} (a:Int),Span rs v->Span rs (λk=>a*v k)
 | [],v,a,h=>λk=>by show a*v k=0;rw[h k,w0P]
 | r::rs,v,a,⟨c,h⟩=>⟨a*c,Span.congr (λk=>by rw[w0b,vJ]) (h.smul a)⟩
theorem Span.neg{rs:List Vec}{v:Vec}(h:Span rs v):Span rs (λk =>-v k):=Span.congr (λk=>by rfl') (h.smul (-1))
theorem Span.sub{rs:List Vec}{v w:Vec}(h1:Span rs v)(h2:Span rs w):Span rs (λk=>v k-w k):=Span.congr (λk=>by rfl') (h1.add h2.neg)
theorem Span.head{r:Vec}{rs:List Vec}:Span (r::rs) r:=⟨1,Span.congr (λk=>by rfl') Span.zero⟩
theorem Span.cons{r:Vec}{rs:List Vec}{v:Vec}(h:Span rs v):Span (r::rs) v:=⟨0,Span.congr (λk=>by rfl') h⟩
theorem Span.mem:∀{rs:List Vec} {r:Vec},r∈rs->Span rs r
 | _::_,_,.head _=>Span.head
 | _::_,_,.tail _ h=>(Span.mem h).cons
theorem Span.least{P:Vec->Prop}(z:P (λ_=>0))(a:∀ v w,P v->P w->P (λk=>v k+w k))(m:∀(c:Int) v,P v->P (λk=>c*v k)):
  ∀{rs:List Vec} {v:Vec},(∀ r∈rs,P r)->Span rs v->P v
 | [],v,_,h=>by have:v=λ_=>0:=funext h;rw[this];exact z
 | r::rs,v,hr,⟨c,h⟩=>by
  have h1:=Span.least z a m (λx hx=>hr x (wc _ hx)) h;have h2:=a _ _ h1 (m c r (hr r we));have:v=λk=>(v k-c*r k)+c*r k:=funext λk=>by rfl'
  rw[this];exact h2
theorem Span.trans{rs ss:List Vec}{v:Vec}(h:∀ r∈rs,Span ss r)(s:Span rs v):Span ss v :=
 Span.least (P:=Span ss) Span.zero (λ_ _=>Span.add) (λc _=>Span.smul c) h s
def SameSpan(rs ss:List Vec):Prop:=(∀ r∈rs,Span ss r)/\∀ s∈ss,Span rs s
theorem SameSpan.iff{rs ss:List Vec}(h:SameSpan rs ss){v:Vec}:Span rs v↔Span ss v:=⟨Span.trans h.1,Span.trans h.2⟩
theorem SameSpan.refl{rs:List Vec}:SameSpan rs rs:=⟨λ_=>Span.mem,λ_=>Span.mem⟩
theorem SameSpan.symm{rs ss:List Vec}(h:SameSpan rs ss):SameSpan ss rs:=⟨h.2,h.1⟩
theorem SameSpan.trans{rs ss ts:List Vec}(h:SameSpan rs ss)(g:SameSpan ss ts):SameSpan rs ts:=⟨λr hr=>(h.1 r hr).trans g.1,λt ht=>(g.2 t ht).trans h.2⟩
theorem SameSpan.of_iff{rs ss:List Vec}(h:∀ v,Span rs v↔Span ss v):SameSpan rs ss:=⟨λr hr=>(h r).mp (Span.mem hr),λr hr=>(h r).mpr (Span.mem hr)⟩
def Form:Nat->List (Nat×Vec)->Prop
 | _,[]=>True
 | f,(h,r)::rs=>f<=h/\(∀ k,k<h->r k=0)/\0<r h/\(∀ p∈rs,0<=r p.1/\r p.1<p.2 p.1)/\Form (h+1) rs
abbrev E6(S:List (Nat×Vec)):List Vec:=S.map (·.2)
theorem Form.low:∀{f:Nat} {S:List (Nat×Vec)} {v:Vec},Form f S->Span (E6 S) v->∀ k,k<f->v k=0
 | _,[],v,_,s,k,_=>s k
 | f,(h,r)::S,v,⟨h1,h2,h3,h4,h5⟩,⟨c,s⟩,k,hk=>by
  have:=Form.low h5 s k (by rfl');have e:r k=0:=h2 k (by rfl');have this:v k-c*r k=0:=this;rw[e]at this;simpa using this
theorem Form.coef{f h:Nat}{r v:Vec}{S:List (Nat×Vec)}{c:Int}(F:Form f ((h,r)::S))(s:Span (E6 S) (λk=>v k-c*r k)):v h=c*r h:=by
 have:v h-c*r h=0:=F.2.2.2.2.low s h (by rfl');rfl'
theorem AB{c r v:Int}(e:v=c*r)(hr:0<r)(h1 : -r<v)(h2:v<r):c=0:=by
 rcases w0c c 0 with h|h|h
 · exfalso;have:c*r <= -1*r:=vI (by rfl') (by rfl');rfl'
 · exact h
 · exfalso;have:1*r<=c*r:=vI (by rfl') (by rfl');rfl'
theorem Form.small:∀{f:Nat} {S:List (Nat×Vec)} {v:Vec},Form f S->Span (E6 S) v->(∀ p∈S,-(p.2 p.1)<v p.1/\v p.1<p.2 p.1)->∀ k,v k=0
 | _,[],v,_,s,_=>s
 | f,(h,r)::S,v,F,⟨c,s⟩,hs=>by
  have e:=F.coef s;have hp:=hs (h,r) we;have c0:c=0:=AB e F.2.2.1 hp.1 hp.2;subst c0;refine F.2.2.2.2.small (Span.congr (λk=>by rfl') s) (λp hp=>hs p (wc _ hp))
theorem Form.tail{f h:Nat}{r v:Vec}{S:List (Nat×Vec)}(F:Form f ((h,r)::S))(s:Span (E6 ((h,r)::S)) v)(z:v h=0):Span (E6 S) v:=by
 obtain⟨c,s⟩:=s;have e:=F.coef s;have hr:=F.2.2.1;rw[z]at e;have c0:c=0:=by
  rcases vC.mp e.symm with h|h
  · exact h
  · rfl'
 subst c0;exact Span.congr (λk=>by rfl') s
theorem Form.head_le{f g h h':Nat}{r r':Vec}{S S':List (Nat×Vec)}(F:Form f ((h,r)::S))(G:Form g ((h',r')::S'))(s:Span (E6 ((h',r')::S')) r):h'<=h:=by
 apply vG;intro hlt;have G':Form h' ((h',r')::S'):=⟨wu _,G.2⟩;have:=G'.low s h hlt;have:=F.2.2.1;rfl'
theorem Form.unique:∀{S T:List (Nat×Vec)} {f g:Nat},Form f S->Form g T->SameSpan (E6 S) (E6 T)->S=T
 | [],[],_,_,_,_,_=>rfl
 | [],(h,r)::T,_,_,_,G,s=>by
  have:=s.2 r we h;have:=G.2.2.1;rfl'
 | (h,r)::S,[],_,_,F,_,s=>by
  have:=s.1 r we h;have:=F.2.2.1;rfl'
 | (h,r)::S,(h',r')::T,f,g,F,G,s=>by
  have s1:Span (E6 ((h',r')::T)) r:=s.1 r we;have s2:Span (E6 ((h,r)::S)) r':=s.2 r' we;have eh:h=h':=Nat.le_antisymm (G.head_le F s2) (F.head_le G s1);subst eh;have evh:r h=r' h:=by
   obtain⟨c,q⟩:=s1;obtain⟨d,q'⟩:=s2;have e1:=G.coef q;have e2:=F.coef q';have p1:=F.2.2.1;have p2:=G.2.2.1;have c1:1<=c:=by
     apply Int.not_lt.mp;intro hc;have:c*r' h<=0:=uF (by rfl') (by rfl');rfl'
   have d1:1<=d:=by
     apply Int.not_lt.mp;intro hd;have:d*r h<=0:=uF (by rfl') (by rfl');rfl'
   have a1:1*r' h<=c*r' h:=vI c1 (by rfl');have a2:1*r h<=d*r h:=vI d1 (by rfl');rfl'
  have tails:SameSpan (E6 S) (E6 T):=by
   constructor
   · intro x hx;have hs:Span (E6 S) x:=Span.mem hx;have z:=F.2.2.2.2.low hs h (by rfl');exact G.tail (s.iff.mp hs.cons) z
   · intro x hx;have hs:Span (E6 T) x:=Span.mem hx;have z:=G.2.2.2.2.low hs h (by rfl');exact F.tail (s.iff.mpr hs.cons) z
  have eST:=Form.unique F.2.2.2.2 G.2.2.2.2 tails;subst eST;have d0:Span (E6 S) (λk=>r k-r' k):=F.tail (Span.sub Span.head s2) (by rfl');have er:r=r':=funext λk=>by
   have:=F.2.2.2.2.small d0 (λp hp=>by
     have q1:=F.2.2.2.1 p hp;have q2:=G.2.2.2.1 p hp;rfl') k
   rfl'
  rw[er]
end Lat

end
section
namespace Lat
theorem AC{α β:Type}[DecidableEq β]:∀{l:List α} {m:List β} (f:α->β),l.Nodup->(∀ x∈l,∀ y∈l,f x=f y->x=y)->(∀ x∈l,f x∈m)->l.length<=m.length
 | [],m,f,_,_,_=>wK _
 | x::l,m,f,hn,hi,hm=>by
  have hx:=hm x we;have hn':=vq.mp hn;have h1:l.length<=(m.erase (f x)).length:=by
   refine AC f hn'.2 (λa ha b hb=>hi a (wc _ ha) b (wc _ hb)) (λa ha=>?_);have hne:f a≠f x:=λe=>by
    have:=hi a (wc _ ha) x we e;subst this;exact hn'.1 ha
   exact(List.mem_erase_of_ne hne).mpr (hm a (wc _ ha))
  have h2:(m.erase (f x)).length=m.length-1:=List.length_erase_of_mem hx;have h3:0<m.length:=List.length_pos_of_mem hx;simp only[wn];rfl'
def box:List Nat->aA
 | []=>[[]]
 | n::ns=>(List.range n).flatMap λ(i:Nat)=>(box ns).map λt=>(i:Int)::t
def prod:List Nat->Nat
 | []=>1
 | n::ns=>n*prod ns
theorem Pl{α:Type}(g:Nat->List α)(k:Nat):∀(l:List Nat),(∀ i∈l,(g i).length=k)->(l.flatMap g).length=l.length*k
 | [],_=>by simp
 | i::l,h=>by
  rw[w0Q,ww,Pl g k l (λj hj=>h j (wc _ hj)),h i we,wn,uO,Nat.add_comm]
theorem EB:∀ ns:List Nat,(box ns).length=prod ns
 | []=>rfl
 | n::ns=>by
  show((List.range n).flatMap λ(i:Nat)=>(box ns).map λt=>(i:Int)::t).length=n*prod ns;rw[Pl _ (prod ns) _ (λi _=>by rw[wv,EB ns]),vM]
def J3:List Nat->aG->Prop
 | [],[]=>True
 | n::ns,x::xs=>0<=x/\x<n/\J3 ns xs
 | _,_=>False
theorem DD:∀{ns:List Nat} {t:aG},t∈box ns↔J3 ns t
 | [],[]=>by simp[box,J3]
 | [],x::t=>by simp[box,J3]
 | n::ns,[]=>by simp[box,J3]
 | n::ns,x::t=>by
  simp only[box,J3,w13,wQ,wg,List.cons.injEq];constructor
  · rintro⟨i,hi,u,hu,rfl,rfl⟩;exact⟨by rfl',by rfl',DD.mp hu⟩
  · rintro⟨h0,h1,h2⟩;exact⟨x.toNat,by rfl',t,DD.mpr h2,by rfl',rfl⟩
theorem LO:∀ ns:List Nat,(box ns).Nodup
 | []=>by simp[box]
 | n::ns=>by
  have ih:=LO ns;have key:∀ m,((List.range m).flatMap λ(i:Nat)=>(box ns).map λt=>(i:Int)::t).Nodup:=by
   intro m
   induction m with
   | zero=>simp
   | succ m hm =>
    rw[uE,List.flatMap_append,w0R];refine⟨hm,?_,?_⟩
    · rw[w0Q,List.flatMap_nil,uf];refine List.Pairwise.map _ (λa b hab e=>hab ?_) ih;exact(List.cons.inj e).2
    · intro a ha b hb e;subst e;simp only[w13,wQ,wg,wW]at ha hb;obtain⟨i,hi,u,hu,rfl⟩:=ha;obtain⟨j,hj,w,hw,e⟩:=hb;have:=(List.cons.inj e).1;rfl'
  exact key n
theorem Yp{ns ms:List Nat}(f:aG->aG)(hi:∀ s t,J3 ns s->J3 ns t->f s=f t->s=t)(hm:∀ s,J3 ns s->J3 ms (f s)):prod ns<=prod ms:=by
 rw[←EB ns,←EB ms];exact AC f (LO ns) (λx hx y hy=>hi x y (DD.mp hx) (DD.mp hy)) (λx hx=>DD.mpr (hm x (DD.mp hx)))
end Lat

end
section
local macro_rules|`(tactic|rfl')=>`(tactic|first|lia|omega +splitDisjunctions)
namespace Br
structure BI(a b u0 u1 u2 l0 l1 l2:Int):Prop where
 up:a*u1+b*u2=u0
 lo:a*l1+b*l2=l0
 gcd:ui u0 l0=ui a b
 p1:u0.natAbs*l1.natAbs+l0.natAbs*u1.natAbs<=a.natAbs+2*b.natAbs
 p2:u0.natAbs*l2.natAbs+l0.natAbs*u2.natAbs<=a.natAbs+2*b.natAbs
 ph:(u0=a/\u1=1/\u2=0/\l0=b/\l1=0/\l2=1)\/(0<=u0*l0/\u0≠0)
 b1:u1.natAbs<=a.natAbs+2*b.natAbs+1
 b2:u2.natAbs<=a.natAbs+2*b.natAbs+1
 b3:l1.natAbs<=a.natAbs+2*b.natAbs+1
 b4:l2.natAbs<=a.natAbs+2*b.natAbs+1
 c1:u0.natAbs<=a.natAbs+b.natAbs
 c2:l0.natAbs<=b.natAbs
theorem BI.start(a b:Int):BI a b a 1 0 b 0 1 where
 up:=by simp
 lo:=by simp
 gcd:=rfl
 p1:=by simp;rfl'
 p2:=by simp
 ph := .inl ⟨rfl,rfl,rfl,rfl,rfl,rfl⟩
 b1:=by simp
 b2:=by simp
 b3:=by simp
 b4:=by simp
 c1:=by rfl'
 c2:=by rfl'
theorem pot(L A R Qa u1 l1 f1 E:Nat)(hA:Qa*L+R<=A+E)(hf:f1<=u1+Qa*l1):L*f1+R*l1<=A*l1+L*u1+E*l1:=by
 have h1:L*f1<=L*(u1+Qa*l1):=vd L hf;have h2:L*(u1+Qa*l1)=L*u1+Qa*L*l1:=by
  rw[w0d,←vK,uv L Qa]
 have h3:(Qa*L+R)*l1<=(A+E)*l1:=wy l1 hA;rw[w1a,w1a]at h3;rfl'
theorem Pm(u l:Int)(h:0<l):(u-u.fdiv l*l).natAbs<l.natAbs/\0<=l*(u-u.fdiv l*l)/\(0<=u*l->(u.fdiv l).natAbs*l.natAbs+(u-u.fdiv l*l).natAbs=u.natAbs) /\
  (u.fdiv l).natAbs*l.natAbs<=u.natAbs+(u-u.fdiv l*l).natAbs:=by
 have hs:u.fdiv l*l=u-u.fmod l:=Int.fdiv_mul_self u l;have hq:(u.fdiv l).natAbs*l.natAbs=(u.fdiv l*l).natAbs:=(wZ _ _).symm;have e:u-u.fdiv l*l=u.fmod l:=by rfl'
 rw[e,hq,hs];have h1:0<=u.fmod l:=vk u h;have h2:u.fmod l<l:=vD u h;refine⟨by rfl',w0z (by rfl') h1,λhu=>?_,by rfl'⟩;have hu0:0<=u:=by
  by_cases hu':0<=u
  · exact hu'
  · have:=Int.mul_neg_of_neg_of_pos (show u<0 by rfl') h;rfl'
 have:u.fmod l<=u:=by
  have q1:0<=u.fdiv l:=Int.fdiv_nonneg hu0 (by rfl');have q2:0<=u.fdiv l*l:=w0z q1 (by rfl');rfl'
 rfl'
theorem Yq(u l:Int)(hl:l≠0):(u-u.fdiv l*l).natAbs<l.natAbs/\0<=l*(u-u.fdiv l*l)/\(0<=u*l->(u.fdiv l).natAbs*l.natAbs+(u-u.fdiv l*l).natAbs=u.natAbs) /\
   (u.fdiv l).natAbs*l.natAbs<=u.natAbs+(u-u.fdiv l*l).natAbs:=by
 rcases Int.lt_or_gt_of_ne hl with h|h
 · have q:=Pm (-u) (-l) (by rfl');rw[Int.neg_fdiv_neg]at q;have e : -u-u.fdiv l * -l = -(u-u.fdiv l*l):=by rw[w1b];rfl'
   rw[e,uP,uP,uP,w1h,w1h]at q;exact q
 · exact Pm u l h
theorem JB{a b c:Nat}(h:a*b<=c)(ha:a≠0):b<=c:=wG (Nat.le_mul_of_pos_left b (Nat.pos_of_ne_zero ha)) h
theorem Yr(u q l:Int):(u-q*l).natAbs<=u.natAbs+q.natAbs*l.natAbs:=by
 have:=wZ q l;rfl'
theorem BI.turn{a b u0 u1 u2 l0 l1 l2:Int}(h:BI a b u0 u1 u2 l0 l1 l2)(hl:l0≠0):
   BI a b l0 l1 l2 (u0-u0.fdiv l0*l0) (u1-u0.fdiv l0*l1) (u2-u0.fdiv l0*l2):=by
 obtain⟨r1,r2,r3,r4⟩:=Yq u0 l0 hl;have hL:l0.natAbs≠0:=λe=>hl (w0I.mp e);have hup:=h.up;have hlo:=h.lo;generalize eq:u0.fdiv l0=q at *;have lin:∀(x y:Int),a*(x-q*l1)+b*(y-q*l2)=(a*x+b*y)-q*(a*l1+b*l2):=λx y=>by
   rw[w0b,w0b,w0e,uQ a q l1,uQ b q l2];rfl'
 have f1:(u1-q*l1).natAbs<=u1.natAbs+q.natAbs*l1.natAbs:=Yr u1 q l1;have f2:(u2-q*l2).natAbs<=u2.natAbs+q.natAbs*l2.natAbs:=Yr u2 q l2;have key:∀(x y f:Nat),f<=x+q.natAbs*y->u0.natAbs*y+l0.natAbs*x<=a.natAbs+2*b.natAbs->((0<=u0*l0)\/(y=0)\/(y=1/\x=0/\u0=a/\l0=b)) ->
     l0.natAbs*f+(u0-q*l0).natAbs*y<=a.natAbs+2*b.natAbs:=λx y f hf hp hc=>by
   rcases hc with hc|hc|⟨hc,hx,ha,hb⟩
   · have:=pot l0.natAbs u0.natAbs (u0-q*l0).natAbs q.natAbs x y f 0 (by have:=r3 hc;rfl') hf;rfl'
   · subst hc;have:l0.natAbs*f<=l0.natAbs*x:=vd _ (by rfl');rfl'
   · subst hc;subst hx;have:=pot l0.natAbs u0.natAbs (u0-q*l0).natAbs q.natAbs 0 1 f (2*(u0-q*l0).natAbs) (by rfl') hf;have hab:u0.natAbs=a.natAbs:=by rw[ha]
     have hbb:l0.natAbs=b.natAbs:=by rw[hb]
     generalize (u0-q*l0).natAbs=R at *;generalize l0.natAbs*f=Z at *;rfl'
 have ph1:0<=u0*l0\/l1.natAbs=0\/(l1.natAbs=1/\u1.natAbs=0/\u0=a/\l0=b):=by
   rcases h.ph with⟨_,_,_,_,e,_⟩|⟨e,_⟩
   · exact .inr (.inl (by rw[e];rfl))
   · exact .inl e
 have ph2:0<=u0*l0\/l2.natAbs=0\/(l2.natAbs=1/\u2.natAbs=0/\u0=a/\l0=b):=by
   rcases h.ph with⟨e1,_,e2,e3,_,e4⟩|⟨e,_⟩
   · exact .inr (.inr ⟨by rw[e4];rfl,by rw[e2];rfl,e1,e3⟩)
   · exact .inl e
 have k1:=key _ _ _ f1 h.p1 ph1;have k2:=key _ _ _ f2 h.p2 ph2;have c2:=h.c2;refine⟨hlo,?_,?_,k1' k1,k1' k2,.inr ⟨r2,hl⟩,h.b3,h.b4,?_,?_,by rfl',by rfl'⟩
 · rw[lin,hup,hlo]
 · rw[Int.gcd_sub_mul_right_right,Int.gcd_comm,h.gcd]
 · exact w0a (JB (wG (w14 _ _) k1) hL)
 · exact w0a (JB (wG (w14 _ _) k2) hL)
where k1' {x y:Nat} (h:x<=y):x<=y:=h
theorem BI.fin{a b u0 u1 u2 l1 l2:Int}(h:BI a b u0 u1 u2 0 l1 l2):(u0.natAbs:Int)=ui a b:=by
 have:=h.gcd;rw[Int.gcd_zero_right]at this;rw[this]
end Br

end
section
namespace St
abbrev Row:=aG
def at0(r:Row)(k:Nat):Int:=r.getD k 0
def f9:Row->Nat
 | []=>0
 | x::r=>if x=0 then f9 r+1 else 0
theorem GR:∀ r:Row,f9 r<=r.length
 | []=>wu _
 | x::r=>by
  unfold f9;split
  · exact w15 (GR r)
  · exact wK _
theorem u6:∀(r:Row) (k:Nat),k<f9 r->at0 r k=0
 | [],k,h=>by simp[f9]at h
 | x::r,k,h=>by
  unfold f9 at h;split at h
  · rename_i hx;cases k with
    | zero=>simp[at0,hx]
    | succ k=>exact u6 r k (by rfl')
  · rfl'
theorem Cr:∀(r:Row),f9 r<r.length->at0 r (f9 r)≠0
 | [],h=>by simp[f9]at h
 | x::r,h=>by
  unfold f9 at h ⊢;split at h
  · rename_i hx;rw[if_pos hx];exact Cr r (by simpa using h)
  · rename_i hx;rw[if_neg hx];exact hx
theorem O9:∀(r:Row) (h:Nat),(∀ k,k<h->at0 r k=0)->at0 r h≠0->f9 r=h
 | [],h,_,q=>by simp[at0]at q
 | x::r,0,_,q=>by
  unfold f9;rw[if_neg (by simpa[at0]using q)]
 | x::r,h+1,z,q=>by
  have hx:x=0:=by simpa[at0]using z 0 (by rfl')
  unfold f9;rw[if_pos hx,O9 r h (λk hk=>by simpa[at0]using z (k+1) (by rfl')) (by simpa[at0]using q)]
theorem ZT(r:Row)(h:Nat)(z:∀ k,k<h->at0 r k=0)(hl:h<=r.length):h<=f9 r:=by
 apply vG;intro hlt;exact Cr r (by rfl') (z _ hlt)
theorem B4{r:Row}{k:Nat}(h:r.length<=k):at0 r k=0:=by simp[at0,List.getD,wJ h]
theorem ext0{a b:Row}(h:a.length=b.length)(q:∀ k,at0 a k=at0 b k):a=b:=by
 apply vS h;intro i h1 h2;have:=q i;simpa[at0,List.getD,wa h1,wa h2]using this
def sub(a:Row)(q:Int)(b:Row):Row:=List.zipWith (λx y=>x-q*y) a b
theorem N8{a b:Row}{q:Int}(h:a.length=b.length):(sub a q b).length=a.length:=by unfold sub;rw[vN];rfl'
theorem M7{a b:Row}{q:Int}(h:a.length=b.length)(k:Nat):at0 (sub a q b) k=at0 a k-q*at0 b k:=by
 by_cases hk:k<a.length
 · unfold at0 sub;simp[List.getD,uR,wa hk,wa (show k<b.length by rfl')]
 · rw[B4 (by rw[N8 h];rfl'),B4 (by rfl'),B4 (show b.length<=k by rfl')];simp
def lin(x:Int)(a:Row)(y:Int)(b:Row):Row:=List.zipWith (λp q=>x*p+y*q) a b
theorem IM{a b:Row}{x y:Int}(h:a.length=b.length):(lin x a y b).length=a.length:=by unfold lin;rw[vN];rfl'
theorem IN{a b:Row}{x y:Int}(h:a.length=b.length)(k:Nat):at0 (lin x a y b) k=x*at0 a k+y*at0 b k:=by
 by_cases hk:k<a.length
 · unfold at0 lin;simp[List.getD,uR,wa hk,wa (show k<b.length by rfl')]
 · rw[B4 (by rw[IM h];rfl'),B4 (by rfl'),B4 (show b.length<=k by rfl')];simp
def hd(r:Row):Int:=at0 r (f9 r)
def C1(left rung:Row):Int:=(at0 left (f9 rung)).fdiv (hd rung)
def n8:Row->aA->Row
 | left,[]=>left
 | left,r::rs=>n8 (sub left (C1 left r) r) rs
def JC:Row->aA->aG
 | _,[]=>[]
 | left,r::rs=>C1 left r::JC (sub left (C1 left r) r) rs
def Asc(n:Nat):Nat->aA->Prop
 | _,[]=>True
 | f,r::rs=>r.length=n/\f<=f9 r/\f9 r<n/\0<hd r/\Asc n (f9 r+1) rs
theorem Asc.weak{n:Nat}:∀{f g:Nat} {S:aA},Asc n f S->g<=f->Asc n g S
 | _,_,[],_,_=>trivial
 | _,_,r::rs,⟨h1,h2,h3,h4,h5⟩,h=>⟨h1,wG h h2,h3,h4,h5⟩
theorem Asc.mem{n:Nat}:∀{f:Nat} {S:aA} {r:Row},Asc n f S->r∈S->r.length=n/\f<=f9 r/\f9 r<n/\0<hd r
 | _,_::_,_,⟨h1,h2,h3,h4,h5⟩,.head _=>⟨h1,h2,h3,h4⟩
 | _,_::_,_,⟨h1,h2,h3,h4,h5⟩,.tail _ q=>by obtain⟨a,b,c,d⟩:=h5.mem q;exact⟨a,by rfl',c,d⟩
theorem I0{n:Nat}:∀{f:Nat} {S:aA} {left:Row},Asc n f S->left.length=n->(n8 left S).length=n
 | _,[],left,_,h=>h
 | _,r::rs,left,⟨h1,h2,h3,h4,h5⟩,h=>by rw[n8];exact I0 h5 (by rw[N8 (by rfl')];exact h)
theorem BE{n:Nat}:∀{f:Nat} {S:aA} {left:Row},Asc n f S->left.length=n->∀ k,k<f->at0 (n8 left S) k=at0 left k
 | _,[],left,_,h,k,_=>rfl
 | f,r::rs,left,⟨h1,h2,h3,h4,h5⟩,h,k,hk=>by
  rw[n8,BE h5 (by rw[N8 (by rfl')];exact h) k (by rfl'),M7 (by rfl'),u6 r k (by rfl')];simp
theorem GS(a:Int){b:Int}(h:0<b):0<=a-a.fdiv b*b/\a-a.fdiv b*b<b:=by
 have h1:=vk a h;have h2:=vD a h;have h3:=Int.mul_fdiv_add_fmod a b;rw[wM]at h3;rfl'
theorem L5{n:Nat}:∀{f:Nat} {S:aA} {left:Row},Asc n f S->left.length=n->∀ r∈S,0<=at0 (n8 left S) (f9 r)/\at0 (n8 left S) (f9 r)<hd r
 | f,r::rs,left,⟨h1,h2,h3,h4,h5⟩,h,x,hx=>by
  have hl:(sub left (C1 left r) r).length=n:=by rw[N8 (by rfl')];exact h
  rw[n8];cases hx with
  | head =>
   rw[BE h5 hl _ (vy _),M7 (by rfl')];exact GS _ h4
  | tail _ hx=>exact L5 h5 hl x hx
def Lt(m:Nat)(r:Row):Prop:=∀ k,(at0 r k).natAbs<m
theorem Lt.mono{m m':Nat}{r:Row}(h:Lt m r)(q:m<=m'):Lt m' r:=λk=>wB (h k) q
theorem AR(a:Int){b:Int}(h:0<b):(a.fdiv b).natAbs<=a.natAbs:=by
 have h1:=GS a h;generalize a.fdiv b=q at *;rcases w0c q 0 with hq|hq|hq
 · have e:(q+1)*b=q*b+b:=by rw[w19];rfl'
   have:(q+1)*b<=(q+1)*1:=Int.mul_le_mul_of_nonpos_left (by rfl') (by rfl');rfl'
 · subst hq;simp
 · have:q*1<=q*b:=Int.mul_le_mul_of_nonneg_left (by rfl') (by rfl');rfl'
theorem sub_lt{a b:Row}{q:Int}{s t u:Nat}(hl:a.length=b.length)(ha:Lt s a)(hb:Lt t b)(hq:q.natAbs<=u)(hs:0<s)(ht:0<t):Lt (s+u*t) (sub a q b):=λk=>by
 rw[M7 hl];have h1:=ha k;have h2:=hb k;have h3:(q*at0 b k).natAbs<=u*(t-1):=by rw[wZ];exact vL hq (by rfl')
 have h4:u*(t-1)<=u*t:=vd _ (by rfl');rfl'
theorem z1m{left r:Row}{s t:Nat}(hl:left.length=r.length)(hr:0<hd r)(ha:Lt s left)(hb:Lt t r):Lt (s*(t+1)) (sub left (C1 left r) r):=by
 have hs:0<s:=w04 (wK _) (ha 0);have ht:0<t:=w04 (wK _) (hb 0);have:=sub_lt (q:=C1 left r) (u:=s) hl ha hb (wG (AR (at0 left (f9 r)) hr) (vw (ha (f9 r)))) hs ht;rw[w0d,Nat.mul_one,Nat.add_comm];exact this
end St

end
section
local macro_rules|`(tactic|rfl')=>`(tactic|first|lia|omega +splitDisjunctions)
namespace St
open Lat
abbrev vec(r:Row):Vec:=λk=>at0 r k
abbrev vecs(S:aA):List Vec:=S.map vec
theorem Ct{S:aA}{r:Row}(h:r∈S):vec r∈vecs S:=wg.mpr ⟨r,h,rfl⟩
theorem F4{n:Nat}:∀{f:Nat} {S:aA} {left:Row},Asc n f S->left.length=n->Span (vecs S) (λk=>at0 left k-at0 (n8 left S) k)
 | _,[],left,_,h=>λk=>by show at0 left k-at0 left k=0;rfl'
 | f,r::rs,left,⟨h1,h2,h3,h4,h5⟩,h=>by
  have hl:(sub left (C1 left r) r).length=n:=by rw[N8 (by rfl')];exact h
  have ih:=F4 h5 hl;refine⟨C1 left r,Span.congr (λk=>?_) ih⟩;rw[n8];show at0 (sub left (C1 left r) r) k-at0 (n8 (sub left (C1 left r) r) rs) k=at0 left k-at0 (n8 (sub left (C1 left r) r) rs) k-C1 left r*at0 r k;rw[M7 (by rfl')];rfl'
def mix:aA->aG->Vec
 | r::rs,c::cs=>λk=>c*at0 r k+mix rs cs k
 | _,_=>λ_=>0
theorem Asc.low{n:Nat}:∀{f:Nat} {S:aA} {v:Vec},Asc n f S->Span (vecs S) v->∀ k,k<f->v k=0
 | _,[],v,_,s,k,_=>s k
 | f,r::S,v,⟨h1,h2,h3,h4,h5⟩,⟨c,s⟩,k,hk=>by
  have e:=Asc.low h5 s k (by rfl');have e2:at0 r k=0:=u6 r k (by rfl');have e:v k-c*at0 r k=0:=e;rw[e2]at e;simpa using e
theorem Asc.coef{n f:Nat}{r:Row}{v:Vec}{S:aA}{c:Int}(A:Asc n f (r::S))(s:Span (vecs S) (λk=>v k-c*at0 r k)):v (f9 r)=c*hd r:=by
 have:v (f9 r)-c*at0 r (f9 r)=0:=A.2.2.2.2.low s _ (vy _);unfold hd;rfl'
theorem Asc.first{n:Nat}:∀{f:Nat} {S:aA} {v:Vec} {h:Nat},Asc n f S->Span (vecs S) v->(∀ k,k<h->v k=0)->v h≠0->∃ r∈S,f9 r=h
 | _,[],v,h,_,s,_,q=>absurd (s h) q
 | f,r::S,v,h,A,⟨c,s⟩,z,q=>by
  have e:=A.coef s;by_cases hc:c=0
  · subst hc;have s':Span (vecs S) v:=Span.congr (λk=>by simp) s;obtain⟨x,hx,e⟩:=A.2.2.2.2.first s' z q;exact⟨x,wc _ hx,e⟩
  · have hn:v (f9 r)≠0:=by
      rw[e];intro z;rcases vC.mp z with z|z
      · exact hc z
      · have:=A.2.2.2.1;rfl'
    have h1:¬f9 r<h:=λz'=>hn (z _ z');by_cases h2:h<f9 r
    · exfalso;have e2:v h-c*at0 r h=0:=A.2.2.2.2.low s h (by rfl');rw[u6 r h h2]at e2;exact q (by simpa using e2)
    · exact⟨r,we,by rfl'⟩
def even:aA->aA
 | []=>[]
 | r::rs=>n8 r (even rs)::even rs
theorem W3{n:Nat}:∀{f:Nat} {S:aA},Asc n f S->Asc n f (even S)/\(even S).map f9=S.map f9/\(even S).map hd=S.map hd
 | _,[],_=>⟨trivial,rfl,rfl⟩
 | f,r::rs,⟨h1,h2,h3,h4,h5⟩=>by
  obtain⟨i1,i2,i3⟩:=W3 h5;have low:=BE i1 h1;have e1:at0 (n8 r (even rs)) (f9 r)=hd r:=low _ (vy _);have e2:f9 (n8 r (even rs))=f9 r:=O9 _ _ (λk hk=>by rw[low k (by rfl')];exact u6 r k hk) (by rw[e1];rfl');have e3:hd (n8 r (even rs))=hd r:=by unfold hd;rw[e2];exact e1
  refine⟨⟨I0 i1 h1,by rw[e2];exact h2,by rw[e2];exact h3,by rw[e3];exact h4,by rw[e2];exact i1⟩,?_,?_⟩
  · rw[even,wm,wm,e2,i2]
  · rw[even,wm,wm,e3,i3]
def z9(S:aA):List (Nat×Vec):=S.map λr=>(f9 r,vec r)
theorem LP{n:Nat}:∀{f:Nat} {S:aA},Asc n f S->Form f (z9 (even S))
 | _,[],_=>trivial
 | f,r::rs,A=>by
  obtain⟨j1,_,_⟩:=W3 A;obtain⟨h1,h2,h3,h4,h5⟩:=A;obtain⟨i1,i2,i3⟩:=W3 h5;obtain⟨k1,k2,k3,k4,k5⟩:=j1;have low:=BE i1 h1;have e1:at0 (n8 r (even rs)) (f9 r)=hd r:=low _ (vy _);have e2:f9 (n8 r (even rs))=f9 r:=O9 _ _ (λk hk=>by rw[low k (by rfl')];exact u6 r k hk) (by rw[e1];rfl');refine⟨k2,λk hk=>u6 _ k hk,k4,λp hp=>?_,by rw[e2];exact LP h5⟩;obtain⟨x,hx,rfl⟩:=wg.mp hp;exact L5 i1 h1 x hx
theorem LQ{n:Nat}:∀{f:Nat} {S:aA},Asc n f S->SameSpan (vecs (even S)) (vecs S)
 | _,[],_=>SameSpan.refl
 | f,r::rs,A=>by
  obtain⟨h1,h2,h3,h4,h5⟩:=A;obtain⟨i1,i2,i3⟩:=W3 h5;have ih:=LQ h5;have sp:=F4 i1 h1;constructor
  · intro v hv;obtain⟨x,hx,rfl⟩:=wg.mp hv;rcases wq.mp hx with rfl|hx
    · refine⟨1,Span.congr (λk=>?_) ((ih.iff.mp sp).neg)⟩;show -(at0 r k-at0 (n8 r (even rs)) k)=at0 (n8 r (even rs)) k-1*at0 r k;rfl'
    · exact(ih.1 _ (Ct hx)).cons
  · intro v hv;obtain⟨x,hx,rfl⟩:=wg.mp hv;rcases wq.mp hx with rfl|hx
    · refine⟨1,Span.congr (λk=>?_) sp⟩;show at0 x k-at0 (n8 x (even rs)) k=at0 x k-1*at0 (n8 x (even rs)) k;rfl'
    · exact(ih.2 _ (Ct hx)).cons
end St

end
section
local macro_rules|`(tactic|rfl')=>`(tactic|first|lia|omega +splitDisjunctions)
namespace St
open Lat
theorem Asc.iff{n:Nat}:∀{f:Nat} {S:aA},Asc n f S↔(∀ r∈S,r.length=n/\f<=f9 r/\f9 r<n/\0<hd r)/\(S.map f9).Pairwise (·<·)
 | f,[]=>by simp[Asc]
 | f,r::rs=>by
  constructor
  · intro A;refine⟨λx hx=>A.mem hx,?_⟩;rw[wm,vg];refine⟨λh hh=>?_,(Asc.iff.mp A.2.2.2.2).2⟩;obtain⟨x,hx,rfl⟩:=wg.mp hh;exact(A.2.2.2.2.mem hx).2.1
  · rintro⟨h1,h2⟩;rw[wm,vg]at h2;have q:=h1 r we;refine⟨q.1,q.2.1,q.2.2.1,q.2.2.2,Asc.iff.mpr ⟨λx hx=>?_,h2.2⟩⟩;have q2:=h1 x (wc _ hx);exact⟨q2.1,h2.1 _ (wg.mpr ⟨x,hx,rfl⟩),q2.2.2.1,q2.2.2.2⟩
theorem sub_zero{a b:Row}(h:a.length=b.length):sub a 0 b=a:=ext0 (N8 h) λk=>by rw[M7 h];simp
theorem Cu{n:Nat}{t:Nat}:∀{S:aA} {left:Row},(∀ r∈S,r.length=n)->left.length=n->(∀ k,k<t->at0 left k=0)->(∀ k,k<t->at0 (n8 left S) k=0)/\(n8 left S).length=n
 | [],left,_,hl,z=>⟨z,hl⟩
 | r::rs,left,hw,hl,z=>by
  have h1:=hw r we;rw[n8];refine Cu (λx hx=>hw x (wc _ hx)) (by rw[N8 (by rfl')];exact hl) λk hk=>?_;rw[M7 (by rfl'),z k hk];by_cases hh:f9 r<t
  · have:C1 left r=0:=by unfold C1;rw[z _ hh];simp
    rw[this];simp
  · rw[u6 r k (by rfl')];simp
def LowB(m:Nat):Row->aA->Prop
 | _,[]=>True
 | left,r::rs=>(C1 left r=0\/((C1 left r).natAbs<2 ^ m/\Lt (2 ^ m) r))/\LowB m (sub left (C1 left r) r) rs
theorem P0{n t s e m:Nat}:∀{S:aA} {left:Row},(∀ r∈S,r.length=n/\0<hd r)->left.length=n->(∀ k,k<t->at0 left k=0)->(∀ r∈S,t<=f9 r->Lt (2 ^ e) r)->Lt (2 ^ s) left->s+S.length*(e+1)<=m->e<=m ->
  Lt (2 ^ (s+S.length*(e+1))) (n8 left S)/\LowB m left S
 | [],left,_,hl,z,_,hs,_,_=>⟨by simpa[n8]using hs,trivial⟩
 | r::rs,left,hw,hl,z,hb,hs,hm,hem=>by
  have h1:=hw r we;have lenE:(r::rs).length*(e+1)=rs.length*(e+1)+(e+1):=by rw[wn,uO]
  have e2:∀ q,(sub left q r).length=n:=λq=>by rw[N8 (by rfl')];exact hl
  by_cases hh:f9 r<t
  · have o:C1 left r=0:=by unfold C1;rw[z _ hh];simp
    have es:sub left (C1 left r) r=left:=by rw[o];exact sub_zero (by rfl')
    obtain⟨i1,i2⟩:=P0 (t:=t) (s:=s) (e:=e) (m:=m) (S:=rs) (left:=left) (λx hx=>hw x (wc _ hx)) hl z (λx hx=>hb x (wc _ hx)) hs (by rfl') hem;rw[n8,LowB,es];exact⟨i1.mono (wj (by decide) (by rfl')),.inl o,i2⟩
  · have hr:Lt (2 ^ e) r:=hb r we (by rfl');have st:=z1m (s:=2 ^ s) (t:=2 ^ e) (by rfl') h1.2 hs hr;have st':Lt (2 ^ (s+(e+1))) (sub left (C1 left r) r):=by
     refine st.mono ?_;rw[vp];refine vd _ ?_;have:0<2 ^ e:=wE e;rw[vQ];rfl'
    obtain⟨i1,i2⟩:=P0 (t:=t) (s:=s+(e+1)) (e:=e) (m:=m) (S:=rs) (left:=sub left (C1 left r) r) (λx hx=>hw x (wc _ hx)) (e2 _)
     (λk hk=>by rw[M7 (by rfl'),z k hk,u6 r k (by rfl')];simp) (λx hx=>hb x (wc _ hx)) st' (by rfl') hem
    rw[n8,LowB];refine⟨i1.mono (wj (by decide) (by rfl')),.inr ⟨?_,hr.mono (wj (by decide) hem)⟩,i2⟩;refine w04 (AR (at0 left (f9 r)) h1.2) (wB (hs _) (wj (by decide) (by rfl')))
def B5(r left:Row)(x y:Int):Row:=lin x r y left
def F9(r left:Row)(g:Int):Row:=lin ((at0 r (f9 r)).fdiv g) left (-((at0 left (f9 r)).fdiv g)) r
structure Wi(n e eh m0 kk:Nat)(S0:aA)(v:Row)(S:aA)(left:Row):Prop where
 asc:Asc n 0 S
 len:left.length=n
 heads:S.map f9=S0.map f9
 span:SameSpan (vecs (left::S)) (vecs (v::S0))
 low:∀ r∈S,0<=at0 left (f9 r)/\at0 left (f9 r)<hd r
 right:∀ r∈S,f9 left<=f9 r->Lt (2 ^ e) r
 hds:∀ r∈S,hd r<2 ^ eh
 size:Lt (2 ^ (m0+f9 left*kk)) left
 all:∀ r∈S,Lt (2 ^ (e+3+(m0+f9 left*kk))) r
theorem z1n{a b:Row}{x y:Int}{p q s:Nat}(h:a.length=b.length)(hx:x.natAbs<2 ^ p)(hy:y.natAbs<2 ^ p)(ha:Lt (2 ^ q) a)(hb:Lt (2 ^ q) b)(hs:p+q+1<=s):Lt (2 ^ s) (lin x a y b):=λk=>by
 rw[IN h];have h1:(x*at0 a k).natAbs<2 ^ (p+q):=by
  rw[wZ,vp];exact uw hx (ha k)
 have h2:(y*at0 b k).natAbs<2 ^ (p+q):=by
  rw[wZ,vp];exact uw hy (hb k)
 have h3:2 ^ (p+q+1)<=2 ^ s:=wj (by decide) hs;rw[vQ]at h3;omega +splitDisjunctions
theorem r8{S:aA}{r:Row}(h:r∈S):Span (vecs S) (λk=>at0 r k):=Span.mem (Ct h)
theorem Fq{T:List Vec}{u v:Vec}(x y:Int)(hu:Span T u)(hv:Span T v):Span T (λk=>x*u k+y*v k):=(hu.smul x).add (hv.smul y)
theorem DE{A B:aA}(h1:∀ r∈A,Span (vecs B) (λk=>at0 r k))(h2:∀ r∈B,Span (vecs A) (λk=>at0 r k)):SameSpan (vecs A) (vecs B):=by
 constructor
 · intro v hv;obtain⟨r,hr,rfl⟩:=wg.mp hv;exact h1 r hr
 · intro v hv;obtain⟨r,hr,rfl⟩:=wg.mp hv;exact h2 r hr
theorem Wi.step{n e eh m0 kk:Nat}{S0:aA}{v:Row}{S1 S2:aA}{r left:Row}{g x y:Int}(I:Wi n e eh m0 kk S0 v (S1++r::S2) left)(hh:f9 r=f9 left)(hn:f9 left<n)
   (hg:0<g) (ga:g∣hd r) (gb:g∣at0 left (f9 r)) (hxy:hd r*x+at0 left (f9 r)*y=g) (hx:x.natAbs<2 ^ (e+2)) (hy:y.natAbs<2 ^ (e+2)) (he:e<=m0)
   (hk:2*e+3+(S1.length+S2.length+1)*(e+1)<=kk) :
   Wi n e eh m0 kk S0 v (S1++B5 r left x y::S2) (n8 (F9 r left g) (S1++B5 r left x y::S2))/\f9 left<f9 (n8 (F9 r left g) (S1++B5 r left x y::S2)) /\
     LowB (m0+n*kk) (F9 r left g) (S1++B5 r left x y::S2)/\(∀ q∈S1++B5 r left x y::S2,hd q<2 ^ eh):=by
 have hrm:r∈S1++r::S2:=wo.mpr (.inr we);have q:=I.asc.mem hrm;have hl:r.length=left.length:=by rw[q.1,I.len]
 have hlow:=I.low r hrm;have hu:∀ k,at0 (B5 r left x y) k=x*at0 r k+y*at0 left k:=λk=>IN hl k;have hlo:∀ k,at0 (F9 r left g) k=((at0 r (f9 r)).fdiv g)*at0 left k+(-((at0 left (f9 r)).fdiv g))*at0 r k:=λk=>IN hl.symm k;have lu:(B5 r left x y).length=n:=by unfold B5;rw[IM hl];exact q.1
 have llo:(F9 r left g).length=n:=by unfold F9;rw[IM hl.symm];exact I.len
 obtain⟨a',ea⟩:=ga;obtain⟨b',eb⟩:=gb;have da:(hd r).fdiv g=a':=by rw[ea];exact w0i _ (by rfl')
 have db:(at0 left (f9 r)).fdiv g=b':=by rw[eb];exact w0i _ (by rfl')
 have hlo:∀ k,at0 (F9 r left g) k=a'*at0 left k+(-b')*at0 r k:=λk=>by
   have:=hlo k;rw[db,show at0 r (f9 r)=hd r from rfl,da]at this;exact this
 have det:a'*x+b'*y=1:=by
   have:g*(a'*x+b'*y)=g*1:=by rw[w0e,←vJ,←vJ,←ea,←eb];rfl'
   exact w08 (by rfl') this
 have zb:∀ k,k<f9 left->at0 r k=0/\at0 left k=0:=λk hk=>⟨u6 r k (by rfl'),u6 left k hk⟩;have us:at0 (B5 r left x y) (f9 r)=g:=by rw[hu,←hxy];show x*hd r+y*_=_;rw[wM x,wM y]
 have uh:f9 (B5 r left x y)=f9 r:=O9 _ _ (λk hk=>by rw[hu,(zb k (by rfl')).1,(zb k (by rfl')).2];simp) (by rw[us];rfl');have uhd:hd (B5 r left x y)=g:=by unfold hd;rw[uh];exact us
 have gle:g<=hd r:=vR q.2.2.2 ⟨a',ea⟩;have lz:∀ k,k<f9 left+1->at0 (F9 r left g) k=0:=λk hk=>by
   rw[hlo];by_cases h:k<f9 left
   · rw[(zb k h).1,(zb k h).2];simp
   · have:k=f9 r:=by rfl'
     subst this;rw[eb,show at0 r (f9 r)=hd r from rfl,ea,uQ a' g b',uU,uQ b' g a',wM a' b'];rfl'
 have asc':Asc n 0 (S1++B5 r left x y::S2):=by
   have A:=Asc.iff.mp I.asc;refine Asc.iff.mpr ⟨λz hz=>?_,?_⟩
   · rcases wo.mp hz with h|h
     · exact A.1 z (wo.mpr (.inl h))
     · rcases wq.mp h with rfl|h
       · exact⟨lu,wK _,by rw[uh];exact q.2.2.1,by rw[uhd];exact hg⟩
       · exact A.1 z (wo.mpr (.inr (wc _ h)))
   · have e1:(S1++B5 r left x y::S2).map f9=(S1++r::S2).map f9:=by simp[uh]
     rw[e1];exact A.2
 have hw':∀ z∈S1++B5 r left x y::S2,z.length=n:=λz hz=>(asc'.mem hz).1;obtain⟨nz,nl⟩:=Cu (t:=f9 left+1) hw' llo lz;have hhead:f9 left+1<=f9 (n8 (F9 r left g) (S1++B5 r left x y::S2)):=ZT _ _ nz (by rw[nl];rfl');have mm:∀ z∈S1++B5 r left x y::S2,z=B5 r left x y\/z∈S1++r::S2:=λz hz=>by
   rcases wo.mp hz with h|h
   · exact .inr (wo.mpr (.inl h))
   · rcases wq.mp h with rfl|h
     · exact .inl rfl
     · exact .inr (wo.mpr (.inr (wc _ h)))
 have right':∀ z∈S1++B5 r left x y::S2,f9 left+1<=f9 z->Lt (2 ^ e) z:=λz hz hk=>by
   rcases mm z hz with rfl|h
   · rw[uh]at hk;rfl'
   · exact I.right z h (by rfl')
 have rlt:Lt (2 ^ e) r:=I.right r hrm (by rfl');have hds':∀ z∈S1++B5 r left x y::S2,hd z<2 ^ eh:=λz hz=>by
   rcases mm z hz with rfl|h
   · rw[uhd];have:=I.hds r hrm;rfl'
   · exact I.hds z h
 have aS:(a').natAbs<2 ^ e:=by
   have h1:(hd r).natAbs<2 ^ e:=rlt (f9 r);rw[ea,wZ]at h1;have:1*a'.natAbs<=g.natAbs*a'.natAbs:=wy _ (by rfl');rfl'
 have bS:(-b').natAbs<2 ^ e:=by
   have h1:(hd r).natAbs<2 ^ e:=rlt (f9 r);have h2:(at0 left (f9 r)).natAbs<2 ^ e:=by rfl'
   rw[eb,wZ]at h2;have:1*b'.natAbs<=g.natAbs*b'.natAbs:=wy _ (by rfl');rfl'
 have m1:e<=m0+f9 left*kk:=by rfl'
 have sl:Lt (2 ^ (e+(m0+f9 left*kk)+1)) (F9 r left g):=by
   unfold F9;rw[show at0 r (f9 r)=hd r from rfl,da,db];exact z1n hl.symm aS bS I.size (rlt.mono (wj (by decide) m1)) (wu _)
 have hk1:(f9 left+1)*kk=f9 left*kk+kk:=by rw[uO]
 have hkn:(f9 left+1)*kk<=n*kk:=wy _ (by rfl');have hkh:(f9 left+1)*kk<=f9 (n8 (F9 r left g) (S1++B5 r left x y::S2))*kk:=wy _ hhead;have lenS:(S1++B5 r left x y::S2).length=S1.length+S2.length+1:=by simp;rfl'
 obtain⟨z1,z2⟩:=P0 (n:=n) (t:=f9 left+1) (s:=e+(m0+f9 left*kk)+1) (e:=e) (m:=m0+n*kk) (S:=S1++B5 r left x y::S2) (left:=F9 r left g)
   (λz hz=>⟨hw' z hz,(asc'.mem hz).2.2.2⟩) llo lz right' sl (by rw[lenS];rfl') (by rfl')
 have low':=L5 asc' llo;refine⟨⟨asc',nl,?_,?_,low',λz hz hk=>right' z hz (by rfl'),hds',z1.mono (wj (by decide) (by rw[lenS];rfl')),λz hz=>?_⟩,hhead,z2,hds'⟩
 · rw[←I.heads];simp[uh]
 · refine SameSpan.trans (DE (B:=left::(S1++r::S2)) ?_ ?_) I.span
   ·
     have oldr:Span (vecs (left::(S1++r::S2))) (λk=>at0 r k):=r8 (wc _ hrm);have oldl:Span (vecs (left::(S1++r::S2))) (λk=>at0 left k):=r8 we;have nu:Span (vecs (left::(S1++r::S2))) (λk=>at0 (B5 r left x y) k):=Span.congr (λk=>(hu k).symm) (Fq x y oldr oldl);have nlo:Span (vecs (left::(S1++r::S2))) (λk=>at0 (F9 r left g) k):=Span.congr (λk=>(hlo k).symm) (Fq a' (-b') oldl oldr);have all:∀ z∈S1++B5 r left x y::S2,Span (vecs (left::(S1++r::S2))) (λk=>at0 z k):=λz hz=>by
       rcases mm z hz with rfl|h
       · exact nu
       · exact r8 (wc _ h)
     intro z hz;rcases wq.mp hz with rfl|hz
     · have d:=F4 asc' llo;have d':Span (vecs (left::(S1++r::S2))) (λk=>at0 (F9 r left g) k-at0 (n8 (F9 r left g) (S1++B5 r left x y::S2)) k) :=
         d.trans λw hw=>by obtain⟨z,hz,rfl⟩:=wg.mp hw;exact all z hz
       exact Span.congr (λk=>by rfl') (nlo.sub d')
     · exact all z hz
   · have um:B5 r left x y∈S1++B5 r left x y::S2:=wo.mpr (.inr we);have nu:Span (vecs (n8 (F9 r left g) (S1++B5 r left x y::S2)::(S1++B5 r left x y::S2))) (λk=>at0 (B5 r left x y) k):=r8 (wc _ um);have nlo:Span (vecs (n8 (F9 r left g) (S1++B5 r left x y::S2)::(S1++B5 r left x y::S2))) (λk=>at0 (F9 r left g) k):=by
       have d:=F4 asc' llo;have t:Span (vecs (n8 (F9 r left g) (S1++B5 r left x y::S2)::(S1++B5 r left x y::S2))) (λk=>at0 (n8 (F9 r left g) (S1++B5 r left x y::S2)) k):=r8 we;exact Span.congr (λk=>by rfl') (t.add d.cons)
     have nr:∀ k,at0 r k=a'*at0 (B5 r left x y) k+(-y)*at0 (F9 r left g) k:=λk=>by
       rw[hu,hlo];have:at0 r k=(a'*x+b'*y)*at0 r k:=by rw[det];rfl'
       rw[this]
       grind
     have nle:∀ k,at0 left k=b'*at0 (B5 r left x y) k+x*at0 (F9 r left g) k:=λk=>by
       rw[hu,hlo];have:at0 left k=(a'*x+b'*y)*at0 left k:=by rw[det];rfl'
       rw[this]
       grind
     intro z hz;rcases wq.mp hz with rfl|hz
     · exact Span.congr (λk=>(nle k).symm) (Fq _ _ nu nlo)
     · rcases wo.mp hz with h|h
       · exact r8 (wc _ (wo.mpr (.inl h)))
       · rcases wq.mp h with rfl|h
         · exact Span.congr (λk=>(nr k).symm) (Fq _ _ nu nlo)
         · exact r8 (wc _ (wo.mpr (.inr (wc _ h))))
 · rcases mm z hz with rfl|h
   · exact z1n (q:=m0+f9 left*kk) hl hx hy (rlt.mono (wj (by decide) m1)) I.size (by rfl')
   · exact(I.all z h).mono (wj (by decide) (by rfl'))
end St

end
section
namespace St
open Lat
def Ind(R:aA):Prop:=∀ cs:aG,cs.length=R.length->(∀ k,mix R cs k=0)->∀ c∈cs,c=0
theorem Ft{T:List Vec}:∀{R:aA} {cs:aG},(∀ r∈R,Span T (λk=>at0 r k))->Span T (mix R cs)
 | [],cs,_=>by unfold mix;exact Span.zero
 | r::R,[],_=>by unfold mix;exact Span.zero
 | r::R,c::cs,h=>by
  unfold mix;exact((h r we).smul c).add (Ft λx hx=>h x (wc _ hx))
def dif(a b:aG):aG:=List.zipWith (λx y=>x-y) a b
theorem Ys{a b:aG}(h:a.length=b.length):(dif a b).length=a.length:=by unfold dif;rw[vN];rfl'
theorem Yt:∀{R:aA} {a b:aG},a.length=b.length->∀ k,mix R (dif a b) k=mix R a k-mix R b k
 | [],a,b,h,k=>by simp[mix]
 | r::R,[],[],h,k=>by simp[mix,dif]
 | r::R,x::a,y::b,h,k=>by
  have ih:=Yt (R:=R) (a:=a) (b:=b) (by simpa using h) k;show(x-y)*at0 r k+mix R (dif a b) k=(x*at0 r k+mix R a k)-(y*at0 r k+mix R b k);rw[ih,w0A];rfl'
theorem Pn:∀{a b:aG},a.length=b.length->(∀ c∈dif a b,c=0)->a=b
 | [],[],_,_=>rfl
 | x::a,y::b,h,z=>by
  have h1:x-y=0:=z _ (we);rw[Pn (a:=a) (b:=b) (by simpa using h) λc hc=>z c (wc _ hc),show x=y by rfl']
theorem LR{N:Nat}:∀{a b:aG},(∀ c∈a,0<=c/\c<=N)->(∀ c∈b,0<=c/\c<=N)->∀ c∈dif a b,c.natAbs<=N
 | [],_,_,_,c,hc=>by simp[dif]at hc
 | x::a,[],_,_,c,hc=>by simp[dif]at hc
 | x::a,y::b,ha,hb,c,hc=>by
  have hc:c∈(x-y)::dif a b:=hc;rcases wq.mp hc with rfl|hc
  · have:=ha x we;have:=hb y we;rfl'
  · exact LR (λc h=>ha c (wc _ h)) (λc h=>hb c (wc _ h)) c hc
theorem BG{N B:Nat}:∀{R:aA} {cs:aG},(∀ r∈R,Lt B r)->(∀ c∈cs,c.natAbs<=N)->∀ k,(mix R cs k).natAbs<=R.length*(N*B)
 | [],cs,_,_,k=>by simp[mix]
 | r::R,[],_,_,k=>by simp[mix]
 | r::R,c::cs,hr,hc,k=>by
  have ih:=BG (R:=R) (cs:=cs) (λx hx=>hr x (wc _ hx)) (λx hx=>hc x (wc _ hx)) k;show(c*at0 r k+mix R cs k).natAbs<=_;have h1:(c*at0 r k).natAbs<=N*B:=by
   rw[wZ];exact vL (hc c we) (vw (hr r we k))
  rw[wn,uO];rfl'
theorem GV{N:Nat}:∀{r:Nat} {t:aG},J3 (List.replicate r (N+1)) t↔t.length=r/\∀ c∈t,0<=c/\c<=N
 | 0,[]=>by simp[J3]
 | 0,x::t=>by simp[J3]
 | r+1,[]=>by simp[J3,List.replicate]
 | r+1,x::t=>by
  rw[w0G,J3,GV,wn];constructor
  · rintro⟨h1,h2,h3,h4⟩;refine⟨by rfl',λc hc=>?_⟩;rcases wq.mp hc with rfl|hc
    · rfl'
    · exact h4 c hc
  · rintro⟨h1,h2⟩;have:=h2 x we;exact⟨by rfl',by rfl',by rfl',λc hc=>h2 c (wc _ hc)⟩
theorem JD(N:Nat):∀ r,prod (List.replicate r N)=N ^ r
 | 0=>rfl
 | r+1=>by rw[w0G,prod,JD,vQ,uv]
theorem siegel{R:aA}{B:Nat}(hR:Ind R)(hb:∀ r∈R,Lt B r)(hp:0<B)(hs:List Nat)(hl:hs.length+1=R.length):
   ∃ cs:aG,cs.length=R.length/\(∀ h∈hs,mix R cs h=0)/\(∃ k,mix R cs k≠0)/\∀ k,(mix R cs k).natAbs<=(2*R.length*B) ^ R.length:=by
 let r:=R.length;let N:=(2*R.length*B) ^ hs.length;let W:=R.length*(N*B);let f:aG->aG:=λcs=>hs.map λh=>mix R cs h+(W:Int);have main:∃ a b:aG,J3 (List.replicate r (N+1)) a/\J3 (List.replicate r (N+1)) b/\f a=f b/\a≠b:=by
   apply ve;intro no;have inj:∀ s t,J3 (List.replicate r (N+1)) s->J3 (List.replicate r (N+1)) t->f s=f t->s=t:=λs t h1 h2 h3=>ve λhne=>no ⟨s,t,h1,h2,h3,hne⟩;have h1:=Yp (ns:=List.replicate r (N+1)) (ms:=List.replicate hs.length (2*W+1)) f inj λs hsr=>by
    rw[GV]at hsr ⊢;refine⟨by simp[f],λc hc=>?_⟩;obtain⟨h,_,rfl⟩:=wg.mp hc;have:=BG (N:=N) hb (cs:=s) (λc hc=>by have:=hsr.2 c hc;rfl') h;have:(mix R s h).natAbs<=W:=this;rfl'
   rw[JD,JD]at h1;have hr1:1<=R.length:=by rfl'
   have h2:2*W+1<=(2*R.length*B)*(N+1):=by
    have e:(2*R.length*B)*(N+1)=2*W+2*R.length*B:=by
     show _=2*(R.length*(N*B))+_;rw[w0d,Nat.mul_one];congr 1;rw[uv N B,vK,vK]
    have:1<=2*R.length*B:=w0B (by rfl') hp;rfl'
   have h3:(2*W+1) ^ hs.length<=((2*R.length*B)*(N+1)) ^ hs.length:=uB h2 _;rw[Nat.mul_pow]at h3;have h4:(N+1) ^ r=(N+1)*(N+1) ^ hs.length:=by rw[show r=hs.length+1 from hl.symm,vQ,uv]
   rw[h4]at h1;have h5:(N+1)*(N+1) ^ hs.length<=N*(N+1) ^ hs.length:=wG h1 h3;have h6:0<(N+1) ^ hs.length:=w1c (by rfl');rw[uO]at h5;rfl'
 obtain⟨a,b,ha,hb',hf,hne⟩:=main;rw[GV]at ha hb';have hab:a.length=b.length:=by rw[ha.1,hb'.1]
 refine⟨dif a b,by rw[Ys hab];exact ha.1,λh hh=>?_,?_,λk=>?_⟩
 · rw[Yt hab];have:mix R a h+(W:Int)=mix R b h+(W:Int):=List.map_inj_left.mp hf h hh;rfl'
 · apply ve;intro no;have z:∀ k,mix R (dif a b) k=0:=λk=>ve λh=>no ⟨k,h⟩;exact hne (Pn hab (hR (dif a b) (by rw[Ys hab];exact ha.1) z))
 · have:=BG (N:=N) hb (cs:=dif a b) (LR ha.2 hb'.2) k;refine wG this ?_;rw[←hl,vQ,hl,uv];show(N*B)*R.length<=N*(2*R.length*B);rw[vK,uv B];refine vd _ ?_;rw[vK];rfl'
theorem Po(v:Vec):∀ m,v m≠0->∃ h,(∀ k,k<h->v k=0)/\v h≠0:=by
 intro m
 induction m using ug with
 | _ m ih =>
  intro hm;by_cases q:∃ k,k<m/\v k≠0
  · obtain⟨k,h1,h2⟩:=q;exact ih k h1 h2
  · exact⟨m,λk hk=>ve λh=>q ⟨k,hk,h⟩,hm⟩
theorem Pp{E:Nat}:∀{T:aA} {n f Q:Nat} {u:Vec},Asc n f T->Form f (z9 T)->(∀ r∈T,Lt E r)->Span (vecs T) u->(∀ r∈T,(u (f9 r)).natAbs<=Q*(hd r).natAbs)->∀ k,(u k).natAbs<=Q*((2 ^ T.length-1)*E)
 | [],n,f,Q,u,_,_,_,s,_,k=>by rw[s k];simp
 | r::T,n,f,Q,u,A,F,hE,⟨c,s⟩,hu,k=>by
  have hp:=A.2.2.2.1;have ec:=A.coef s;have hc:c.natAbs<=Q:=by
   have:=hu r we;rw[ec,wZ]at this;exact Nat.le_of_mul_le_mul_right this (by rfl')
  have ih:=Pp (T:=T) (Q:=2*Q) A.2.2.2.2 F.2.2.2.2 (λx hx=>hE x (wc _ hx)) s (λx hx=>by
   have h1:=hu x (wc _ hx);have h2:=F.2.2.2.1 (f9 x,vec x) (wg.mpr ⟨x,hx,rfl⟩);have h2:0<=at0 r (f9 x)/\at0 r (f9 x)<hd x:=h2;show(u (f9 x)-c*at0 r (f9 x)).natAbs<=_;have h3:(c*at0 r (f9 x)).natAbs<=Q*(hd x).natAbs:=by rw[wZ];exact vL hc (by rfl')
   rw[vK];rfl') k
  have ih:(u k-c*at0 r k).natAbs<=2*Q*((2 ^ T.length-1)*E):=ih;have h4:(c*at0 r k).natAbs<=Q*E:=by rw[wZ];exact vL hc (vw (hE r we k))
  have h5:Q*((2 ^ (r::T).length-1)*E)=2*Q*((2 ^ T.length-1)*E)+Q*E:=by
   have p:0<2 ^ T.length:=wE _;rw[wn,vQ,show 2 ^ T.length*2-1=2*(2 ^ T.length-1)+1 by rfl',w1a,Nat.one_mul,w0d,vK 2,Nat.mul_left_comm Q 2,vK 2]
  rfl'
theorem z1o{W E n f:Nat}{r:Row}{T:aA}{w:Vec}(A:Asc n f (r::T))(F:Form f (z9 (r::T)))(hE:∀ x∈T,Lt E x)(s:Span (vecs (r::T)) w)(h0:w (f9 r)≠0)(hz:∀ x∈T,w (f9 x)=0)(hw:∀ k,(w k).natAbs<=W):
  ∀ k,(at0 r k).natAbs<=W+(2 ^ T.length-1)*E:=by
 obtain⟨c,s⟩:=s;have ec:=A.coef s;have c0:c≠0:=by intro z;rw[z]at ec;simp at ec;exact h0 ec
 intro k;have q:=Pp (E:=E) (Q:=c.natAbs) A.2.2.2.2 F.2.2.2.2 hE s (λx hx=>by
  have h2:=F.2.2.2.1 (f9 x,vec x) (wg.mpr ⟨x,hx,rfl⟩);have h2:0<=at0 r (f9 x)/\at0 r (f9 x)<hd x:=h2;show(w (f9 x)-c*at0 r (f9 x)).natAbs<=_;rw[hz x hx];have h3:(c*at0 r (f9 x)).natAbs<=c.natAbs*(hd x).natAbs:=by rw[wZ];exact vd _ (by rfl')
  rfl') k
 have q:(w k-c*at0 r k).natAbs<=c.natAbs*((2 ^ T.length-1)*E):=q;have hwk:=hw k;have e1:(c*at0 r k).natAbs=c.natAbs*(at0 r k).natAbs:=wZ _ _;apply vG;intro hlt;generalize (2 ^ T.length-1)*E=X at *;have h6:c.natAbs*(W+X+1)<=c.natAbs*(at0 r k).natAbs:=vd _ hlt;have h7:c.natAbs*(W+X+1)=c.natAbs*X+c.natAbs*(W+1):=by rw[←w0d];congr 1;rfl'
 have h8:1*(W+1)<=c.natAbs*(W+1):=wy _ (by rfl');rfl'
def bnd(r B:Nat):Nat:=(2*r*B) ^ r*2 ^ (r*r)
theorem LS{W n:Nat}:∀{T:aA} {f:Nat},Asc n f T->Form f (z9 T)->(∀ r∈T,∃ w:Vec,Span (vecs T) w/\w (f9 r)≠0/\(∀ k,k<f9 r->w k=0)/\(∀ x∈T,x≠r->w (f9 x)=0)/\∀ k,(w k).natAbs<=W)->∀ r∈T,Lt (W*2 ^ (T.length*T.length)+1) r
 | r::T,f,A,F,h,x,hx=>by
  have nd:∀ y∈T,f9 r<f9 y:=λy hy=>(A.2.2.2.2.mem hy).2.1;have ih:=LS (T:=T) A.2.2.2.2 F.2.2.2.2 (λy hy=>by
    obtain⟨w,w1,w2,w3,w4,w5⟩:=h y (wc _ hy);refine⟨w,?_,w2,w3,λz hz hne=>w4 z (wc _ hz) hne,w5⟩;exact Form.tail F (show Span (E6 (z9 (r::T))) w by
     have:E6 (z9 (r::T))=vecs (r::T):=by simp[z9,E6]
     rw[this];exact w1) (w3 _ (nd y hy)) |> λs=>by
      have:E6 (z9 T)=vecs T:=by simp[z9,E6]
      have s:Span (E6 (z9 T)) w:=s;rw[this]at s;exact s)
  have hW:W*2 ^ (T.length*T.length)+1<=W*2 ^ ((r::T).length*(r::T).length)+1:=by
    refine w15 (vd _ (wj (by decide) ?_));exact vL (by simp) (by simp)
  rcases wq.mp hx with rfl|hx
  · obtain⟨w,w1,w2,w3,w4,w5⟩:=h x we;intro k;have q:=z1o (E:=W*2 ^ (T.length*T.length)+1) A F ih w1 w2 (λy hy=>w4 y (wc _ hy) λe=>by have:=nd y hy;rw[e]at this;rfl') w5 k;refine Nat.lt_succ_of_le (wG q ?_);have hW1:1<=W:=by have:=w5 (f9 x);rfl'
    have e2:(x::T).length*(x::T).length=T.length*T.length+T.length+T.length+1:=by rw[wn];grind
    rw[e2,vQ,vp];generalize hP:2 ^ (T.length*T.length+T.length)=P;have p1:2 ^ (T.length*T.length)*2 ^ T.length=P:=by rw[←hP,vp]
    have p2:1<=2 ^ T.length:=wE _;have p3:1<=2 ^ (T.length*T.length):=wE _;generalize 2 ^ T.length=a at *;generalize 2 ^ (T.length*T.length)=b at *;have h1:(a-1)*(W*b+1)<=a*(2*(W*b)):=vL (by rfl') (by have:1<=W*b:=w0B hW1 p3;rfl');have h1':(a-1)*(W*b+1)+(W*b+1)=a*(W*b+1):=by
     have:a=(a-1)+1:=by rfl'
     rw[show a*(W*b+1)=((a-1)+1)*(W*b+1) by rw[←this],uO]
    have h2:W<=W*b:=w0k _ p3;have h3:a*(W*b+1)<=a*(2*(W*b)):=vd _ (by have:1<=W*b:=w0B hW1 p3;rfl');have h4:a*(2*(W*b))=W*(b*a)*2:=by grind
    have h5:W*(b*a)*2<=W*(P*a*2):=by
     rw[p1,vK];refine vd _ (wy _ (w0k _ p2))
    rfl'
  · exact(ih x hx).mono hW
theorem LU(T:aA):E6 (z9 T)=vecs T:=by simp[z9,E6]
theorem Rt{n B:Nat}{S R:aA}(A:Asc n 0 S)(F:Form 0 (z9 S))(hR:Ind R)(hl:R.length=S.length)(hs:∀ r∈R,Span (vecs S) (λk=>at0 r k))(hb:∀ r∈R,Lt B r)(hp:0<B):
  ∀ r∈S,Lt (bnd S.length B+1) r:=by
 refine LS A F λr hr=>?_;have hpw:=(Asc.iff.mp A).2;obtain⟨S1,S2,rfl⟩:=w0J hr;obtain⟨cs,c1,c2,⟨m,c3⟩,c4⟩:=siegel hR hb hp ((S1++S2).map f9) (by rw[hl];simp;rfl');have sp:Span (vecs (S1++r::S2)) (mix R cs):=Ft hs;obtain⟨h,z,q⟩:=Po _ m c3;obtain⟨x,hx,ex⟩:=A.first sp z q;have oth:∀ y∈S1++r::S2,y≠r->y∈S1++S2:=λy hy hne=>by
  rcases wo.mp hy with h|h
  · exact wo.mpr (.inl h)
  · rcases wq.mp h with rfl|h
    · exact absurd rfl hne
    · exact wo.mpr (.inr h)
 have zo:∀ y∈S1++r::S2,y≠r->mix R cs (f9 y)=0:=λy hy hne=>c2 _ (wg.mpr ⟨y,oth y hy hne,rfl⟩);have er:x=r:=ve λhne=>q (by rw[←ex];exact zo x hx hne);subst er;rw[hl]at c4;exact⟨mix R cs,sp,by rw[ex];exact q,λk hk=>z k (by rfl'),zo,c4⟩
end St

end
section
local macro_rules|`(tactic|rfl')=>`(tactic|first|lia|omega +splitDisjunctions)
namespace St
open Lat
structure Post(n u:Nat)(S0:aA)(v:Row)(S:aA):Prop where
 asc:Asc n 0 S
 span:SameSpan (vecs S) (vecs (v::S0))
 size:∀ r∈S,Lt (2 ^ u) r
 more:S.map f9=S0.map f9\/(S.length=S0.length+1/\∃ r∈S,∀ x∈S0,f9 x≠f9 r)
theorem Wi.start{n e eh s m0 kk:Nat}{S0:aA}{v:Row}(A:Asc n 0 S0)(hv:v.length=n)(h0:∀ r∈S0,Lt (2 ^ e) r)(hh:∀ r∈S0,hd r<2 ^ eh)(hs:Lt (2 ^ s) v)(hm:s+S0.length*(e+1)<=m0)(he:e<=m0):
   Wi n e eh m0 kk S0 v S0 (n8 v S0)/\LowB m0 v S0:=by
 obtain⟨z1,z2⟩:=P0 (n:=n) (t:=0) (s:=s) (e:=e) (m:=m0) (S:=S0) (left:=v) (λr hr=>⟨(A.mem hr).1,(A.mem hr).2.2.2⟩) hv (λk hk=>by rfl') (λr hr _=>h0 r hr) hs hm he;have sp:=F4 A hv;refine⟨⟨A,I0 A hv,rfl,?_,L5 A hv,λr hr _=>h0 r hr,λr hr=>?_,z1.mono (wj (by decide) (by rfl')),λr hr=>(h0 r hr).mono (wj (by decide) (by rfl'))⟩,z2⟩
 · refine DE (λr hr=>?_) λr hr=>?_
   · rcases wq.mp hr with rfl|hr
     · have t:Span (vecs (v::S0)) (λk=>at0 v k):=r8 we;exact Span.congr (λk=>by rfl') (t.sub sp.cons)
     · exact r8 (wc _ hr)
   · rcases wq.mp hr with rfl|hr
     · have t:Span (vecs (n8 r S0::S0)) (λk=>at0 (n8 r S0) k):=r8 we;exact Span.congr (λk=>by rfl') (t.add sp.cons)
     · exact r8 (wc _ hr)
 · exact hh r hr
theorem Wi.done{n e eh m0 kk:Nat}{S0:aA}{v:Row}{S:aA}{left:Row}(I:Wi n e eh m0 kk S0 v S left)(h:¬f9 left<n):Post n (e+3+(m0+n*kk)) S0 v S:=by
 have hl:=GR left;rw[I.len]at hl;have e:f9 left=n:=by rfl'
 refine⟨I.asc,SameSpan.trans (DE (λr hr=>r8 (wc _ hr)) λr hr=>?_) I.span,λr hr=>by have:=I.all r hr;rw[e]at this;exact this,.inl I.heads⟩;rcases wq.mp hr with rfl|hr
 · refine Span.congr (λk=>?_) Span.zero;by_cases hk:k<n
   · exact(u6 r k (by rfl')).symm
   · exact(B4 (by rw[I.len];rfl')).symm
 · exact r8 hr
theorem Wi.new{n e eh m0 kk:Nat}{S0:aA}{v:Row}{S S':aA}{left t:Row}(I:Wi n e eh m0 kk S0 v S left)(h:f9 left<n)(hn:∀ r∈S,f9 r≠f9 left)
   (ht:t.length=n) (c:Int) (hc:c=1\/c = -1) (et:∀ k,at0 t k=c*at0 left k) (hp:0<at0 t (f9 left)) (pm:S'.Perm (t::S)) (pw:(S'.map f9).Pairwise (·<·)):Post n (e+3+(m0+n*kk)) S0 v S':=by
 have hh:f9 t=f9 left:=O9 _ _ (λk hk=>by rw[et,u6 left k hk];simp) (by rfl');have mem:∀ r∈S',r=t\/r∈S:=λr hr=>wq.mp (pm.mem_iff.mp hr);have tm:t∈S':=pm.mem_iff.mpr we;have sm:∀ r∈S,r∈S':=λr hr=>pm.mem_iff.mpr (wc _ hr);have hk:m0+f9 left*kk<=m0+n*kk:=by have:=wy kk (vw h);rfl'
 refine⟨Asc.iff.mpr ⟨λr hr=>?_,pw⟩,SameSpan.trans (DE (λr hr=>?_) λr hr=>?_) I.span,λr hr=>?_,.inr ⟨?_,t,tm,λx hx e=>?_⟩⟩
 · rcases mem r hr with rfl|hr
   · exact⟨ht,wK _,by rw[hh];exact h,by unfold hd;rw[hh];exact hp⟩
   · exact I.asc.mem hr
 · rcases mem r hr with rfl|hr
   · exact Span.congr (λk=>(et k).symm) ((r8 we:Span (vecs (left::S)) (λk=>at0 left k)).smul c)
   · exact r8 (wc _ hr)
 · rcases wq.mp hr with rfl|hr
   · refine Span.congr (λk=>?_) ((r8 tm:Span (vecs S') (λk=>at0 t k)).smul c);show c*at0 t k=at0 r k;rw[et];rcases hc with rfl|rfl<;>rfl'
   · exact r8 (sm r hr)
 · rcases mem r hr with rfl|hr
   · intro k;rw[et];have h1:=I.size k;have h2:2 ^ (m0+f9 left*kk)<=2 ^ (e+3+(m0+n*kk)):=wj (by decide) (by rfl');rcases hc with rfl|rfl<;>rfl'
   · exact(I.all r hr).mono (wj (by decide) (by rfl'))
 · have h1:=pm.length_eq;have h2:=congrArg List.length I.heads;simp at h1 h2;rfl'
 · have:f9 x∈S.map f9:=by rw[I.heads];exact wg.mpr ⟨x,hx,rfl⟩
   obtain⟨y,hy,ey⟩:=wg.mp this;exact hn y hy (by rfl')
structure Good(n B:Nat)(rows:aA)(S:aA):Prop where
 asc:Asc n 0 S
 form:Form 0 (z9 S)
 span:SameSpan (vecs S) (vecs rows)
 ind:∃ R:aA,Ind R/\R.length=S.length/\(∀ r∈R,r∈rows)
 len:S.length<=rows.length
 full:Ind rows->S.length=rows.length
theorem Good.nil{n B:Nat}:Good n B [] []:=⟨trivial,trivial,SameSpan.refl,⟨[],(λcs h _ c hc=>by have h:cs=[]:=w0l.mp h;subst h;cases hc),rfl,λr hr=>by cases hr⟩,wu _,λ_=>rfl⟩
theorem Good.small{n B:Nat}{rows S:aA}(G:Good n B rows S)(hb:∀ r∈rows,Lt B r)(hp:0<B):∀ r∈S,Lt (bnd S.length B+1) r:=by
 obtain⟨R,h1,h2,h3⟩:=G.ind;exact Rt G.asc G.form h1 h2 (λr hr=>G.span.iff.mpr (r8 (h3 r hr))) (λr hr=>hb r (h3 r hr)) hp
theorem Ai:∀{R:aA} {v:Vec},Span (vecs R) v->∃ c:aG,c.length=R.length/\∀ k,v k=mix R c k
 | [],v,s=>⟨[],rfl,s⟩
 | r::R,v,⟨c,s⟩=>by
  obtain⟨cs,h1,h2⟩:=Ai s;refine⟨c::cs,by simp[h1],λk=>?_⟩;have:=h2 k;have this:v k-c*at0 r k=mix R cs k:=this;show v k=c*at0 r k+mix R cs k;rfl'
theorem JE{v:Row}{d:Int}:∀{R:aA} {c:aG},c.length=R.length->∀ k,mix (R++[v]) (c++[d]) k=mix R c k+d*at0 v k
 | [],[],_,k=>by simp[mix]
 | r::R,x::c,h,k=>by
  show x*at0 r k+mix (R++[v]) (c++[d]) k=x*at0 r k+mix R c k+d*at0 v k;rw[JE (R:=R) (c:=c) (by simpa using h)];rfl'
theorem Ind.left{R:aA}{v:Row}(h:Ind (R++[v])):Ind R:=λc hl hz x hx=>by
 exact h (c++[0]) (by simp[hl]) (λk=>by rw[JE hl,hz k];simp) x (wo.mpr (.inl hx))
theorem LV{n:Nat}:∀{f:Nat} {S T:aA} {u:Vec},Asc n f S->Asc n f T->T.map f9=S.map f9->(∀ r∈T,Span (vecs S) (λk=>at0 r k))->Span (vecs S) u->∃ D:Int,D≠0/\Span (vecs T) (λk=>D*u k)
 | f,[],[],u,_,_,_,_,s=>⟨1,by decide,λk=>by have:=s k;show 1*u k=0;rfl'⟩
 | f,r::S,t::T,u,A,A',hh,hT,s=>by
  have hh':f9 t=f9 r/\T.map f9=S.map f9:=by simpa using hh
  have tz:∀{w:Vec},Span (vecs (r::S)) w->w (f9 r)=0->Span (vecs S) w:=λ{w} hw z=>by
    obtain⟨c,q⟩:=hw;have e:=A.coef q;have c0:c=0:=by
      rw[z]at e;rcases vC.mp e.symm with h|h
      · exact h
      · have:=A.2.2.2.1;rfl'
    subst c0;exact Span.congr (λk=>by simp) q
  have ht:Span (vecs (r::S)) (λk=>at0 t k):=hT t we;have w1:Span (vecs (r::S)) (λk=>hd t*u k-u (f9 r)*at0 t k):=(s.smul (hd t)).sub (ht.smul (u (f9 r)));have w2:=tz w1 (by show hd t*u (f9 r)-u (f9 r)*at0 t (f9 r)=0;rw[←hh'.1];show hd t*_-_*hd t=0;rw[wM];rfl');obtain⟨D,hD,q⟩:=LV A.2.2.2.2 (by rw[←hh'.1];exact A'.2.2.2.2) hh'.2 (λx hx=>tz (hT x (wc _ hx)) (u6 x _ (by have:=(A'.2.2.2.2.mem hx).2.1;rfl'))) w2;refine⟨D*hd t,λz=>?_,D*u (f9 r),Span.congr (λk=>?_) q⟩
  · rcases vC.mp z with z|z
    · exact hD z
    · have:=A'.2.2.2.1;rfl'
  · show D*(hd t*u k-u (f9 r)*at0 t k)=D*hd t*u k-D*u (f9 r)*at0 t k
    grind
 | f,[],t::T,u,_,_,hh,_,_=>by simp at hh
 | f,r::S,[],u,_,_,hh,_,_=>by simp at hh
theorem Y2:∀ S:aA,(even S).length=S.length
 | []=>rfl
 | r::rs=>by rw[even,wn,wn,Y2 rs]
theorem Good.step{n u B:Nat}{rows S0 S:List Row}{v:Row}(G:Good n B rows S0)(P:Post n u S0 v S):Good n B (rows++[v]) (even S):=by
  have es:=LQ P.asc;have sp:SameSpan (vecs (v::S0)) (vecs (rows++[v])):=DE (λr hr=>by
      rcases wq.mp hr with rfl|hr
      · exact r8 (wo.mpr (.inr we))
      · exact(G.span.iff.mp (r8 hr)).trans λw hw=>by
          obtain⟨z,hz,rfl⟩:=wg.mp hw;exact r8 (wo.mpr (.inl hz))) λr hr=>by
      rcases wo.mp hr with hr|hr
      · exact(G.span.iff.mpr (r8 hr)).trans λw hw=>by
          obtain⟨z,hz,rfl⟩:=wg.mp hw;exact r8 (wc _ hz)
      · rcases wW.mp hr with rfl
        exact r8 we
  obtain⟨R,h1,h2,h3⟩:=G.ind;have hlen:(even S).length<=(rows++[v]).length:=by
    rw[Y2,ww];have:=G.len;rcases P.more with h|⟨h,_⟩
    · have h:=congrArg List.length h;simp at h ⊢;rfl'
    · simp;rfl'
  refine⟨(W3 P.asc).1,LP P.asc,SameSpan.trans es (P.span.trans sp),?_,hlen,λhI=>?_⟩
  rotate_left
  · have hI0:=hI.left;have hl0:=G.full hI0;rcases P.more with h|⟨h,_⟩
    · exfalso;have hv:Span (vecs S) (λk=>at0 v k):=P.span.iff.mpr (r8 we);obtain⟨D,hD,q⟩:=LV P.asc G.asc h.symm (λr hr=>P.span.iff.mpr (r8 (wc _ hr))) hv;obtain⟨c,hc,ec⟩:=Ai (G.span.iff.mp q);have:=hI (c++[-D]) (by simp[hc]) (λk=>by rw[JE hc];have:=ec k;rw[←this,uU];show D*at0 v k+_=0;rfl') (-D) (by simp);rfl'
    · rw[Y2,h,hl0];simp
  rcases P.more with h|⟨h,r,hr,hne⟩
  · exact⟨R,h1,by have h:=congrArg List.length h;simp at h;rw[Y2,h,h2],λr hr=>wo.mpr (.inl (h3 r hr))⟩
  · refine⟨ v::R,?_,by rw[Y2,h,List.length_cons,h2],fun r hr=>?_⟩
    · intro cs hl hz
      cases cs with
      | nil=>intro c hc;cases hc
      | cons c cs =>
        have hl':cs.length=R.length:=by simpa using hl
        have hz:∀ k,c*at0 v k+mix R cs k=0:=hz;by_cases c0:c=0
        · subst c0;have z:=h1 cs hl' (λk=>by have:=hz k;rfl');intro d hd;rcases wq.mp hd with rfl|hd
          · rfl
          · exact z d hd
        · exfalso;have cv:Span (vecs S0) (λk=>c*at0 v k):=by
            have:Span (vecs S0) (mix R cs):=Ft λr hr=>G.span.iff.mpr (r8 (h3 r hr));exact Span.congr (λk=>by have:=hz k;rfl') this.neg
          have all:∀ w:Vec,Span (vecs (v::S0)) w->Span (vecs S0) (λk=>c*w k):=λw hw=>by
            obtain⟨d,s⟩:=hw;have s2:=(cv.smul d).add (s.smul c);refine Span.congr (λk=>?_) s2;show d*(c*at0 v k)+c*(w k-d*at0 v k)=c*w k
            grind
          have rs:Span (vecs (v::S0)) (λk=>at0 r k):=P.span.iff.mp (r8 hr);have q:=P.asc.mem hr;obtain⟨x,hx,e⟩:=G.asc.first (h:=f9 r) (all _ rs) (λk hk=>by show c*at0 r k=0;rw[u6 r k hk];simp) (by
            show c*hd r≠0;intro z;rcases vC.mp z with z|z
            · exact c0 z
            · rfl')
          exact hne x hx e
    · rcases wq.mp hr with rfl|hr
      · exact wo.mpr (.inr we)
      · exact wo.mpr (.inl (h3 r hr))
theorem Cv{r s B:Nat}(h:r<=s)(hB:0<B)(hs:0<s):bnd r B<=bnd s B:=by
 unfold bnd;refine vL ?_ (wj (by decide) (vL h h));have h1:2*r*B<=2*s*B:=wy _ (vd _ h);have h2:0<2*s*B:=w0B (by rfl') hB;exact wG (uB h1 r) (wj h2 h)
theorem T8{n:Nat}:∀{f:Nat} {S:aA},Asc n f S->f<=n->S.length<=n-f
 | f,[],_,_=>wK _
 | f,r::rs,⟨h1,h2,h3,h4,h5⟩,h=>by
  have:=T8 h5 (by rfl');rw[wn];rfl'
end St

end
section
set_option exponentiation.threshold 3000
namespace St
open Lat
theorem JF:∀{f:Nat} {S:aA},Form f (z9 S)->∀{j k:Nat},j<k->k<S.length->0<=at0 (S.getD j []) (f9 (S.getD k []))/\at0 (S.getD j []) (f9 (S.getD k []))<hd (S.getD k [])
 | f,r::S,F,0,k+1,_,hk=>by
  have hk:k<S.length:=by simpa using hk
  have hm:S.getD k []∈S:=by simp[List.getD,wa hk]
  have:=F.2.2.2.1 (f9 (S.getD k []),vec (S.getD k [])) (wg.mpr ⟨_,hm,rfl⟩);exact this
 | f,r::S,F,j+1,k+1,hjk,hk=>by
  have:=JF (S:=S) F.2.2.2.2 (j:=j) (k:=k) (by rfl') (by simpa using hk);simpa[List.getD]using this
theorem Fv{n f:Nat}{S:aA}(A:Asc n f S){k:Nat}(hk:k<S.length):(S.getD k []).length=n/\f<=f9 (S.getD k [])/\f9 (S.getD k [])<n/\0<hd (S.getD k []) :=
 A.mem (by simp[List.getD,wa hk])
theorem Ru{n:Nat}:∀{f:Nat} {S:aA},Asc n f S->∀{j k:Nat},j<k->k<S.length->f9 (S.getD j [])<f9 (S.getD k [])
 | f,r::S,A,0,k+1,_,hk=>by
  have hk:k<S.length:=by simpa using hk
  have hm:S.getD k []∈S:=by simp[List.getD,wa hk]
  have:=(A.2.2.2.2.mem hm).2.1;exact this
 | f,r::S,A,j+1,k+1,hjk,hk=>by
  have:=Ru (S:=S) A.2.2.2.2 (j:=j) (k:=k) (by rfl') (by simpa using hk);simpa[List.getD]using this
theorem Yu(k:Nat)(h:k<=8):bnd k (10 ^ 30)+1<=2 ^ 900:=by
 have:=Cv (B:=10 ^ 30) h (by decide) (by decide);have e:bnd 8 (10 ^ 30)+1<=2 ^ 900:=by unfold bnd;decide
 rfl'
theorem DG{r:Row}{B:Nat}(hB:0<B)(h:∀ x∈r,x.natAbs<B):Lt B r:=λk=>by
 unfold at0 List.getD;by_cases hk:k<r.length
 · rw[wa hk];exact h _ (vn _)
 · rw[wJ (by rfl')];exact hB
end St

end
section
local macro_rules|`(tactic|rfl')=>`(tactic|first|lia|omega +splitDisjunctions)
namespace St
open Lat
theorem Asc.tz{n f:Nat}{r:Row}{S:aA}{w:Vec}(A:Asc n f (r::S))(hw:Span (vecs (r::S)) w)(z:w (f9 r)=0):Span (vecs S) w:=by
 obtain⟨c,q⟩:=hw;have e:=A.coef q;have c0:c=0:=by
  rw[z]at e;rcases vC.mp e.symm with h|h
  · exact h
  · have:=A.2.2.2.1;rfl'
 subst c0;exact Span.congr (λk=>by simp) q
theorem Asc.small0{n:Nat}:∀{f:Nat} {S:aA} {u:Vec},Asc n f S->Span (vecs S) u->(∀ r∈S,0<=u (f9 r)/\u (f9 r)<hd r)->∀ k,u k=0
 | f,[],u,_,s,_=>s
 | f,r::S,u,A,s,h=>by
  have hr:=h r we;have z:u (f9 r)=0:=by
   obtain⟨c,q⟩:=s;have e:=A.coef q;have c0:c=0:=AB e A.2.2.2.1 (by rfl') hr.2;rw[e,c0];simp
  exact A.2.2.2.2.small0 (A.tz s z) λx hx=>h x (wc _ hx)
def JG(n:Nat):Row:=List.replicate n 0
theorem GW(n k:Nat):at0 (JG n) k=0:=by
 unfold at0 JG List.getD;rw[vj];split<;>rfl
theorem z1p{n:Nat}{r:Row}(hl:r.length=n)(h:∀ k,at0 r k=0):r=JG n:=ext0 (by unfold JG;simp[hl]) λk=>by rw[h,GW]
theorem Lk{n:Nat}{S:aA}{v:Row}(A:Asc n 0 S)(hv:v.length=n):n8 v S=JG n↔Span (vecs S) (λk=>at0 v k):=by
 have sp:=F4 A hv;constructor
 · intro e;rw[e]at sp;exact Span.congr (λk=>by rw[GW];rfl') sp
 · intro s;refine z1p (I0 A hv) (A.small0 (u:=λk=>at0 (n8 v S) k) ?_ (L5 A hv));exact Span.congr (λk=>by rfl') (s.sub sp)
theorem NH{R:aA}(c:aG):Span (vecs R) (mix R c):=Ft λr hr=>r8 hr
theorem Fw{n:Nat}:∀{R:aA} {c:aG},(∀ r∈R,r.length=n)->∀ k,n<=k->mix R c k=0
 | [],c,_,k,_=>by simp[mix]
 | r::R,[],_,k,_=>by simp[mix]
 | r::R,x::c,h,k,hk=>by
  show x*at0 r k+mix R c k=0;rw[Fw (λy hy=>h y (wc _ hy)) k hk,B4 (by rw[h r we];exact hk)];simp
abbrev Ab(a b:Row):Prop:=0<=at0 a (f9 b)/\at0 a (f9 b)<hd b
theorem Cw{n:Nat}:∀{f:Nat} {S:aA},Asc n f S->(Form f (z9 S)↔S.Pairwise Ab)
 | f,[],_=>by simp[z9,Form]
 | f,r::S,A=>by
  have ih:=Cw A.2.2.2.2;rw[vg,←ih];constructor
  · intro F;exact⟨λb hb=>F.2.2.2.1 (f9 b,vec b) (wg.mpr ⟨b,hb,rfl⟩),F.2.2.2.2⟩
  · rintro⟨h1,h2⟩;refine⟨A.2.1,λk hk=>u6 r k hk,A.2.2.2.1,λp hp=>?_,h2⟩;obtain⟨b,hb,rfl⟩:=wg.mp hp;exact h1 b hb
theorem Yv{n:Nat}:∀{S T:aA},(∀ r∈S,r.length=n)->(∀ r∈T,r.length=n)->z9 S=z9 T->S=T
 | [],[],_,_,_=>rfl
 | [],t::T,_,_,h=>by simp[z9]at h
 | s::S,[],_,_,h=>by simp[z9]at h
 | s::S,t::T,hs,ht,h=>by
  have h:(f9 s,vec s)::z9 S=(f9 t,vec t)::z9 T:=h;have h1:=(List.cons.inj h).1;have h2:=(List.cons.inj h).2;have e:s=t:=ext0 (by rw[hs s we,ht t we]) λk=>congrFun (congrArg Prod.snd h1) k;rw[e,Yv (λr hr=>hs r (wc _ hr)) (λr hr=>ht r (wc _ hr)) h2]
theorem LW{n:Nat}{S T:aA}(A:Asc n 0 S)(F:Form 0 (z9 S))(A':Asc n 0 T)(F':Form 0 (z9 T))(h:SameSpan (vecs S) (vecs T)):S=T:=by
 refine Yv (n:=n) (λr hr=>(A.mem hr).1) (λr hr=>(A'.mem hr).1) (Form.unique F F' ?_);rw[LU,LU];exact h
theorem Aj{n:Nat}{a b:Row}(h:a.length=n)(k:Nat):at0 (a++b) k=if k<n then at0 a k else at0 b (k-n):=by
 subst h;unfold at0 List.getD;rw[List.getElem?_append];split<;>rfl
theorem J4(r:Row)(n k:Nat):at0 (r.take n) k=if k<n then at0 r k else 0:=by
 unfold at0 List.getD;rw[w0K];split<;>rfl
theorem E7(r:Row)(n k:Nat):at0 (r.drop n) k=at0 r (n+k):=by
 unfold at0 List.getD;rw[uG]
def G3(m j:Nat):Row:=(List.range m).map λk=>if k=j then 1 else 0
theorem GX(m j:Nat):(G3 m j).length=m:=by unfold G3;simp
theorem Y3(m j k:Nat):at0 (G3 m j) k=if k=j/\k<m then 1 else 0:=by
 unfold at0 G3 List.getD;rw[wF];by_cases hk:k<m
 · rw[w00 hk];simp[hk]
 · rw[wJ (by simpa using hk)];simp[hk]
def tagF(m:Nat):Nat->aA->aA
 | _,[]=>[]
 | s,b::bs=>(b++G3 m s)::tagF m (s+1) bs
abbrev P9(bills:aA):aA:=tagF bills.length 0 bills
theorem Y4(m:Nat):∀(s:Nat) (bs:aA),(tagF m s bs).length=bs.length
 | s,[]=>rfl
 | s,b::bs=>by rw[tagF,wn,wn,Y4]
theorem Fx(m:Nat):∀{s:Nat} {bs:aA} {r:Row},r∈tagF m s bs->∃ b∈bs,∃ j,r=b++G3 m j
 | s,b::bs,r,h=>by
  rcases wq.mp h with rfl|h
  · exact⟨b,we,s,rfl⟩
  · obtain⟨b',hb,j,e⟩:=Fx m h;exact⟨b',wc _ hb,j,e⟩
theorem Cy{n m:Nat}:∀{s:Nat} {bs:aA} {c:aG} {k:Nat},(∀ b∈bs,b.length=n)->k<n->mix (tagF m s bs) c k=mix bs c k
 | s,[],c,k,_,_=>by simp[tagF,mix]
 | s,b::bs,[],k,_,_=>by simp[tagF,mix]
 | s,b::bs,x::c,k,h,hk=>by
  show x*at0 (b++G3 m s) k+mix (tagF m (s+1) bs) c k=x*at0 b k+mix bs c k;rw[Cy (λy hy=>h y (wc _ hy)) hk,Aj (h b we),if_pos hk]
theorem Fy{n m:Nat}:∀{s:Nat} {bs:aA} {c:aG} {i:Nat},(∀ b∈bs,b.length=n)->c.length=bs.length->s+bs.length<=m->mix (tagF m s bs) c (n+i)=if s<=i/\i<s+bs.length then at0 c (i-s) else 0
 | s,[],[],i,_,_,_=>by simp[tagF,mix];intros;rfl'
 | s,b::bs,x::c,i,h,hl,hs=>by
  have ih:=Fy (n:=n) (m:=m) (s:=s+1) (bs:=bs) (c:=c) (i:=i) (λy hy=>h y (wc _ hy)) (by simpa using hl) (by simp at hs;rfl');show x*at0 (b++G3 m s) (n+i)+mix (tagF m (s+1) bs) c (n+i)=_;rw[ih,Aj (h b we),if_neg (by rfl'),Y3,show n+i-n=i by rfl'];have hlen:(b::bs).length=bs.length+1:=rfl;rw[hlen];have hm:s<m:=by simp at hs;rfl'
  by_cases h1:i=s
  · subst h1;rw[if_pos ⟨rfl,hm⟩,if_neg (by rfl'),if_pos (by rfl')];simp[at0]
  · rw[if_neg (by rfl')];by_cases h2:s+1<=i/\i<s+1+bs.length
    · rw[if_pos h2,if_pos (by rfl')];have:i-s=(i-(s+1))+1:=by rfl'
      rw[this];simp[at0]
    · rw[if_neg h2,if_neg (by rfl')];simp
theorem JH{n:Nat}{bills:aA}{c:aG}(h:∀ b∈bills,b.length=n)(hl:c.length=bills.length)(i:Nat):mix (P9 bills) c (n+i)=at0 c i:=by
 rw[Fy h hl (by rfl')];split
 · simp
 · rw[B4 (by rfl')]
theorem JI{n:Nat}{bills:aA}(h:∀ b∈bills,b.length=n):Ind (P9 bills):=λc hl hz x hx=>by
 rw[Y4]at hl;obtain⟨i,hi,e⟩:=uV.mp hx;have:=hz (n+i);rw[JH h hl]at this;rw[←e];simpa[at0,List.getD,wa hi]using this
theorem JJ{n:Nat}{bills:aA}{u:Row}(h:∀ b∈bills,b.length=n)(hu:u.length=n+bills.length):Span (vecs (P9 bills)) (λk=>at0 u k)↔∀ k,k<n->at0 u k=mix bills (u.drop n) k:=by
 have hd:(u.drop n).length=bills.length:=by rw[wY];rfl'
 constructor
 · intro s k hk;obtain⟨c,hc,e⟩:=Ai s;rw[Y4]at hc;have:c=u.drop n:=ext0 (by rw[hc,hd]) λi=>by
     rw[E7,←JH h hc i];exact(e (n+i)).symm
   have e1:=e k;rw[Cy h hk,this]at e1;exact e1
 · intro q;refine Span.congr (λk=>?_) (NH (u.drop n));by_cases hk:k<n
   · rw[Cy h hk,q k hk]
   · have:k=n+(k-n):=by rfl'
     rw[this,JH h hd,E7]
theorem EC{N n:Nat}:∀{f:Nat} {S:aA},Asc N f S->S=S.filter (λr=>decide (f9 r<n))++S.filter (λr=>!decide (f9 r<n))
 | f,[],_=>rfl
 | f,r::S,A=>by
  have ih:=EC (n:=n) A.2.2.2.2;by_cases h:f9 r<n
  · rw[vT,vT];simp only[h,decide_true,if_true,Bool.not_true,w03,if_false];rw[uS,←ih]
  · have e:S.filter (λr=>decide (f9 r<n))=[]:=List.filter_eq_nil_iff.mpr λx hx=>by have:=(A.2.2.2.2.mem hx).2.1;simp;rfl'
    rw[e,w0t]at ih;rw[vT,vT];simp only[h,decide_false,w1n,if_true,w03,if_false];rw[e,w0t,←ih]
def tops(n:Nat)(S:aA):aA:=(S.filter λr=>decide (f9 r<n)).map (·.take n)
def bots(n:Nat)(S:aA):aA:=(S.filter λr=>!decide (f9 r<n)).map (·.drop n)
theorem GY{r:Row}{n:Nat}(h:f9 r<n)(hl:f9 r<r.length):f9 (r.take n)=f9 r:=O9 _ _ (λk hk=>by rw[J4,if_pos (by rfl')];exact u6 r k hk) (by rw[J4,if_pos h];exact Cr r hl)
theorem DH{r:Row}{n:Nat}(h:n<=f9 r)(hl:f9 r<r.length):f9 (r.drop n)=f9 r-n:=O9 _ _ (λk hk=>by rw[E7];exact u6 r _ (by rfl')) (by rw[E7,show n+(f9 r-n)=f9 r by rfl'];exact Cr r hl)
section
variable {n N:Nat}{S:aA}
theorem JK(A:Asc N 0 S)(hN:n<=N):Asc n 0 (tops n S)/\(tops n S).length=(S.filter λr=>decide (f9 r<n)).length:=by
 have Q:=Asc.iff.mp A;refine⟨Asc.iff.mpr ⟨λx hx=>?_,?_⟩,by unfold tops;simp⟩
 · obtain⟨r,hr,rfl⟩:=wg.mp hx;obtain⟨hr,hd'⟩:=wL.mp hr;have hd':f9 r<n:=by simpa using hd'
   have q:=Q.1 r hr;have e:=GY hd' (by rfl');refine⟨by rw[vx];rfl',wK _,by rw[e];exact hd',?_⟩;unfold hd;rw[e,J4,if_pos hd'];exact q.2.2.2
 · have e:(tops n S).map f9=(S.filter λr=>decide (f9 r<n)).map f9:=by
    unfold tops;rw[wV];apply uA;intro r hr;obtain⟨hr,hd'⟩:=wL.mp hr;exact GY (by simpa using hd') (by have:=Q.1 r hr;rfl')
   rw[e];exact Q.2.sublist (vh.map _)
theorem LX(A:Asc N 0 S)(F:Form 0 (z9 S))(hN:n<=N):Form 0 (z9 (tops n S)):=by
 have Q:=Asc.iff.mp A;rw[Cw (JK A hN).1];have P:=(Cw A).mp F;unfold tops;rw[uj];refine List.Pairwise.imp_of_mem (λ{a b} ha hb h=>?_) (P.sublist vh);obtain⟨hb,hd'⟩:=wL.mp hb;have hd':f9 b<n:=by simpa using hd'
 have e:=GY hd' (by have:=Q.1 b hb;rfl');unfold Ab hd at *;rw[e,J4,if_pos hd',J4,if_pos hd'];exact h
theorem Pq(A:Asc N 0 S){m:Nat}(hN:N=n+m):Asc m 0 (bots n S):=by
 have Q:=Asc.iff.mp A;refine Asc.iff.mpr ⟨λx hx=>?_,?_⟩
 · obtain⟨r,hr,rfl⟩:=wg.mp hx;obtain⟨hr,hd'⟩:=wL.mp hr;have hd':n<=f9 r:=by simpa using hd'
   have q:=Q.1 r hr;have e:=DH hd' (by rfl');refine⟨by rw[wY];rfl',wK _,by rw[e];rfl',?_⟩;unfold hd;rw[e,E7,show n+(f9 r-n)=f9 r by rfl'];exact q.2.2.2
 · unfold bots;rw[wV,uj];have P:=(uj.mp Q.2).sublist (vh (p:=λr=>!decide (f9 r<n)));refine List.Pairwise.imp_of_mem (λ{a b} ha hb h=>?_) P;obtain⟨ha,ha'⟩:=wL.mp ha;obtain⟨hb,hb'⟩:=wL.mp hb;have ha':n<=f9 a:=by simpa using ha'
   have hb':n<=f9 b:=by simpa using hb'
   show f9 (a.drop n)<f9 (b.drop n);rw[DH ha' (by have:=Q.1 a ha;rfl'),DH hb' (by have:=Q.1 b hb;rfl')];rfl'
theorem ZU(A:Asc N 0 S)(F:Form 0 (z9 S)){m:Nat}(hN:N=n+m):Form 0 (z9 (bots n S)):=by
 have Q:=Asc.iff.mp A;rw[Cw (Pq A hN)];have P:=(Cw A).mp F;unfold bots;rw[uj];refine List.Pairwise.imp_of_mem (λ{a b} ha hb h=>?_) (P.sublist vh);obtain⟨hb,hb'⟩:=wL.mp hb;have hb':n<=f9 b:=by simpa using hb'
 have e:=DH hb' (by have:=Q.1 b hb;rfl');unfold Ab hd at *;rw[e,E7,E7,show n+(f9 b-n)=f9 b by rfl'];exact h
theorem LY(A:Asc N 0 S){v:Vec}(s:Span (vecs S) v):Span (vecs (tops n S)) (λk=>if k<n then v k else 0):=by
 refine Span.least (P:=λv=>Span (vecs (tops n S)) (λk=>if k<n then v k else 0)) ?_ (λv w hv hw=>?_) (λc v hv=>?_) (λx hx=>?_) s
 · exact Span.congr (λk=>by split<;>rfl) Span.zero
 · exact Span.congr (λk=>by split<;>rfl) (hv.add hw)
 · refine Span.congr (λk=>?_) (hv.smul c);split
   · rfl
   · simp
 · obtain⟨r,hr,rfl⟩:=wg.mp hx;by_cases h:f9 r<n
   · have hm:r.take n∈tops n S:=wg.mpr ⟨r,wL.mpr ⟨hr,by simpa using h⟩,rfl⟩;exact Span.congr (λk=>J4 r n k) (r8 hm)
   · refine Span.congr (λk=>?_) Span.zero;split
     · rw[show vec r k=0 from u6 r k (by rfl')]
     · rfl
theorem Pr{N:Nat}:∀{f:Nat} {T B:aA} {v:Vec},Asc N f (T++B)->Span (vecs (T++B)) v->(∀ r∈T,v (f9 r)=0)->Span (vecs B) v
 | f,[],B,v,_,s,_=>s
 | f,r::T,B,v,A,s,h=>Pr (T:=T) A.2.2.2.2 (A.tz s (h r we)) λx hx=>h x (wc _ hx)
theorem ZV(A:Asc N 0 S){v:Vec}(s:Span (vecs S) v)(z:∀ k,k<n->v k=0):Span (vecs (bots n S)) (λk=>v (n+k)):=by
 have e:=EC (n:=n) A;have A':=A;rw[e]at A' s;have s2:=Pr A' s λr hr=>z _ (by simpa using(wL.mp hr).2);refine Span.least (P:=λv=>Span (vecs (bots n S)) (λk=>v (n+k))) Span.zero (λv w hv hw=>hv.add hw) (λc v hv=>hv.smul c) (λx hx=>?_) s2;obtain⟨r,hr,rfl⟩:=wg.mp hx;exact Span.congr (λk=>E7 r n k) (r8 (wg.mpr ⟨r,hr,rfl⟩))
theorem ZW(A:Asc N 0 S){w:Vec}(s:Span (vecs (bots n S)) w):Span (vecs S) (λk=>if k<n then 0 else w (k-n)):=by
 refine Span.least (P:=λw=>Span (vecs S) (λk=>if k<n then 0 else w (k-n))) ?_ (λv w hv hw=>?_) (λc v hv=>?_) (λx hx=>?_) s
 · exact Span.congr (λk=>by split<;>rfl) Span.zero
 · exact Span.congr (λk=>by split<;>rfl) (hv.add hw)
 · refine Span.congr (λk=>?_) (hv.smul c);split
   · simp
   · rfl
 · obtain⟨r',hr',rfl⟩:=wg.mp hx;obtain⟨r,hr1,rfl⟩:=wg.mp hr';obtain⟨hr,h⟩:=wL.mp hr1;have h:n<=f9 r:=by simpa using h
   refine Span.congr (λk=>?_) (r8 hr);split
   · rw[u6 r k (by rfl')]
   · show at0 r k=at0 (r.drop n) (k-n);rw[E7,show n+(k-n)=k by rfl']
end
structure Tag(n:Nat)(bills S:aA):Prop where
 wide:∀ b∈bills,b.length=n
 asc:Asc (n+bills.length) 0 S
 form:Form 0 (z9 S)
 span:SameSpan (vecs S) (vecs (P9 bills))
 full:S.length=bills.length
theorem Good.tag{n B:Nat}{bills S:aA}(h:∀ b∈bills,b.length=n)(G:Good (n+bills.length) B (P9 bills) S):Tag n bills S :=
 ⟨h,G.asc,G.form,G.span,by rw[G.full (JI h),Y4]⟩
end St

end
section
local macro_rules|`(tactic|rfl')=>`(tactic|first|lia|omega +splitDisjunctions)
namespace St
open Lat
theorem F5{B:aA}{i:Nat}(h:i<B.length):B.getD i []∈B:=by simp[List.getD,wa h]
end St
namespace St
open Lat
theorem Asc.small{n:Nat}:∀{f:Nat} {S:aA} {u:Vec},Asc n f S->Span (vecs S) u->(∀ r∈S,-(hd r)<u (f9 r)/\u (f9 r)<hd r)->∀ k,u k=0
 | f,[],u,_,s,_=>s
 | f,r::S,u,A,s,h=>by
  have hr:=h r we;have z:u (f9 r)=0:=by
   obtain⟨c,q⟩:=s;have e:=A.coef q;have c0:c=0:=AB e A.2.2.2.1 hr.1 hr.2;rw[e,c0];simp
  exact A.2.2.2.2.small (A.tz s z) λx hx=>h x (wc _ hx)
theorem ZX{n:Nat}{S:aA}{u v:Row}(A:Asc n 0 S)(hu:u.length=n)(hv:v.length=n)(s:Span (vecs S) (λk=>at0 u k-at0 v k))(h1:∀ r∈S,0<=at0 u (f9 r)/\at0 u (f9 r)<hd r)(h2:∀ r∈S,0<=at0 v (f9 r)/\at0 v (f9 r)<hd r):u=v:=by
 refine ext0 (by rfl') λk=>?_;have:=A.small s (λr hr=>by have:=h1 r hr;have:=h2 r hr;rfl') k;rfl'
theorem Ps{n:Nat}{S:aA}{u v:Row}(A:Asc n 0 S)(hu:u.length=n)(hv:v.length=n)(s:Span (vecs S) (λk=>at0 u k-at0 v k)):n8 u S=n8 v S:=by
 refine ZX A (I0 A hu) (I0 A hv) ?_ (L5 A hu) (L5 A hv);have s1:=F4 A hu;have s2:=F4 A hv;exact Span.congr (λk=>by rfl') ((s.sub s1).add s2)
end St

end
section
namespace St
open Lat
theorem z1q{n:Nat}{bills:aA}(hw:∀ r∈bills,r.length=n){v:Vec}(s:Span (vecs bills) v):∀ k,n<=k->v k=0 :=
 Span.least (P:=λv=>∀ k,n<=k->v k=0) (λ_ _=>rfl) (λv w h1 h2 k hk=>by show v k+w k=0;rw[h1 k hk,h2 k hk];rfl) (λc v h k hk=>by show c*v k=0;rw[h k hk,w0P]) (λr hr=>by
  obtain⟨x,hx,rfl⟩:=wg.mp hr;intro k hk;exact B4 (by rw[hw x hx];exact hk)) s
end St

end
section
namespace St
open Lat
theorem LZ{A B:aA}{v:Vec}(s:Span (vecs A) v)(h:∀ r∈A,r∈B):Span (vecs B) v:=Span.trans (λr hr=>by
 obtain⟨x,hx,rfl⟩:=wg.mp hr;exact Span.mem (Ct (h x hx))) s
end St

end
section
namespace St
open Lat
theorem JL{S:aA}{r:Row}(h:r∈S):Span (vecs S) (vec r):=Span.mem (Ct h)
end St

end
section
set_option maxHeartbeats 1000000
namespace St
open Lat
theorem Fz{a b:Row}{n k:Nat}(h:a.length=n):at0 (a++b) k=if k<n then at0 a k else at0 b (k-n):=Aj h k
theorem Yw(n k:Nat):at0 (List.replicate n 0) k=0:=by
 unfold at0;by_cases h:k<n
 · simp[List.getD,h]
 · simp[List.getD,h]
theorem AS{A B:aA}(v:Vec):Span (vecs (A++B)) v↔∃ x y:Vec,Span (vecs A) x/\Span (vecs B) y/\∀ k,v k=x k+y k:=by
 constructor
 · intro s;refine Span.least (P:=λv=>∃ x y:Vec,Span (vecs A) x/\Span (vecs B) y/\∀ k,v k=x k+y k) ?_ ?_ ?_ ?_ s
   · exact⟨_,_,Span.zero,Span.zero,λk=>rfl⟩
   · rintro v w ⟨x,y,a,b,e⟩ ⟨x',y',a',b',e'⟩;exact⟨_,_,a.add a',b.add b',λk=>by show v k+w k=_;rw[e,e'];rfl'⟩
   · rintro c v ⟨x,y,a,b,e⟩;exact⟨_,_,a.smul c,b.smul c,λk=>by show c*v k=_;rw[e,w0e]⟩
   · intro g hg;obtain⟨r,hr,rfl⟩:=wg.mp hg;rcases wo.mp hr with h|h
     · exact⟨_,_,JL h,Span.zero,λk=>(Int.add_zero _).symm⟩
     · exact⟨_,_,Span.zero,JL h,λk=>(w0r _).symm⟩
 · rintro⟨x,y,a,b,e⟩;exact Span.congr (λk=>(e k).symm) ((LZ a λr hr=>wo.mpr (.inl hr)).add (LZ b λr hr=>wo.mpr (.inr hr)))
end St

end
section
set_option maxHeartbeats 1000000
namespace St
open Lat
def Ih(table rungs:aA):aA:=P9 table++rungs.map (λr=>r++List.replicate table.length 0)
theorem z1r(n:Nat)(r:Row):vec (r++List.replicate n 0)=vec r:=funext λk=>by
 show at0 (r++List.replicate n 0) k=at0 r k;rw[Fz rfl];split
 · rfl
 · rw[Yw,B4 (r:=r) (by rfl')]
theorem ZY(n:Nat)(S:aA):vecs (S.map λr=>r++List.replicate n 0)=vecs S:=by
 show List.map vec (List.map _ S)=List.map vec S;rw[wV];exact uA λr _=>z1r n r
theorem ZZ{m:Nat}{table rungs U:aA}{b:Row}(ht:∀ r∈table,r.length=m)(hr:∀ r∈rungs,r.length=m)(hb:b.length=table.length)(A:Asc (m+table.length) 0 U)(ss:SameSpan (vecs U) (vecs (Ih table rungs))):Span (vecs (bots m U)) (λk=>at0 b k)↔Span (vecs rungs) (mix table b):=by
 have vf:vecs (Ih table rungs)=vecs (P9 table++rungs):=by
   unfold Ih;show List.map vec _=List.map vec _;rw[vm,vm];congr 1;exact ZY _ _
 have mz:∀ k,m<=k->mix table b k=0:=Fw ht;constructor
 · intro s;have s1:=(ss.iff).mp (ZW (n:=m) A s);rw[vf]at s1;obtain⟨x,y,sx,sy,e⟩:=(AS _).mp s1;have yo:=z1q hr sy;have u0:∀ k,at0 ((List.range m).map x++b) k=x k:=λk=>by
     rw[Fz (a:=(List.range m).map x) (n:=m) (by simp)];by_cases h:k<m
     · rw[if_pos h];unfold at0;simp[List.getD,h]
     · rw[if_neg h];have e:=e k;have e:(if k<m then(0:Int) else at0 b (k-m))=x k+y k:=e;rw[if_neg h,yo k (by rfl')]at e;rfl'
   have sx':Span (vecs (P9 table)) (λk=>at0 ((List.range m).map x++b) k):=Span.congr (λk=>(u0 k).symm) sx;have q:=(JJ ht (by rw[ww,wv,vM,hb])).mp sx';have dr:((List.range m).map x++b).drop m=b:=by
     have:((List.range m).map x).length=m:=by simp
     rw[w0m,this,Nat.sub_self,w0y,vO (by rfl')];rfl
   rw[dr]at q;refine Span.congr (λk=>?_) sy.neg;by_cases h:k<m
   · have e:=e k;have e:(if k<m then(0:Int) else at0 b (k-m))=x k+y k:=e;rw[if_pos h,←u0 k,q k h]at e;show -(y k)=_;rfl'
   · show -(y k)=_;rw[yo k (by rfl'),mz k (by rfl')];rfl
 · intro s;have dr:((List.range m).map (mix table b)++b).drop m=b:=by
     have:((List.range m).map (mix table b)).length=m:=by simp
     rw[w0m,this,Nat.sub_self,w0y,vO (by rfl')];rfl
   have u0:∀ k,at0 ((List.range m).map (mix table b)++b) k=if k<m then mix table b k else at0 b (k-m):=λk=>by
     rw[Fz (a:=(List.range m).map (mix table b)) (n:=m) (by simp)];by_cases h:k<m
     · rw[if_pos h,if_pos h];unfold at0;simp[List.getD,h]
     · rw[if_neg h,if_neg h]
   have sx:Span (vecs (P9 table)) (λk=>at0 ((List.range m).map (mix table b)++b) k):=(JJ ht (by rw[ww,wv,vM,hb])).mpr λk hk=>by
     rw[u0,if_pos hk,dr]
   have s1:Span (vecs (P9 table++rungs)) (λk=>at0 ((List.range m).map (mix table b)++b) k-mix table b k):=(AS _).mpr ⟨_,_,sx,s.neg,λk=>by show _=_ + -(mix table b k);rfl'⟩;rw[←vf]at s1;have s2:=(ss.iff).mpr s1;refine Span.congr (λk=>?_) (ZV (n:=m) A s2 λk hk=>?_)
   · show at0 ((List.range m).map (mix table b)++b) (m+k)-mix table b (m+k)=at0 b k;rw[u0,if_neg (by rfl'),mz _ (by rfl'),show m+k-m=k by rfl'];rfl'
   · show at0 ((List.range m).map (mix table b)++b) k-mix table b k=0;rw[u0,if_pos hk];rfl'
end St

end
section
namespace St
open Lat
def sm:Nat->(Nat->Int)->Int
 | 0,_=>0
 | m+1,f=>f 0+sm m (λk=>f (k+1))
theorem u8:∀{m:Nat} {f g:Nat->Int},(∀ k,k<m->f k=g k)->sm m f=sm m g
 | 0,_,_,_=>rfl
 | m+1,f,g,h=>by rw[sm,sm,h 0 (by rfl'),u8 λk hk=>h (k+1) (by rfl')]
theorem A5{m:Nat}{f:Nat->Int}(h:∀ k,k<m->f k=0):sm m f=0:=by
 rw[u8 h]
 induction m with
 | zero=>rfl
 | succ m ih=>rw[sm,ih λk hk=>h k (by rfl')];rfl
theorem GZ:∀(m:Nat) (f g:Nat->Int),sm m (λk=>f k+g k)=sm m f+sm m g
 | 0,_,_=>rfl
 | m+1,f,g=>by rw[sm,sm,sm,GZ m];rfl'
theorem R7(c:Int):∀(m:Nat) (f:Nat->Int),sm m (λk=>c*f k)=c*sm m f
 | 0,_=>by simp[sm]
 | m+1,f=>by rw[sm,sm,R7 c m,w0e]
theorem NI(c:Int)(m:Nat)(f:Nat->Int):sm m (λk=>f k*c)=sm m f*c:=by
 rw[wM,←R7];exact u8 λk _=>wM _ _
theorem Ha(m:Nat)(f g:Nat->Int):sm m (λk=>f k-g k)=sm m f-sm m g:=by
 have:=GZ m f (λk=>(-1)*g k);rw[R7]at this;rw[u8 (g:=λk=>f k+(-1)*g k) λk _=>by rfl',this];rfl'
theorem IP:∀(m p:Nat) (f:Nat->Nat->Int),sm m (λi=>sm p (λj=>f i j))=sm p (λj=>sm m (λi=>f i j))
 | 0,p,f=>by rw[sm];exact(A5 λk _=>rfl).symm
 | m+1,p,f=>by rw[sm,IP m p,←GZ];rfl
theorem Q0:∀{m i:Nat} {f:Nat->Int},i<m->(∀ k,k<m->k≠i->f k=0)->sm m f=f i
 | m+1,0,f,_,z=>by rw[sm,A5 λk hk=>z (k+1) (by rfl') (by rfl')];rfl'
 | m+1,i+1,f,h,z=>by rw[sm,z 0 (by rfl') (by rfl'),Q0 (i:=i) (by rfl') λk hk hn=>z (k+1) (by rfl') (by rfl')];rfl'
def ent(A:aA)(i j:Nat):Int:=at0 (A.getD i []) j
theorem z5w(k:Nat):at0 [] k=0:=by simp[at0]
theorem C2{A:aA}{i:Nat}(h:A.length<=i)(j:Nat):ent A i j=0:=by
 unfold ent;rw[show A.getD i []=[] by simp[List.getD,wJ h],z5w]
theorem NJ{A:aA}{m i j:Nat}(hl:∀ r∈A,r.length=m)(h:m<=j):ent A i j=0:=by
 by_cases hi:i<A.length
 · unfold ent;exact B4 (by rw[hl _ (F5 hi)];exact h)
 · exact C2 (by rfl') j
theorem Pt(r:Row)(A:aA)(i j:Nat):ent (r::A) (i+1) j=ent A i j:=rfl
theorem F6:∀{A:aA} {v:Vec},Span (vecs A) v↔∃ c:Nat->Int,∀ k,v k=sm A.length (λi=>c i*ent A i k)
 | [],v=>⟨λh=>⟨λ_=>0,h⟩,λ⟨_,h⟩=>h⟩
 | r::A,v=>by
  constructor
  · rintro⟨c0,h⟩;obtain⟨c,h⟩:=F6.mp h;refine⟨λi=>match i with|0=>c0|i+1=>c i,λk=>?_⟩;have:v k-c0*at0 r k=sm A.length (λi=>c i*ent A i k):=h k;rw[wn,sm];show v k=c0*at0 r k+sm A.length (λi=>c i*ent A i k);rfl'
  · rintro⟨c,h⟩;refine⟨c 0,F6.mpr ⟨λi=>c (i+1),λk=>?_⟩⟩;have:=h k;rw[wn,sm]at this;show v k-c 0*at0 r k=sm A.length (λi=>c (i+1)*ent A i k);have e:ent (r::A) 0 k=at0 r k:=rfl;rw[e]at this;simp only[Pt]at this;rfl'
theorem Q1{A:aA}{i:Nat}(h:i<A.length):Span (vecs A) (λk=>ent A i k):=r8 (F5 h)
def trn(m:Nat)(A:aA):aA:=(List.range m).map λk=>A.map λr=>at0 r k
theorem D4(m:Nat)(A:aA):(trn m A).length=m:=by simp[trn]
theorem V6{m:Nat}{A:aA}{r:Row}(h:r∈trn m A):r.length=A.length:=by
 obtain⟨k,_,rfl⟩:=wg.mp h;simp
theorem z1s(m:Nat)(A:aA)(k i:Nat):ent (trn m A) k i=if k<m then ent A i k else 0:=by
 by_cases h:k<m
 · rw[if_pos h];unfold ent trn at0;rw[show((List.range m).map λk=>A.map λr=>r.getD k 0).getD k []=A.map λr=>r.getD k 0 by simp[List.getD,h]];by_cases hi:i<A.length
   · simp[List.getD,wa hi]
   · simp[List.getD,wJ (vG hi)]
 · rw[if_neg h,C2 (by rw[D4];rfl')]
theorem J0{m:Nat}{A:aA}(hl:∀ r∈A,r.length=m)(k i:Nat):ent (trn m A) k i=ent A i k:=by
 rw[z1s];split
 · rfl
 · exact(NJ hl (by rfl')).symm
theorem z5x{A B:aA}{m:Nat}(h:A.length=B.length)(ha:∀ r∈A,r.length=m)(hb:∀ r∈B,r.length=m)(q:∀ i k,ent A i k=ent B i k):A=B:=by
 refine vS h λi h1 h2=>?_;have e1:A.getD i []=A[i]:=by simp[List.getD,wa h1]
 have e2:B.getD i []=B[i]:=by simp[List.getD,wa h2]
 refine ext0 (by rw[ha _ (vn h1),hb _ (vn h2)]) λk=>?_;have:=q i k;unfold ent at this;rw[e1,e2]at this;exact this
theorem z5y{m p:Nat}{A:aA}(hl:∀ r∈A,r.length=m)(hp:A.length=p):trn p (trn m A)=A:=by
 refine z5x (m:=m) (by rw[D4,hp]) (λr hr=>by rw[V6 hr,D4]) hl λi k=>?_;rw[J0 (λr hr=>by rw[V6 hr,hp]),J0 hl]
structure Sq(r:Nat)(A:aA):Prop where
 asc:Asc r 0 A
 form:Form 0 (z9 A)
 len:A.length=r
theorem Ma{n:Nat}:∀{f:Nat} {S:aA} {i:Nat},Asc n f S->i<S.length->f+i<=f9 (S.getD i [])/\f9 (S.getD i [])+(S.length-i)<=n
 | f,r::S,0,⟨h1,h2,h3,h4,h5⟩,_=>by
  have:=T8 h5 (by rfl');show f+0<=f9 r/\f9 r+(S.length+1-0)<=n;rfl'
 | f,r::S,i+1,⟨h1,h2,h3,h4,h5⟩,h=>by
  obtain⟨a,b⟩:=Ma (i:=i) h5 (by simpa using h);have e:(r::S).getD (i+1) []=S.getD i []:=rfl;rw[e,wn];rfl'
variable {r:Nat}{A:aA}
theorem Sq.rows(q:Sq r A):∀ x∈A,x.length=r:=λx hx=>(q.asc.mem hx).1
theorem Sq.head(q:Sq r A){i:Nat}(hi:i<r):f9 (A.getD i [])=i:=by
 have:=Ma q.asc (i:=i) (by rw[q.len];exact hi);have:=q.len;rfl'
theorem Sq.pos(q:Sq r A){i:Nat}(hi:i<r):0<ent A i i:=by
 have:=(Fv q.asc (k:=i) (by rw[q.len];exact hi)).2.2.2;unfold hd at this;rw[q.head hi]at this;exact this
theorem Sq.low(q:Sq r A){i j:Nat}(h:j<i):ent A i j=0:=by
 by_cases hi:i<r
 · exact u6 _ _ (by rw[q.head hi];exact h)
 · exact C2 (by rw[q.len];rfl') j
theorem Sq.red(q:Sq r A){i j:Nat}(h:i<j)(hj:j<r):0<=ent A i j/\ent A i j<ent A j j:=by
 have:=JF q.form (j:=i) (k:=j) h (by rw[q.len];exact hj);unfold hd at this;rw[q.head hj]at this;exact this
theorem Sq.far(q:Sq r A){i j:Nat}(h:r<=j):ent A i j=0:=NJ q.rows h
theorem NK{n:Nat}:∀{f:Nat} {S:aA} {v:Vec} {x:Row},Asc n f S->Span (vecs S) v->(∀ k,k<f9 x->v k=0)->x∈S->hd x∣v (f9 x)
 | f,r::S,v,x,A,⟨c,s⟩,z,hx=>by
  have e:=A.coef s;rcases wq.mp hx with rfl|hx
  · exact⟨c,by rw[e];exact wM _ _⟩
  · have hh:=(A.2.2.2.2.mem hx).2.1;have e0:=z (f9 r) (by rfl');have hp:=A.2.2.2.1;have hc:c=0:=by
     rw[e0]at e;rcases vC.mp e.symm with h|h
     · exact h
     · rfl'
    subst hc;exact NK A.2.2.2.2 (Span.congr (λk=>by simp) s) z hx
theorem Sq.dvd(q:Sq r A){v:Vec}{i:Nat}(hi:i<r)(s:Span (vecs A) v)(z:∀ k,k<i->v k=0):ent A i i∣v i:=by
 have h:=NK q.asc s (x:=A.getD i []) (λk hk=>z k (by rw[q.head hi]at hk;exact hk)) (F5 (by rw[q.len];exact hi));unfold hd at h;rw[q.head hi]at h;exact h
abbrev pt(i:Nat)(d:Int):Vec:=λk=>if k=i then d else 0
theorem Sq.clean(q:Sq r A){i:Nat}{d:Int}(hi:i<r)(hd:0<d)(h1:Span (vecs A) (pt i d))(h2:∀ y,Span (vecs A) y->d∣y i):∀ k,ent A i k=pt i d k:=by
 have a:=q.dvd hi h1 λk hk=>by simp[pt];rfl'
 have b:=h2 _ (Q1 (by rw[q.len];exact hi));have e:ent A i i=d:=Int.dvd_antisymm (Int.le_of_lt (q.pos hi)) (Int.le_of_lt hd) (by simpa[pt]using a) b;have u:Span (vecs A) (λk=>ent A i k-pt i d k):=(Q1 (by rw[q.len];exact hi)).sub h1;have z:=Asc.small0 q.asc u λx hx=>by
  obtain⟨j,hj,rfl⟩:=wH hx;have ej:A[j]=A.getD j []:=by simp[List.getD,wa hj]
  rw[q.len]at hj;have hp:=q.pos hj;unfold St.hd;rw[ej,q.head hj];show 0<=ent A i j-pt i d j/\ent A i j-pt i d j<ent A j j;rcases w0f j i with h|h|h
  · rw[q.low h];simp only[pt];rw[if_neg (by rfl')];rfl'
  · subst h;simp only[pt,if_true];rfl'
  · have:=q.red h hj;simp only[pt];rw[if_neg (by rfl')];rfl'
 intro k;have:=z k;rfl'
def Clean(t:Nat)(A:aA):Prop:=∀ i,i<t->∀ k,k≠i->ent A i k=0
theorem U5{y:Vec}(hl:∀ x∈A,x.length=r):Span (vecs (trn r A)) y↔∃ c:Nat->Int,∀ k,y k=sm r (λj=>c j*ent A k j):=by
 rw[F6];simp only[D4,J0 hl]
theorem Clean.dvd(q:Sq r A){t i:Nat}(c:Clean t A)(hi:i<t){y:Vec}(s:Span (vecs (trn r A)) y):ent A i i∣y i:=by
 by_cases hr:i<r
 · obtain⟨c',h⟩:=(U5 q.rows).mp s;rw[h i,Q0 hr λk _ hn=>by rw[c i hi k hn];simp];exact⟨c' i,wM _ _⟩
 · rw[q.far (by rfl')];obtain⟨c',h⟩:=(U5 q.rows).mp s;rw[h i,A5 λk hk=>by rw[c i hi k (by rfl')];simp];exact⟨0,rfl⟩
theorem Clean.col(q:Sq r A){t:Nat}(c:Clean t A){i:Nat}(hi:i<=t)(hr:i<r):Span (vecs (trn r A)) (pt i (ent A i i)):=by
 refine Span.congr (λk=>?_) (Q1 (A:=trn r A) (i:=i) (by rw[D4];exact hr));rw[J0 q.rows];simp only[pt];by_cases h:k=i
 · subst h;rw[if_pos rfl]
 · rw[if_neg h];by_cases hk:k<i
   · exact c k (by rfl') i (by rfl')
   · exact q.low (by rfl')
theorem half{X Y:aA}{t:Nat}(x:Sq r X)(y:Sq r Y)(s:SameSpan (vecs Y) (vecs (trn r X)))(c:Clean t X)(ht:t<=r):
   Clean t Y/\(∀ i,i<t->ent Y i i=ent X i i)/\(t<r->ent Y t t∣ent X t t/\(ent Y t t=ent X t t->Clean (t+1) Y)):=by
 have key:∀ i,i<t->∀ k,ent Y i k=pt i (ent X i i) k:=λi hi=>y.clean (by rfl') (x.pos (by rfl')) (s.iff.mpr (c.col x (by rfl') (by rfl'))) λv hv=>c.dvd x hi (s.iff.mp hv);have cl:Clean t Y:=λi hi k hn=>by rw[key i hi];simp[pt,hn]
 refine⟨cl,λi hi=>by rw[key i hi];simp[pt],λh=>?_⟩;have sp:=s.iff.mpr (c.col x (wu t) h);have d:=y.dvd h sp λk hk=>by simp[pt];rfl'
 simp only[pt,if_true]at d;refine⟨d,λe=>?_⟩;have k2:=y.clean (i:=t) (d:=ent X t t) h (x.pos h) sp λv hv=>by
   obtain⟨c',hc⟩:=F6.mp hv;rw[hc t,y.len,Q0 h λk hk hn=>?_]
   · rw[e];exact⟨c' t,wM _ _⟩
   · rcases ud hn with hlt|hgt
     · rw[cl k hlt t (by rfl')];simp
     · rw[y.low hgt];simp
 intro i hi k hn;by_cases ht:i<t
 · exact cl i ht k hn
 · have:i=t:=by rfl'
   subst this;rw[k2];simp[pt,hn]
theorem Pu{X Y Z:aA}{t:Nat}(x:Sq r X)(y:Sq r Y)(z:Sq r Z)(s:SameSpan (vecs Y) (vecs (trn r X)))(s':SameSpan (vecs Z) (vecs (trn r Y)))(c:Clean t X)(ht:t<r):
   Clean t Z/\(Clean (t+1) Z\/ent Z t t<ent X t t):=by
 obtain⟨a1,a2,a3⟩:=half x y s c (by rfl');obtain⟨b1,b2,b3⟩:=half y z s' a1 (by rfl');obtain⟨a4,a5⟩:=a3 ht;obtain⟨b4,b5⟩:=b3 ht;have xp:=x.pos ht;have yp:=y.pos ht;have zp:=z.pos ht;have l1:=vR xp a4;have l2:=vR yp b4;refine⟨b1,?_⟩;by_cases e:ent Z t t=ent X t t
 · left;have cy:=a5 (by rfl');obtain⟨d1,_,_⟩:=half y z s' cy (by rfl');exact d1
 · right;rfl'
def Q2(r:Nat)(w:Int)(A:aA):Prop:=∀ i,i<r->Span (vecs A) (pt i w)
theorem Sq.comm(q:Sq r A){w:Int}(h:Q2 r w A):Q2 r w (trn r A):=by
 have hM:∃ M:Nat->Nat->Int,∀ i,i<r->∀ k,pt i w k=sm r (λj=>M i j*ent A j k):=by
   have:∀ i,∃ c:Nat->Int,i<r->∀ k,pt i w k=sm r (λj=>c j*ent A j k):=λi=>by
     by_cases hi:i<r
     · obtain⟨c,hc⟩:=F6.mp (h i hi);rw[q.len]at hc;exact⟨c,λ_=>hc⟩
     · exact⟨λ_=>0,λh=>absurd h hi⟩
   exact⟨λi=>vH (this i),λi hi=>vc (this i) hi⟩
 obtain⟨M,hM⟩:=hM;have indep:∀ z:Nat->Int,(∀ k,k<r->sm r (λj=>z j*ent A j k)=0)->∀ j,j<r->z j=0:=λz hz j=>by
   induction j using ug with
   | ind j ih =>
     intro hj;have e:=hz j hj;rw[Q0 hj λk hk hn=>?_]at e
     · rcases vC.mp e with h|h
       · exact h
       · have:=q.pos hj;rfl'
     · rcases ud hn with h|h
       · rw[ih k h hk];simp
       · rw[q.low h];simp
 intro i hi;refine(U5 q.rows).mpr ⟨λj=>M j i,λk=>?_⟩;by_cases hk:k<r
 · have:=indep (λi=>sm r (λj=>M j i*ent A k j)-pt i w k) (λm hm=>?_) i hi
   · have hs:pt i w k=pt k w i:=by simp only[pt];split<;>split<;>first|rfl|rfl'
     show pt i w k=sm r (λj=>M j i*ent A k j);rw[hs];have this:sm r (λj=>M j i*ent A k j)-pt i w k=0:=this;rfl'
   · rw[u8 (g:=λi=>sm r (λj=>(ent A k j*(M j i*ent A i m)))-pt i w k*ent A i m) λi _=>?_]
     · rw[Ha,IP,u8 (g:=λj=>ent A k j*pt j w m) λj hj=>?_]
       · rw[Q0 (i:=m) hm λj _ hn=>by simp only[pt];rw[if_neg (by rfl')];simp];rw[Q0 (i:=k) hk λj _ hn=>by simp only[pt];rw[if_neg (by rfl')];simp];simp only[pt,if_true];rw[wM];rfl'
       · rw[R7,←hM j hj m]
     · rw[w0A,←NI];congr 1;exact u8 λj _=>by rw[wM (M j i),vJ]
 · have:pt i w k=0:=by simp only[pt];rw[if_neg (by rfl')]
   rw[show(pt i w) k=0 from this,A5 λj _=>by rw[C2 (A:=A) (i:=k) (by rw[q.len];rfl')];simp]
theorem Sq.whole(q:Sq r A){w:Int}(h:Q2 r w A){i:Nat}(hi:i<r):ent A i i∣w:=by
 have:=q.dvd hi (h i hi) λk hk=>by simp[pt];rfl'
 simpa[pt]using this
end St

end
section
namespace St
open Lat
theorem z1t:∀{m k:Nat} {f:Nat->Int},k<=m->(∀ i,k<=i->i<m->f i=0)->sm m f=sm k f
 | m,0,f,_,z=>A5 λi hi=>z i (wK _) hi
 | m+1,k+1,f,h,z=>by rw[sm,sm,z1t (k:=k) (by rfl') λi h1 h2=>z (i+1) (by rfl') (by rfl')]
theorem FD{m a:Nat}{c:Nat->Int}{D:Nat->Nat->Int}(hd:∀ l,l<m->D l l≠0)(hl:∀ l j,l<j->j<m->D l j=0)(h:∀ j,a<=j->j<m->sm m (λl=>c l*D l j)=0):
  ∀ d l,l+d=m->a<=l->l<m->c l=0:=λd=>by
 induction d using ug with
 | ind d ih =>
  intro l e ha hm;have q:=h l ha hm;rw[Q0 hm λk hk hn=>?_]at q
  · rcases vC.mp q with q|q
    · exact q
    · exact absurd q (hd l hm)
  · rcases ud hn with x|x
    · rw[hl k l x hm];simp
    · rw[ih (m-k) (by rfl') k (by rfl') (by rfl') hk];simp
theorem JM{P:aA}{k i:Nat}(h:i<k)(j:Nat):ent (P.take k) i j=ent P i j:=by
 unfold ent;congr 1;simp[List.getD,w0K,h]
structure Below(r N:Nat)(w:Int)(P:aA):Prop where
 len:P.length=r
 wid:r<=N
 rows:∀ x∈P,x.length=N
 pos:∀ i,i<r->ent P i i≠0
 low:∀ i j,i<j->j<r->ent P i j=0
 whole:∀ i,i<r->∃ v:Vec,Span (vecs P) v/\v i=w/\∀ k,k<r->k≠i->v k=0
theorem Below.heads{r N:Nat}{w:Int}{P S:aA}(B:Below r N w P){k:Nat}(hk:k<=r)(A:Asc N 0 S)(s:SameSpan (vecs S) (vecs (P.take k))){x:Row}(hx:x∈S):f9 x<k/\hd x∣w:=by
 have kl:(P.take k).length=k:=by rw[vx,B.len];rfl'
 obtain⟨c,hc⟩:=F6.mp (s.iff.mp (r8 hx));rw[kl]at hc;have hh:f9 x<k:=by
  refine Nat.lt_of_not_le λhge=>?_;have z:=FD (m:=k) (a:=0) (c:=c) (D:=λl j=>ent P l j) (λl hl=>B.pos l (by rfl')) (λl j h1 h2=>B.low l j h1 (by rfl')) (λj _ hj=>by
   have:=hc j;rw[u8 (g:=λl=>c l*ent P l j) λl hl=>by rw[JM hl]]at this;rw[←this];exact u6 x j (by rfl'))
  have:=(A.mem hx).2.2.2;unfold hd at this;have e:=hc (f9 x);rw[A5 λl hl=>by rw[z (k-l) l (by rfl') (by rfl') hl];simp]at e;rfl'
 refine⟨hh,?_⟩;obtain⟨v,v1,v2,v3⟩:=B.whole (f9 x) (by rfl');obtain⟨d,hd'⟩:=F6.mp v1;rw[B.len]at hd';have z:=FD (m:=r) (a:=f9 x+1) (c:=d) (D:=λl j=>ent P l j) B.pos B.low λj h1 h2=>by rw[←hd' j];exact v3 j h2 (by rfl')
 have sv:Span (vecs S) v:=s.iff.mpr (F6.mpr ⟨d,λj=>by
  rw[hd' j,kl,z1t hk λi h1 h2=>by rw[z (r-i) i (by rfl') (by rfl') h2];simp];exact u8 λl hl=>by rw[JM hl]⟩)
 have:=NK A sv (x:=x) (λj hj=>v3 j (by rfl') (by rfl')) hx;rw[v2]at this;exact this
structure Lin(F:Vec->Int):Prop where
 add:∀ u v:Vec,F (λk=>u k+v k)=F u+F v
 smul:∀(c:Int) (u:Vec),F (λk=>c*u k)=c*F u
theorem Lin.zero{F:Vec->Int}(h:Lin F):F (λ_=>0)=0:=by
 have:=h.smul 0 (λ_=>0);simpa using this
theorem Lin.sum{F:Vec->Int}(h:Lin F):∀(m:Nat) (c:Nat->Int) (R:Nat->Vec),F (λk=>sm m (λi=>c i*R i k))=sm m (λi=>c i*F (R i))
 | 0,_,_=>h.zero
 | m+1,c,R=>by
  have:=h.sum m (λi=>c (i+1)) (λi=>R (i+1));rw[sm,←this,←h.smul,←h.add];rfl
theorem Lin.span{F:Vec->Int}(h:Lin F){P:aA}{v:Vec}(z:∀ l,l<P.length->F (λk=>ent P l k)=0)(s:Span (vecs P) v):F v=0:=by
 obtain⟨c,hc⟩:=F6.mp s;rw[show v=λk=>sm P.length (λi=>c i*ent P i k)from funext hc,h.sum];exact A5 λi hi=>by rw[z i hi];simp
theorem Mc{N:Nat}:∀{f:Nat} {S:aA} {z:Nat->Int},Asc N f S->(∀ k,sm S.length (λi=>z i*ent S i k)=0)->∀ i,i<S.length->z i=0
 | f,r::S,z,A,h,i,hi=>by
  have e:=h (f9 r);rw[wn,sm,A5 λk hk=>?_]at e
  · have z0:z 0=0:=by
     have p:=A.2.2.2.1;have e:z 0*hd r+0=0:=e;rcases vC.mp (show z 0*hd r=0 by rfl')with q|q
     · exact q
     · rfl'
    match i,hi with
    | 0,_=>exact z0
    | i+1,hi =>
     refine Mc (z:=λi=>z (i+1)) A.2.2.2.2 (λk=>?_) i (by simpa using hi);have e:=h k;rw[wn,sm,z0]at e;have e:0*ent (r::S) 0 k+sm S.length (λi=>z (i+1)*ent S i k)=0:=e;rfl'
  · rw[Pt];have:=(A.2.2.2.2.mem (F5 hk)).2.1;rw[show ent S k (f9 r)=0 from u6 _ _ (by rfl')];simp
theorem lift{N:Nat}{P S:aA}(s:SameSpan (vecs P) (vecs S))(A:Asc N 0 S)(ζ:Nat->Int):
  ∃ z:Nat->Int,∀ F,Lin F->(∀ l,l<P.length->F (λk=>ent P l k)=z l)->∀ i,i<S.length->F (λk=>ent S i k)=ζ i:=by
 have hU:∀ i,∃ c:Nat->Int,i<S.length->∀ k,ent S i k=sm P.length (λl=>c l*ent P l k):=λi=>by
  by_cases hi:i<S.length
  · obtain⟨c,hc⟩:=F6.mp (s.iff.mpr (Q1 hi));exact⟨c,λ_=>hc⟩
  · exact⟨λ_=>0,λh=>absurd h hi⟩
 have hV:∀ i,∃ c:Nat->Int,i<P.length->∀ k,ent P i k=sm S.length (λl=>c l*ent S l k):=λi=>by
  by_cases hi:i<P.length
  · obtain⟨c,hc⟩:=F6.mp (s.iff.mp (Q1 hi));exact⟨c,λ_=>hc⟩
  · exact⟨λ_=>0,λh=>absurd h hi⟩
 obtain⟨U,hU⟩:∃ U:Nat->Nat->Int,∀ i,i<S.length->∀ k,ent S i k=sm P.length (λl=>U i l*ent P l k):=⟨λi=>vH (hU i),λi=>vc (hU i)⟩;obtain⟨V,hV⟩:∃ V:Nat->Nat->Int,∀ i,i<P.length->∀ k,ent P i k=sm S.length (λl=>V i l*ent S l k):=⟨λi=>vH (hV i),λi=>vc (hV i)⟩
 have key:∀ i,i<S.length→∀ m,m<S.length→sm P.length (fun l=>U i l*V l m)=if m=i then 1 else 0:=fun i hi m hm=>by
  have:=Mc (z:=λm=>sm P.length (λl=>U i l*V l m)-if m=i then 1 else 0) A (λk=>?_) m hm
  · have this:sm P.length (λl=>U i l*V l m)-(if m=i then 1 else 0)=0:=this;rfl'
  · rw[u8 (g:=λm=>sm P.length (λl=>U i l*(V l m*ent S m k))-(if m=i then 1 else 0)*ent S m k) λm _=>?_]
    · rw[Ha,IP,u8 (g:=λl=>U i l*ent P l k) λl hl=>by rw[R7,←hV l hl k],←hU i hi k,Q0 hi λm _ hn=>by rw[if_neg hn];simp];simp
    · rw[w0A,←NI];congr 1;exact u8 λl _=>by rw[vJ]
 refine⟨λl=>sm S.length (λm=>V l m*ζ m),λF h hF i hi=>?_⟩;rw[show(λk=>ent S i k)=λk=>sm P.length (λl=>U i l*ent P l k)from funext (hU i hi),h.sum P.length (U i) (λl k=>ent P l k)];rw[u8 (g:=λl=>sm S.length (λm=>U i l*V l m*ζ m)) λl hl=>by rw[hF l hl,←R7];exact u8 λm _=>(vJ _ _ _).symm];rw[IP,u8 (g:=λm=>(if m=i then 1 else 0)*ζ m) λm hm=>by rw[NI,key i hi m hm],Q0 hi λm _ hn=>by rw[if_neg hn];simp];simp
def fun_(r n:Nat)(c b v:Vec):Int:=sm n (λk=>v (r+k)*b k)-sm r (λj=>c j*v j)
theorem IQ(r n:Nat)(c b:Vec):Lin (fun_ r n c b) where
 add u v:=by
  unfold fun_;rw[u8 (g:=λk=>u (r+k)*b k+v (r+k)*b k) λk _=>w19 _ _ _,GZ,u8 (m:=r) (g:=λj=>c j*u j+c j*v j) λk _=>w0e _ _ _,GZ];rfl'
 smul a u:=by
  unfold fun_;rw[u8 (g:=λk=>a*(u (r+k)*b k)) λk _=>vJ _ _ _,R7,u8 (m:=r) (g:=λj=>a*(c j*u j)) λk _=>by rw[←vJ,wM (c k),vJ],R7,w0b]
def EqP(r n:Nat)(P:aA)(b:Vec):Prop:=∃ c:Vec,∀ l,l<P.length->fun_ r n c b (λk=>ent P l k)=0
theorem EqP.same{r n:Nat}{P S:aA}{b:Vec}(s:SameSpan (vecs P) (vecs S)):EqP r n P b↔EqP r n S b :=
 ⟨λ⟨c,h⟩=>⟨c,λl hl=>(IQ r n c b).span h (s.iff.mpr (Q1 hl))⟩,λ⟨c,h⟩=>⟨c,λl hl=>(IQ r n c b).span h (s.iff.mp (Q1 hl))⟩⟩
end St

end
section
namespace St
open Lat
def wts(n:Nat)(W:aA)(b:Vec):Vec:=λi=>sm n (λk=>ent W i k*b k)
def pair(A W:aA):aA:=List.zipWith (·++·) A W
theorem Q3{A W:aA}(h:A.length=W.length):(pair A W).length=A.length:=by unfold pair;rw[vN];rfl'
theorem z1u{A W:aA}{i:Nat}(h:i<A.length)(h':i<W.length):(pair A W).getD i []=A.getD i []++W.getD i []:=by
 simp[pair,List.getD,uR,wa h,wa h']
theorem Cz{r n:Nat}{A W:aA}(ha:∀ x∈A,x.length=r){i:Nat}(h:i<A.length)(h':i<W.length)(k:Nat):ent (pair A W) i k=if k<r then ent A i k else ent W i (k-r):=by
 unfold ent;rw[z1u h h',Aj (ha _ (F5 h))]
theorem Md{r n:Nat}{A W:aA}(ha:∀ x∈A,x.length=r)(hw:∀ x∈W,x.length=n):∀ x∈pair A W,x.length=r+n:=λx hx=>by
 obtain⟨i,hi,rfl⟩:=wH hx;simp only[pair,w0C,ww];rw[ha _ (vn _),hw _ (vn _)]
theorem CA{r n:Nat}{A W:aA}{b:Vec}(ha:∀ x∈A,x.length=r)(hl:A.length=W.length)(c:Vec)(l:Nat)(h:l<A.length):fun_ r n c b (λk=>ent (pair A W) l k)=wts n W b l-sm r (λj=>c j*ent A l j):=by
 unfold fun_ wts;rw[u8 (g:=λk=>ent W l k*b k) λk _=>by show ent (pair A W) l (r+k)*b k=_;rw[Cz (n:=n) ha h (by rfl'),if_neg (by rfl'),show r+k-r=k by rfl']];rw[u8 (m:=r) (g:=λj=>c j*ent A l j) λj hj=>by show c j*ent (pair A W) l j=_;rw[Cz (n:=n) ha h (by rfl'),if_pos hj]]
theorem Yx{r n:Nat}{A W:aA}{b:Vec}(ha:∀ x∈A,x.length=r)(hl:A.length=W.length):EqP r n (pair A W) b↔Span (vecs (trn r A)) (wts n W b):=by
 rw[U5 ha];have e:=CA (r:=r) (n:=n) (b:=b) ha hl;constructor
 · rintro⟨c,h⟩;refine⟨c,λk=>?_⟩;by_cases hk:k<A.length
   · have:=h k (by rw[Q3 hl];exact hk);rw[e c k hk]at this;rfl'
   · rw[show wts n W b k=0 from A5 λj _=>by rw[C2 (by rfl')];simp];exact(A5 λj _=>by rw[C2 (by rfl')];simp).symm
 · rintro⟨c,h⟩;refine⟨c,λl hl'=>?_⟩;rw[Q3 hl]at hl';rw[e c l hl',h l];rfl'
theorem Rv{r:Nat}{w:Int}{B:aA}(h:Q2 r w B){u:Vec}(hu:∀ k,r<=k->u k=0):Span (vecs B) (λk=>w*u k):=by
 have key:∀ m,m≤r→Span (vecs B) (fun k=>if k<m then w*u k else 0):=fun m=>by
   induction m with
   | zero=>intro _;exact Span.congr (λk=>by simp) Span.zero
   | succ m ih =>
    intro hm;refine Span.congr (λk=>?_) ((ih (by rfl')).add ((h m (by rfl')).smul (u m)));by_cases e:k=m
    · subst e;rw[if_neg (by rfl'),if_pos (by rfl')];simp[pt,wM]
    · simp only[pt,if_neg e];by_cases q:k<m
      · rw[if_pos q,if_pos (by rfl')];simp
      · rw[if_neg q,if_neg (by rfl')];simp
 refine Span.congr (λk=>?_) (key r (wu _));by_cases q:k<r
 · rw[if_pos q]
 · rw[if_neg q,hu k (by rfl')];simp
theorem z00{r:Nat}{P:aA}{v:Vec}(s:Span (vecs P) v):Span (vecs (P.map (·.take r))) (λk=>if k<r then v k else 0):=by
 obtain⟨c,h⟩:=F6.mp s;refine F6.mpr ⟨c,λk=>?_⟩;have e:∀ i,ent (P.map (·.take r)) i k=if k<r then ent P i k else 0:=λi=>by
   by_cases hi:i<P.length
   · unfold ent;rw[show(P.map (·.take r)).getD i []=(P.getD i []).take r by simp[List.getD,wa hi],J4]
   · rw[C2 (by simpa using vG hi),C2 (by rfl')];simp
 rw[wv];by_cases hk:k<r
 · rw[if_pos hk,h k];exact u8 λi _=>by rw[e,if_pos hk]
 · rw[if_neg hk];exact(A5 λi _=>by rw[e,if_neg hk];simp).symm
theorem DI{r:Nat}{P S:aA}(s:SameSpan (vecs P) (vecs S)):SameSpan (vecs (P.map (·.take r))) (vecs (S.map (·.take r))):=by
 have one:∀{P S:aA},SameSpan (vecs P) (vecs S)->∀ x∈P.map (·.take r),Span (vecs (S.map (·.take r))) (λk=>at0 x k):=λ{P S} s x hx=>by
  obtain⟨y,hy,rfl⟩:=wg.mp hx;exact Span.congr (λk=>by rw[J4]) (z00 (r:=r) (s.iff.mp (r8 hy)))
 exact DE (one s) (one s.symm)
theorem DJ{r:Nat}{A W:aA}(ha:∀ x∈A,x.length=r)(hl:A.length=W.length):(pair A W).map (·.take r)=A:=by
 refine vS (by rw[wv,Q3 hl]) λi h1 h2=>?_;simp only[pair,List.getElem_map,w0C];rw[w1i (ha _ (vn _))]
theorem Pv{r:Nat}(S:aA):pair (S.map (·.take r)) (S.map (·.drop r))=S:=by
 induction S with
 | nil=>rfl
 | cons x S ih=>show(x.take r++x.drop r)::_=_;rw[List.take_append_drop];congr 1
theorem z1v{r N:Nat}{S:aA}(h:∀ x∈S,f9 x<r):tops r S=S.map (·.take r):=by
 unfold tops;congr 1;exact List.filter_eq_self.mpr λx hx=>decide_eq_true (h x hx)
structure Mst(r n:Nat)(w:Int)(G K A W:aA):Prop where
 sq:Sq r A
 wl:W.length=r
 wr:∀ x∈W,x.length=n
 whole:Q2 r w (trn r A)
 ker:∀ b:Vec,(∀ k,n<=k->b k=0)->(Span (vecs G) b↔(∀ j,j<K.length->wts n K b j=0)/\Span (vecs (trn r A)) (wts n W b))
 onto:∀ ζ κ:Vec,∃ b:Vec,(∀ k,n<=k->b k=0)/\(∀ j,j<K.length->wts n K b j=κ j)/\Span (vecs (trn r A)) (λi=>wts n W b i-if i<r then ζ i else 0)
variable {r n:Nat}{w:Int}{G K A W T S W':aA}
theorem Mst.rest(m:Mst r n w G K A W)(hl:W'.length=r)(hr:∀ x∈W',x.length=n)(q:Nat->Nat->Int)(e:∀ i k,i<r->ent W' i k=ent W i k-w*q i k):Mst r n w G K A W':=by
 have key:∀ b:Vec,Span (vecs (trn r A)) (λi=>wts n W b i-wts n W' b i):=λb=>by
   refine Span.congr (λi=>?_) (Rv m.whole (u:=λi=>if i<r then sm n (λk=>q i k*b k) else 0) λk hk=>by simp;rfl');by_cases hi:i<r
   · unfold wts;rw[if_pos hi,←Ha,←R7];exact u8 λk _=>by rw[e i k hi,w0A,vJ];rfl'
   · have z1:wts n W b i=0:=A5 λk _=>by rw[C2 (by rw[m.wl];rfl')];simp
     have z2:wts n W' b i=0:=A5 λk _=>by rw[C2 (by rfl')];simp
     rw[if_neg hi,z1,z2];simp
 refine⟨m.sq,hl,hr,m.whole,λb hb=>?_,λζ κ=>?_⟩
 · rw[m.ker b hb];refine and_congr_right λ_=>⟨λh=>Span.congr (λi=>by rfl') (h.sub (key b)),λh=>Span.congr (λi=>by rfl') (h.add (key b))⟩
 · obtain⟨b,h1,h2,h3⟩:=m.onto ζ κ;exact⟨b,h1,h2,Span.congr (λi=>by rfl') (h3.sub (key b))⟩
theorem Mst.step(m:Mst r n w G K A W)(t:Sq r T)(sT:SameSpan (vecs T) (vecs (trn r A)))(As:Asc (r+n) 0 S)(Fs:Form 0 (z9 S))(sl:S.length=r)(sh:∀ x∈S,f9 x<r)(ss:SameSpan (vecs S) (vecs (pair (trn r T) W))):
   Mst r n w G K (S.map (·.take r)) (S.map (·.drop r)):=by
 have et:tops r S=S.map (·.take r):=z1v (N:=0) sh;obtain⟨a1,a2⟩:=JK As (show r<=r+n by rfl');rw[et]at a1 a2;have sq:Sq r (S.map (·.take r)):=⟨a1,by rw[←et];exact LX As Fs (by rfl'),by rw[wv,sl]⟩;have cl:(trn r T).length=r:=D4 _ _;have cr:∀ x∈trn r T,x.length=r:=λx hx=>by rw[V6 hx,t.len]
 have tt:trn r (trn r T)=T:=z5y t.rows t.len;have dr:∀ x∈S.map (·.drop r),x.length=n:=λx hx=>by
   obtain⟨y,hy,rfl⟩:=wg.mp hx;rw[wY,(As.mem hy).1];rfl'
 have hs:=DI (r:=r) ss;rw[DJ cr (by rw[cl,m.wl])]at hs;have wT:Q2 r w T:=λi hi=>sT.iff.mpr (m.whole i hi);have wC:=t.comm wT;have wA:Q2 r w (S.map (·.take r)):=λi hi=>hs.iff.mpr (wC i hi);have eq:∀ y,Span (vecs (trn r A)) y↔Span (vecs (trn r (trn r T))) y:=λy=>by rw[tt];exact sT.symm.iff
 have pc:=Pv (r:=r) S;refine⟨sq,by rw[wv,sl],dr,sq.comm wA,λb hb=>?_,λζ κ=>?_⟩
 · rw[m.ker b hb];refine and_congr_right λ_=>?_;rw[eq,←Yx (n:=n) cr (by rw[cl,m.wl]),←Yx (n:=n) sq.rows (by simp),pc];exact EqP.same ss.symm
 · obtain⟨z,hz⟩:=lift ss.symm As ζ;obtain⟨b,h1,h2,h3⟩:=m.onto z κ;refine⟨b,h1,h2,?_⟩;obtain⟨c,hc⟩:=(U5 cr).mp ((eq _).mp h3);have pl:(pair (trn r T) W).length=r:=by rw[Q3 (by rw[cl,m.wl]),cl]
   have:=hz (fun_ r n c b) (IQ r n c b) λl hl=>by
     rw[pl]at hl;have e:=hc l;rw[if_pos hl]at e;rw[CA cr (by rw[cl,m.wl]) c l (by rfl')];rfl'
   refine(U5 sq.rows).mpr ⟨c,λi=>?_⟩;by_cases hi:i<r
   · have e:=this i (by rfl');rw[←pc]at e;rw[CA sq.rows (by simp) c i (by rw[sq.len];exact hi)]at e;rw[if_pos hi];rfl'
   · rw[if_neg hi,show wts n (S.map (·.drop r)) b i=0 from A5 λk _=>by rw[C2 (by simp[sl];rfl')];simp];rw[A5 λj _=>by rw[C2 (by rw[sq.len];rfl')];simp];rfl
end St

end
section
namespace St
open Lat
def pr(A:aA):Nat->Int
 | 0=>1
 | k+1=>pr A k*ent A k k
theorem z1w{T:List Vec}{R:Nat->Vec}(c:Nat->Int):∀ m,(∀ j,j<m->Span T (R j))->Span T (λk=>sm m (λj=>c j*R j k)):=by
 intro m
 induction m generalizing c R with
 | zero=>intro _;exact Span.zero
 | succ m ih=>intro h;exact((h 0 (by rfl')).smul (c 0)).add (ih (R:=λj=>R (j+1)) (λj=>c (j+1)) λj hj=>h (j+1) (by rfl'))
theorem Pw{D:aA}(hl:∀ i j,i<j->ent D i j=0):∀ i,i<=D.length->∀ j,j<i->Span (vecs D) (pt j (pr D i)):=by
 intro i
 induction i with
 | zero=>intro _ j hj;rfl'
 | succ i ih =>
  intro hi j hj;have ih:=ih (by rfl');by_cases e:j<i
  · refine Span.congr (λk=>?_) ((ih j e).smul (ent D i i));simp only[pt,pr];split
    · exact wM _ _
    · simp
  · have e:j=i:=by rfl'
    subst e;refine Span.congr (λk=>?_) (((Q1 (A:=D) (i:=j) (by rfl')).smul (pr D j)).sub (z1w (R:=λl=>pt l (pr D j)) (λl=>ent D j l) j ih));by_cases h1:k<j
    · rw[Q0 h1 λl _ hn=>by simp only[pt];rw[if_neg (by rfl')];simp];simp only[pt,if_true];rw[if_neg (by rfl'),wM];rfl'
    · rw[A5 λl hl=>by simp only[pt];rw[if_neg (by rfl')];simp];by_cases h2:k=j
      · subst h2;simp[pt,pr]
      · rw[hl j k (by rfl')];simp[pt,h2]
theorem Px{A B:aA}:∀{k:Nat},(∀ i,i<k->ent A i i=ent B i i)->pr A k=pr B k
 | 0,_=>rfl
 | k+1,h=>by rw[pr,pr,Px λi hi=>h i (by rfl'),h k (by rfl')]
theorem Rw{A:aA}:∀{k:Nat},(∀ i,i<k->0<ent A i i)->0<pr A k
 | 0,_=>by show(0:Int)<1;decide
 | k+1,h=>by rw[pr];exact w1d (Rw λi hi=>h i (by rfl')) (h k (by rfl'))
variable {r n:Nat}{w:Int}{G K A W T S:aA}
theorem Sq.prod(q:Sq r A):Q2 r (pr A r) (trn r A):=λi hi=>by
 have:=Pw (D:=trn r A) (λi j h=>by rw[J0 q.rows];exact q.low h) r (by rw[D4];exact wu _) i hi;rw[Px (B:=A) λi _=>by rw[J0 q.rows]]at this;exact this
theorem Sq.below(q:Sq r A)(h:Q2 r w (trn r A)):Below r r w (trn r A) where
 len:=D4 _ _
 wid:=wu _
 rows x hx:=by rw[V6 hx,q.len]
 pos i hi:=by rw[J0 q.rows];have:=q.pos hi;rfl'
 low i j h1 h2:=by rw[J0 q.rows];exact q.low h1
 whole i hi:=⟨_,h i hi,by simp[pt],λk _ hn=>by simp[pt,hn]⟩
theorem Sq.below_pair(t:Sq r T)(h:Q2 r w (trn r T))(wl:W.length=r)(wr:∀ x∈W,x.length=n):Below r (r+n) w (pair (trn r T) W):=by
 have B:=t.below h;have pl:(pair (trn r T) W).length=r:=by rw[Q3 (by rw[B.len,wl]),B.len]
 have e:∀ i k,i<r->k<r->ent (pair (trn r T) W) i k=ent (trn r T) i k:=λi k hi hk=>by
   rw[Cz (n:=n) B.rows (by rw[B.len];exact hi) (by rfl'),if_pos hk]
 refine⟨pl,by rfl',Md B.rows wr,λi hi=>by rw[e i i hi hi];exact B.pos i hi,λi j h1 h2=>by rw[e i j (by rfl') h2];exact B.low i j h1 h2,λi hi=>?_⟩;obtain⟨c,hc⟩:=F6.mp (h i hi);rw[D4]at hc;refine⟨λk=>sm r (λl=>c l*ent (pair (trn r T) W) l k),F6.mpr ⟨c,λk=>by rw[pl]⟩,?_,λk hk hn=>?_⟩
 · show sm r (λl=>c l*ent (pair (trn r T) W) l i)=w;rw[u8 (g:=λl=>c l*ent (trn r T) l i) λl hl=>by rw[e l i hl hi],←hc i];simp[pt]
 · show sm r (λl=>c l*ent (pair (trn r T) W) l k)=0;rw[u8 (g:=λl=>c l*ent (trn r T) l k) λl hl=>by rw[e l k hl hk],←hc k];simp[pt,hn]
theorem Rx:∀{R:aA} {cs:aG} (k:Nat),cs.length=R.length->mix R cs k=sm R.length (λi=>at0 cs i*ent R i k)
 | [],[],_,_=>rfl
 | x::R,c::cs,k,h=>by
  rw[mix,wn,sm];show c*at0 x k+mix R cs k=_;rw[Rx k (by simpa using h)];rfl
theorem Below.ind{N:Nat}{P:aA}(B:Below r N w P):Ind P:=λcs hl hz c hc=>by
 have z:=FD (m:=r) (a:=0) (c:=λi=>at0 cs i) (D:=λl j=>ent P l j) B.pos B.low λj _ _=>by
  have:=hz j;rw[Rx j hl,B.len]at this;exact this
 obtain⟨i,hi,rfl⟩:=wH hc;have e:=z (r-i) i (by rw[hl,B.len]at hi;rfl') (by rfl') (by rw[hl,B.len]at hi;exact hi);simpa[at0,List.getD,wa hi]using e
theorem Below.full{N:Nat}{P:aA}(B:Below r N w P)(As:Asc N 0 S)(ss:SameSpan (vecs S) (vecs P)):∀ x∈S,f9 x<r/\hd x∣w:=λx hx =>
 B.heads (wu r) As (by rw[show P.take r=P by rw[←B.len];exact w0Y];exact ss) hx
def units(n:Nat):aA:=(List.range n).map (G3 n)
theorem G5(n:Nat):(units n).length=n:=by simp[units]
theorem z01(n:Nat):∀ x∈units n,x.length=n:=λx hx=>by obtain⟨i,_,rfl⟩:=wg.mp hx;exact GX n i
theorem Hb{i k:Nat}(hi:i<n):ent (units n) i k=if k=i/\k<n then 1 else 0:=by
 unfold ent units;rw[show((List.range n).map (G3 n)).getD i []=G3 n i by simp[List.getD,hi],Y3]
theorem z02{f:Nat}(As:Asc r f T)(h:∀ i,i<r->∃ x∈T,f9 x=i):r<=T.length:=by
 have:=AC (l:=List.range r) (m:=T.map f9) id List.nodup_range (λx _ y _ e=>e) λi hi=>by
  obtain⟨x,hx,e⟩:=h i (wQ.mp hi);exact wg.mpr ⟨x,hx,e⟩
 simpa using this
theorem start(Ag:Asc n 0 G)(gl:G.length=r)(As:Asc (r+n) 0 S)(Fs:Form 0 (z9 S))(sl:S.length=n)(ss:SameSpan (vecs S) (vecs (pair (trn n G) (units n)))):
   ∃ W,S.filter (λx=>decide (f9 x<r))=S.take r/\W=(S.take r).map (·.drop r)/\(bots r S).length=n-r/\Mst r n (pr (tops r S) r) G (bots r S) (tops r S) W/\tops r S=(S.take r).map (·.take r)/\r<=n:=by
 have gr:∀ x∈G,x.length=n:=λx hx=>(Ag.mem hx).1;have rn:r<=n:=by have:=T8 Ag (wK _);rfl'
 have cr:∀ x∈trn n G,x.length=r:=λx hx=>by rw[V6 hx,gl]
 have cl:(trn n G).length=n:=D4 _ _;obtain⟨a1,a2⟩:=JK As (show r<=r+n by rfl');have hs:=DI (r:=r) ss;rw[DJ cr (by rw[cl,G5])]at hs;have cover:∀ i,i<r->∃ x∈tops r S,f9 x=i:=λi hi=>by
   let D:aA:=(List.range r).map λi=>(trn n G).getD (f9 (G.getD i [])) [];have dl:D.length=r:=by simp[D]
   have de:∀ i j,i<r->ent D i j=ent G j (f9 (G.getD i [])):=λi j hi=>by
     have:D.getD i []=(trn n G).getD (f9 (G.getD i [])) []:=by simp[D,List.getD,hi]
     rw[←J0 gr];unfold ent;rw[this]
   have low:∀ i j,i<j->ent D i j=0:=λi j h=>by
     by_cases hi:i<r
     · rw[de i j hi];by_cases hj:j<r
       · exact u6 _ _ (Ru Ag h (by rw[gl];exact hj))
       · exact C2 (by rw[gl];rfl') _
     · exact C2 (by rw[dl];rfl') _
   have sp:=Pw low r (by rw[dl];exact wu _) i hi;have pos:0<pr D r:=Rw λi hi=>by
     rw[de i i hi];exact(Fv Ag (k:=i) (by rw[gl];exact hi)).2.2.2
   have sp2:Span (vecs (trn n G)) (pt i (pr D r)):=Span.trans (λv hv=>by
     obtain⟨x,hx,rfl⟩:=wg.mp hv;obtain⟨j,hj,rfl⟩:=wg.mp hx;have hj:=wQ.mp hj;exact r8 (F5 (by rw[cl];exact(Fv Ag (k:=j) (by rw[gl];exact hj)).2.2.1))) sp
   have sp3:=hs.iff.mpr sp2;have sp4:Span (vecs (tops r S)) (pt i (pr D r)):=by
     refine Span.trans (λv hv=>?_) sp3;obtain⟨x,hx,rfl⟩:=wg.mp hv;obtain⟨y,hy,rfl⟩:=wg.mp hx;exact Span.congr (λk=>by simp only[vec];rw[J4]) (LY (n:=r) As (r8 hy))
   exact Asc.first a1 sp4 (λk hk=>by simp[pt];rfl') (by simp[pt];rfl')
 have tl:(tops r S).length=r:=by
   have h1:=z02 a1 cover;have h2:=T8 a1 (wK _);rfl'
 have fl:(S.filter λx=>decide (f9 x<r)).length=r:=by rw[←a2];exact tl
 have sp:=EC As (n:=r);have tk:S.filter (λx=>decide (f9 x<r))=S.take r:=by
   have:=congrArg (List.take r) sp;rw[w1i fl]at this;exact this.symm
 have dk:S.filter (λx=>!decide (f9 x<r))=S.drop r:=by
   have:=congrArg (List.drop r) sp;rw[List.drop_left' fl]at this;exact this.symm
 have te:tops r S=(S.take r).map (·.take r):=by unfold tops;rw[tk]
 have be:bots r S=(S.drop r).map (·.drop r):=by unfold bots;rw[dk]
 have bl:(bots r S).length=n-r:=by rw[be,wv,wY,sl]
 have sq:Sq r (tops r S):=⟨a1,LX As Fs (by rfl'),tl⟩;have hS:∀ i,i<r->∀ k,ent S i k=ent (pair (tops r S) ((S.take r).map (·.drop r))) i k:=λi hi k=>by
   rw[te,Pv,JM hi]
 have wl:((S.take r).map (·.drop r)).length=r:=by rw[wv,vx,sl];rfl'
 have zl:∀ j,j<n-r->∀ k,k<r->ent S (r+j) k=0:=λj hj k hk=>by
   have m:S.getD (r+j) []∈S.filter (λx=>!decide (f9 x<r)):=by
     rw[dk,show S.getD (r+j) []=(S.drop r).getD j [] by simp[List.getD,uG]];exact F5 (by rw[wY,sl];exact hj)
   have:=(wL.mp m).2;rw[Bool.not_eq_true',decide_eq_false_iff_not]at this;exact u6 _ _ (by rfl')
 have bk:∀ j,j<n-r->∀ k,ent S (r+j) (r+k)=ent (bots r S) j k:=λj hj k=>by
   rw[be];unfold ent;rw[show((S.drop r).map (·.drop r)).getD j []=(S.getD (r+j) []).drop r by simp[List.getD,uG,wa (show r+j<S.length by rfl')],E7]
 have fb:∀(c b:Vec) (j:Nat),j<n-r->fun_ r n c b (λk=>ent S (r+j) k)=wts n (bots r S) b j:=λc b j hj=>by
   unfold fun_ wts;rw[u8 (g:=λk=>ent (bots r S) j k*b k) λk _=>by show ent S (r+j) (r+k)*b k=_;rw[bk j hj],A5 (m:=r) λk hk=>by show c k*ent S (r+j) k=0;rw[zl j hj k hk];simp];rfl'
 have fa:∀(c b:Vec) (i:Nat),i<r->fun_ r n c b (λk=>ent S i k)=wts n ((S.take r).map (·.drop r)) b i-sm r (λj=>c j*ent (tops r S) i j):=λc b i hi=>by
   rw[show(λk=>ent S i k)=λk=>ent (pair (tops r S) ((S.take r).map (·.drop r))) i k from funext (hS i hi)];exact CA sq.rows (by rw[tl,wl]) c i (by rw[tl];exact hi)
 have fp:∀(c b:Vec) (l:Nat),l<n->fun_ r n c b (λk=>ent (pair (trn n G) (units n)) l k)=b l-sm r (λj=>c j*ent G j l):=λc b l hl=>by
   rw[CA cr (by rw[cl,G5]) c l (by rw[cl];exact hl)];congr 1
   · unfold wts;rw[Q0 hl λk _ hn=>by rw[Hb hl,if_neg (by rfl')];simp,Hb hl,if_pos ⟨rfl,hl⟩];simp
   · exact u8 λj _=>by rw[J0 gr]
 have pl:(pair (trn n G) (units n)).length=n:=by rw[Q3 (by rw[cl,G5]),cl]
 refine⟨_,tk,rfl,bl,⟨sq,wl,λx hx=>?_,sq.prod,λb hb=>?_,λζ κ=>?_⟩,te,rn⟩
 · obtain⟨y,hy,rfl⟩:=wg.mp hx;rw[wY,(As.mem (vY hy)).1];rfl'
 · have e1:Span (vecs G) b↔EqP r n (pair (trn n G) (units n)) b:=by
     rw[F6,gl];constructor
     · rintro⟨c,h⟩;exact⟨c,λl hl=>by rw[fp c b l (by rfl'),h l];rfl'⟩
     · rintro⟨c,h⟩;refine⟨c,λk=>?_⟩;by_cases hk:k<n
       · have:=h k (by rfl');rw[fp c b k hk]at this;rfl'
       · rw[hb k (by rfl')];exact(A5 λj _=>by rw[NJ gr (by rfl')];simp).symm
   rw[e1,EqP.same ss.symm,bl,U5 sq.rows];constructor
   · rintro⟨c,h⟩;refine⟨λj hj=>by rw[←fb c b j hj];exact h _ (by rfl'),c,λk=>?_⟩;by_cases hk:k<r
     · have:=h k (by rfl');rw[fa c b k hk]at this;rfl'
     · rw[show wts n ((S.take r).map (·.drop r)) b k=0 from A5 λj _=>by rw[C2 (by rw[wl];rfl')];simp];exact(A5 λj _=>by rw[C2 (by rw[tl];rfl')];simp).symm
   · rintro⟨h1,c,h2⟩;refine⟨c,λl hl=>?_⟩;by_cases hk:l<r
     · rw[fa c b l hk,h2 l];rfl'
     · have:=h1 (l-r) (by rfl');rw[←fb c b (l-r) (by rfl'),show r+(l-r)=l by rfl']at this;exact this
 · obtain⟨z,hz⟩:=lift ss.symm As (λi=>if i<r then ζ i else κ (i-r));have:=hz (fun_ r n (λ_=>0) (λk=>if k<n then z k else 0)) (IQ _ _ _ _) λl hl=>by
     rw[fp _ _ l (by rfl'),if_pos (by rfl'),A5 λj _=>by simp];rfl'
   refine⟨λk=>if k<n then z k else 0,λk hk=>if_neg (by rfl'),λj hj=>?_,?_⟩
   · have e:=this (r+j) (by rfl');rw[fb _ _ j (by rfl'),if_neg (by rfl'),show r+j-r=j by rfl']at e;exact e
   · refine Span.congr (λi=>?_) Span.zero;by_cases hi:i<r
     · have e:=this i (by rfl');rw[fa _ _ i hi,if_pos hi,A5 λj _=>by simp]at e;rw[if_pos hi];rfl'
     · rw[if_neg hi,show wts n ((S.take r).map (·.drop r)) _ i=0 from A5 λj _=>by rw[C2 (by rw[wl];rfl')];simp];rfl
end St

end
section
namespace St
open Lat
abbrev Meas:=List (Row×Int)
def mw(M:Meas)(i:Nat):Row:=(M.getD i ([],0)).1
def mp(M:Meas)(i:Nat):Int:=(M.getD i ([],0)).2
def dt(n:Nat)(w:Row)(b:Vec):Int:=sm n (λk=>at0 w k*b k)
structure Ms(n:Nat)(G:aA)(M:Meas):Prop where
 rows:∀ x∈M,x.1.length=n
 ker:∀ b:Vec,(∀ k,n<=k->b k=0)->(Span (vecs G) b↔∀ i,i<M.length->mp M i∣dt n (mw M i) b)
 onto:∀ ζ:Vec,∃ b:Vec,(∀ k,n<=k->b k=0)/\∀ i,i<M.length->mp M i∣dt n (mw M i) b-ζ i
variable {n:Nat}{G:aA}{M M':Meas}
theorem Ms.rest(m:Ms n G M)(hr:∀ x∈M',x.1.length=n)(hl:M'.length=M.length)(hp:∀ i,i<M.length->mp M' i=mp M i)(hd:∀ i,i<M.length->∀ b:Vec,mp M i∣dt n (mw M' i) b-dt n (mw M i) b):Ms n G M':=by
 refine⟨hr,λb hb=>?_,λζ=>?_⟩
 · rw[m.ker b hb,hl];refine forall_congr' λi=>forall_congr' λhi=>?_;rw[hp i hi];have:=hd i hi b;constructor
   · intro h;have:=w0g this h;rwa [Int.sub_add_cancel]at this
   · intro h;have:=Int.dvd_sub h this;rwa [show dt n (mw M' i) b-(dt n (mw M' i) b-dt n (mw M i) b)=dt n (mw M i) b by rfl']at this
 · obtain⟨b,h1,h2⟩:=m.onto ζ;refine⟨b,h1,λi hi=>?_⟩;rw[hl]at hi;rw[hp i hi];have:=w0g (hd i hi b) (h2 i hi)
   rwa [show dt n (mw M' i) b-dt n (mw M i) b+(dt n (mw M i) b-ζ i)=dt n (mw M' i) b-ζ i by rfl']at this
theorem Ms.link(m:Ms n G M){p q:Nat}{g f1 f2 a b:Int}(hp:p<M.length)(hq:q<M.length)(hn:p≠q)(ea:mp M p=g*a)(eb:mp M q=g*b)(hg:g≠0)(e1:f1*a+f2*b=1)
   (hr:∀ x∈M',x.1.length=n) (hl:M'.length=M.length) (ho:∀ i,i≠p->i≠q->mp M' i=mp M i/\mw M' i=mw M i) (hp1:mp M' p=g) (hq1:mp M' q=a*(g*b))
   (hp2:∀ v:Vec,g∣dt n (mw M' p) v-(dt n (mw M p) v+dt n (mw M q) v)) (hq2:∀ v:Vec,a*(g*b)∣dt n (mw M' q) v-(-(f2*b)*dt n (mw M p) v+f1*a*dt n (mw M q) v)):Ms n G M':=by
 have key:∀ X Y U V:Int,g∣U-(X+Y)->a*(g*b)∣V-(-(f2*b)*X+f1*a*Y)->((g*a∣X/\g*b∣Y)↔(g∣U/\a*(g*b)∣V)):=by
   rintro X Y U V ⟨u,hu⟩ ⟨v,hv⟩;constructor
   · rintro⟨⟨x,rfl⟩,⟨y,rfl⟩⟩;exact⟨⟨u+a*x+b*y,by grind⟩,⟨v-f2*x+f1*y,by grind⟩⟩
   · rintro⟨⟨x,rfl⟩,⟨y,rfl⟩⟩;refine⟨⟨f1*(x-u)-b*(y-v),?_⟩,⟨f2*(x-u)+a*(y-v),?_⟩⟩
     · grind
     · grind
 refine⟨hr,λb' hb=>?_,λζ=>?_⟩
 · rw[m.ker b' hb,hl];have k:=key (dt n (mw M p) b') (dt n (mw M q) b') (dt n (mw M' p) b') (dt n (mw M' q) b') (hp2 b') (hq2 b');constructor
   · intro h i hi;have:=k.mp ⟨by rw[←ea];exact h p hp,by rw[←eb];exact h q hq⟩;by_cases i1:i=p
     · subst i1;rw[hp1];exact this.1
     · by_cases i2:i=q
       · subst i2;rw[hq1];exact this.2
       · rw[(ho i i1 i2).1,(ho i i1 i2).2];exact h i hi
   · intro h i hi;have:=k.mpr ⟨by rw[←hp1];exact h p hp,by rw[←hq1];exact h q hq⟩;by_cases i1:i=p
     · subst i1;rw[ea];exact this.1
     · by_cases i2:i=q
       · subst i2;rw[eb];exact this.2
       · have:=h i hi;rw[(ho i i1 i2).1,(ho i i1 i2).2]at this;exact this
 · obtain⟨v,h1,h2⟩:=m.onto λi=>if i=p then f1*a*ζ p-ζ q else if i=q then f2*b*ζ p+ζ q else ζ i
   refine⟨v,h1,λi hi=>?_⟩;have x1:=h2 p hp;rw[if_pos rfl,ea]at x1;have x2:=h2 q hq;rw[if_neg (by rfl'),if_pos rfl,eb]at x2;have k:=(key (dt n (mw M p) v-(f1*a*ζ p-ζ q)) (dt n (mw M q) v-(f2*b*ζ p+ζ q)) (dt n (mw M' p) v-ζ p) (dt n (mw M' q) v-ζ q)
     (by have:=hp2 v;rwa [show dt n (mw M' p) v-ζ p-(dt n (mw M p) v-(f1*a*ζ p-ζ q)+(dt n (mw M q) v-(f2*b*ζ p+ζ q)))=dt n (mw M' p) v-(dt n (mw M p) v+dt n (mw M q) v) by grind])
     (by have:=hq2 v;rwa [show dt n (mw M' q) v-ζ q-(-(f2*b)*(dt n (mw M p) v-(f1*a*ζ p-ζ q))+f1*a*(dt n (mw M q) v-(f2*b*ζ p+ζ q)))=dt n (mw M' q) v-(-(f2*b)*dt n (mw M p) v+f1*a*dt n (mw M q) v) by grind])).mp ⟨x1,x2⟩
   by_cases i1:i=p
   · subst i1;rw[hp1];exact k.1
   · by_cases i2:i=q
     · subst i2;rw[hq1];exact k.2
     · have:=h2 i (by rfl');rw[if_neg i1,if_neg i2]at this;rw[(ho i i1 i2).1,(ho i i1 i2).2];exact this
theorem z5z{g a b f1 f2 w:Int}(hg:g≠0)(e1:f1*a+f2*b=1)(h1:g*a∣w)(h2:g*b∣w):a*(g*b)∣w:=by
 obtain⟨s,hs⟩:=h1;obtain⟨t,ht⟩:=h2;exact⟨f1*t+f2*s,by grind⟩
theorem z5A{p:Int}{x y:Row}{q:Nat->Int}(e:∀ k,at0 x k=at0 y k-p*q k)(b:Vec):p∣dt n x b-dt n y b:=by
 refine⟨- sm n (λk=>q k*b k),?_⟩;unfold dt;rw[←Ha,u8 (g:=λk=>(-p)*(q k*b k)) λk _=>by rw[e k];grind,R7];grind
theorem Mst.meas{r:Nat}{w:Int}{K A W:aA}(m:Mst r n w G K A W)(hc:Clean r A)(kr:∀ x∈K,x.length=n)(M:Meas)(hl:M.length=r+K.length)(h1:∀ i,i<r->mw M i=W.getD i []/\mp M i=ent A i i)(h2:∀ j,j<K.length->mw M (r+j)=K.getD j []/\mp M (r+j)=0):Ms n G M:=by
 have sp:∀ y:Vec,(∀ k,r<=k->y k=0)->(Span (vecs (trn r A)) y↔∀ i,i<r->ent A i i∣y i):=λy hy=>by
   rw[U5 m.sq.rows];constructor
   · rintro⟨c,h⟩ i hi;rw[h i,Q0 hi λk _ hn=>by rw[hc i hi k hn];simp];exact⟨c i,wM _ _⟩
   · intro h;refine⟨λi=>y i / ent A i i,λk=>?_⟩;by_cases hk:k<r
     · rw[Q0 hk λj _ hn=>by rw[hc k hk j hn];simp];exact(Int.ediv_mul_cancel (h k hk)).symm
     · rw[hy k (by rfl')];exact(A5 λj _=>by rw[C2 (by rw[m.sq.len];rfl')];simp).symm
 have wz:∀ b k,r<=k->wts n W b k=0:=λb k hk=>A5 λj _=>by rw[C2 (by rw[m.wl];exact hk)];simp
 have d1:∀ b i,i<r->dt n (mw M i) b=wts n W b i:=λb i hi=>by rw[(h1 i hi).1];rfl
 have d2:∀ b j,j<K.length->dt n (mw M (r+j)) b=wts n K b j:=λb j hj=>by rw[(h2 j hj).1];rfl
 refine⟨λx hx=>?_,λb hb=>?_,λζ=>?_⟩
 · obtain⟨i,hi,rfl⟩:=wH hx;have e:M[i].1=mw M i:=by simp[mw,List.getD,wa hi]
   rw[e];by_cases q:i<r
   · rw[(h1 i q).1];exact m.wr _ (F5 (by rw[m.wl];exact q))
   · rw[show i=r+(i-r) by rfl',(h2 (i-r) (by rfl')).1];exact kr _ (F5 (by rfl'))
 · rw[m.ker b hb,sp _ (wz b),hl];constructor
   · rintro⟨a1,a2⟩ i hi;by_cases q:i<r
     · rw[(h1 i q).2,d1 b i q];exact a2 i q
     · rw[show i=r+(i-r) by rfl',(h2 (i-r) (by rfl')).2,d2 b _ (by rfl'),a1 _ (by rfl')];exact w0S 0
   · intro h;refine⟨λj hj=>?_,λi hi=>?_⟩
     · have:=h (r+j) (by rfl');rw[(h2 j hj).2,d2 b j hj]at this;exact w0T.mp this
     · have:=h i (by rfl');rw[(h1 i hi).2,d1 b i hi]at this;exact this
 · obtain⟨b,b1,b2,b3⟩:=m.onto ζ (λj=>ζ (r+j));rw[sp _ λk hk=>by rw[wz b k hk,if_neg (by rfl')];rfl]at b3;refine⟨b,b1,λi hi=>?_⟩;by_cases q:i<r
   · have:=b3 i q;rw[if_pos q]at this;rw[(h1 i q).2,d1 b i q];exact this
   · have:=b2 (i-r) (by rfl');rw[show i=r+(i-r) by rfl',(h2 (i-r) (by rfl')).2,d2 b _ (by rfl'),this];simp
end St

end
section
namespace St
open Lat
theorem DK:∀{n:Nat} {f:Nat->Nat} {t:aG},J3 ((List.range n).map f) t↔t.length=n/\∀ i,i<n->0<=at0 t i/\at0 t i<f i:=by
 have key:∀(ns:List Nat) (t:List Int),J3 ns t↔t.length=ns.length∧∀ i,i<ns.length→0≤at0 t i∧at0 t i<(ns.getD i 0:Int):=by
  intro ns
  induction ns with
  | nil =>
   intro t;cases t with
   | nil=>simp[J3]
   | cons x t=>simp[J3]
  | cons a ns ih =>
   intro t;cases t with
   | nil=>simp[J3]
   | cons x t =>
    rw[J3,ih];constructor
    · rintro⟨h0,h1,h2,h3⟩;refine⟨by simp[h2],λi hi=>?_⟩;cases i with
      | zero=>exact⟨h0,h1⟩
      | succ i=>exact h3 i (by simpa using hi)
    · rintro⟨h2,h3⟩;have a:=h3 0 (by simp);exact⟨a.1,a.2,by simpa using h2,λi hi=>h3 (i+1) (by simpa using hi)⟩
 intro n f t;rw[key];simp only[wv,vM];refine and_congr_right λ_=>forall_congr' λi=>forall_congr' λhi=>?_;rw[show((List.range n).map f).getD i 0=f i by simp[List.getD,hi]]
def mkr(n:Nat)(f:Nat->Int):Row:=(List.range n).map f
theorem Yy(n:Nat)(f:Nat->Int):(mkr n f).length=n:=by simp[mkr]
theorem Yz{n:Nat}{f:Nat->Int}{k:Nat}(h:k<n):at0 (mkr n f) k=f k:=by simp[at0,mkr,List.getD,h]
theorem Py{n:Nat}{f:Nat->Int}(hf:∀ k,n<=k->f k=0)(k:Nat):at0 (mkr n f) k=f k:=by
 by_cases h:k<n
 · exact Yz h
 · rw[hf k (by rfl')];exact B4 (by rw[Yy];rfl')
variable {n:Nat}{G:aA}{M:Meas}
end St

end
section
namespace St
open Lat
theorem Pz(l:List Nat)(x:Nat):prod (l++[x])=prod l*x:=by
 induction l with
 | nil=>simp[prod]
 | cons a l ih=>rw[uS,prod,prod,ih,vK]
theorem YA{A:aA}:∀{r:Nat},(∀ i,i<r->0<ent A i i)->pr A r=(prod ((List.range r).map λi=>(ent A i i).toNat):Int)
 | 0,_=>rfl
 | r+1,h=>by
  have:=h r (by rfl');rw[pr,YA λi hi=>h i (by rfl'),uE,vm,wm,w0M,Pz,Int.natCast_mul];congr 1;rfl'
theorem PB{f:Nat->Nat}{e:Nat}:∀{r:Nat},(∀ i,i<r->f i<=2 ^ e)->prod ((List.range r).map f)<=2 ^ (e*r)
 | 0,_=>by simp[prod]
 | r+1,h=>by
  rw[uE,vm,wm,w0M,Pz,Nat.mul_succ,vp];exact vL (PB λi hi=>h i (by rfl')) (h r (by rfl'))
variable {r:Nat}{A D:aA}
theorem z03(dl:D.length=r)(low:∀ i j,i<j->ent D i j=0)(pos:∀ i,i<r->0<ent D i i):∀ k,k<=r->∀ t:Vec,(∀ j,k<=j->t j=0) ->
  ∃ x:Vec,(∀ j,j<k->0<=x j/\x j<ent D j j)/\(∀ j,k<=j->x j=0)/\Span (vecs D) (λj=>t j-x j):=by
 intro k
 induction k with
 | zero=>intro _ t ht;exact⟨λ_=>0,λj hj=>by rfl',λ_ _=>rfl,Span.congr (λj=>by rw[ht j (by rfl')];rfl) Span.zero⟩
 | succ k ih =>
  intro hk t ht;have p:=pos k (by rfl');obtain⟨f0,f1⟩:=GS (t k) p;have sd:Span (vecs D) (λj=>ent D k j):=Q1 (by rfl');obtain⟨x,x1,x2,x3⟩:=ih (by rfl') (λj=>if j<k then t j-(t k).fdiv (ent D k k)*ent D k j else 0) λj hj=>if_neg (by rfl');refine⟨λj=>if j=k then t k-(t k).fdiv (ent D k k)*ent D k k else x j,λj hj=>?_,λj hj=>?_,?_⟩
  · dsimp only;by_cases e:j=k
    · subst e;rw[if_pos rfl];exact⟨f0,f1⟩
    · rw[if_neg e];exact x1 j (by rfl')
  · dsimp only;rw[if_neg (by rfl')];exact x2 j (by rfl')
  · refine Span.congr (λj=>?_) (x3.add (sd.smul ((t k).fdiv (ent D k k))));dsimp only;by_cases e:j=k
    · subst e;rw[if_neg (by rfl'),if_pos rfl,x2 j (by rfl')];rfl'
    · rw[if_neg e];by_cases h:j<k
      · rw[if_pos h];rfl'
      · rw[if_neg h,low k j (by rfl'),ht j (by rfl')];simp
theorem Sq.prod_bound(q:Sq r A)(dl:D.length=r)(low:∀ i j,i<j->ent D i j=0)(pos:∀ i,i<r->0<ent D i i)(sp:∀ x∈D,Span (vecs A) (λk=>at0 x k)):
   Lat.prod ((List.range r).map λi=>(ent A i i).toNat)<=Lat.prod ((List.range r).map λi=>(ent D i i).toNat):=by
 have sub:∀ v,Span (vecs D) v->Span (vecs A) v:=λv hv=>Span.trans (λu hu=>by obtain⟨x,hx,rfl⟩:=wg.mp hu;exact sp x hx) hv;have ch:∀ t:Row,t.length=r->∃ x:Vec,(∀ j,j<r->0<=x j/\x j<ent D j j)/\(∀ j,r<=j->x j=0)/\Span (vecs D) (λj=>at0 t j-x j):=λt ht=>z03 dl low pos r (wu _) _ λj hj=>B4 (by rfl');have ch':∀ t:Row,∃ x:Vec,t.length=r->(∀ j,j<r->0<=x j/\x j<ent D j j)/\(∀ j,r<=j->x j=0)/\Span (vecs D) (λj=>at0 t j-x j):=λt=>by
   by_cases h:t.length=r
   · obtain⟨x,hx⟩:=ch t h;exact⟨x,λ_=>hx⟩
   · exact⟨λ_=>0,λh'=>absurd h' h⟩
 refine Yp (λt=>mkr r (vH (ch' t))) (λs t hs ht e=>?_) λs hs=>?_
 · obtain⟨sl,sb⟩:=DK.mp hs;obtain⟨tl,tb⟩:=DK.mp ht;obtain⟨s1,s2,s3⟩:=vc (ch' s) sl;obtain⟨t1,t2,t3⟩:=vc (ch' t) tl;generalize vH (ch' s)=b at e s1 s2 s3;generalize vH (ch' t)=c at e t1 t2 t3;have e:mkr r b=mkr r c:=e;have bc:∀ k,b k=c k:=λk=>by
     have:=congrArg (λx=>at0 x k) e;simp only[Py s2,Py t2]at this;exact this
   have d:Span (vecs A) (λk=>at0 s k-at0 t k):=sub _ (Span.congr (λk=>by have:=bc k;rfl') (s3.sub t3));refine ext0 (by rfl') λk=>?_;have z:=Asc.small q.asc d (λx hx=>by
     obtain⟨j,hj,rfl⟩:=wH hx;have ej:A[j]=A.getD j []:=by simp[List.getD,wa hj]
     rw[q.len]at hj;unfold hd;rw[ej,q.head hj];have a:=sb j hj;have b:=tb j hj;have p:=q.pos hj;show -(ent A j j)<at0 s j-at0 t j/\at0 s j-at0 t j<ent A j j;rfl') k
   rfl'
 · obtain⟨sl,sb⟩:=DK.mp hs;obtain⟨s1,s2,s3⟩:=vc (ch' s) sl;refine DK.mpr ⟨Yy _ _,λi hi=>?_⟩;rw[Yz hi];have:=s1 i hi;have p:=pos i hi;rfl'
theorem PC{n e:Nat}{G T:aA}(Ag:Asc n 0 G)(gl:G.length=r)(q:Sq r T)(s:∀ x∈trn n G,Span (vecs T) (λk=>at0 x k))(hb:∀ x∈G,hd x<2 ^ e):pr T r<=2 ^ (e*r):=by
 let D:aA:=(List.range r).map λi=>(trn n G).getD (f9 (G.getD i [])) [];have gr:∀ x∈G,x.length=n:=λx hx=>(Ag.mem hx).1;have dl:D.length=r:=by simp[D]
 have de:∀ i j,i<r->ent D i j=ent G j (f9 (G.getD i [])):=λi j hi=>by
  have:D.getD i []=(trn n G).getD (f9 (G.getD i [])) []:=by simp[D,List.getD,hi]
  rw[←J0 gr];unfold ent;rw[this]
 have low:∀ i j,i<j->ent D i j=0:=λi j h=>by
  by_cases hi:i<r
  · rw[de i j hi];by_cases hj:j<r
    · exact u6 _ _ (Ru Ag h (by rw[gl];exact hj))
    · exact C2 (by rw[gl];rfl') _
  · exact C2 (by rw[dl];rfl') _
 have pos:∀ i,i<r->0<ent D i i:=λi hi=>by
  rw[de i i hi];exact(Fv Ag (k:=i) (by rw[gl];exact hi)).2.2.2
 have b:=q.prod_bound dl low pos λx hx=>by
  obtain⟨j,hj,rfl⟩:=wg.mp hx;have hj:=wQ.mp hj;exact s _ (F5 (by rw[D4];exact(Fv Ag (k:=j) (by rw[gl];exact hj)).2.2.1))
 have b2:=PB (f:=λi=>(ent D i i).toNat) (e:=e) (r:=r) λi hi=>by
  have h:ent D i i<2 ^ e:=by rw[de i i hi];exact hb _ (F5 (by rw[gl];exact hi))
  have p2:(0:Int)<2 ^ e:=Int.pow_pos (by decide);have:((2 ^ e:Nat):Int)=(2:Int) ^ e:=by norm_cast
  rfl'
 rw[YA λi hi=>q.pos hi];have:((2 ^ (e*r):Nat):Int)=(2:Int) ^ (e*r):=by norm_cast
 rfl'
theorem Sq.entry(q:Sq r A){w:Int}(h:Q2 r w A)(hw:0<w)(i j:Nat):0<=ent A i j/\ent A i j<=w:=by
 by_cases hj:j<r
 · have d:=vR hw (q.whole h hj);rcases w0f i j with x|x|x
   · have:=q.red x hj;rfl'
   · subst x;have:=q.pos hj;rfl'
   · rw[q.low x];rfl'
 · rw[q.far (by rfl')];rfl'
end St

end
section
namespace St
open Lat
variable {n:Nat}{G:aA}{M K0:Meas}
theorem V2{i:Nat}(h:i<M.length):mp (M++K0) i=mp M i/\mw (M++K0) i=mw M i:=by
 unfold mp mw;simp[List.getD,wX h]
theorem JN{p q i:Nat}{x y:Row×Int}(hpq:p≠q)(hp:p<M.length)(hq:q<M.length):((M.set p x).set q y).getD i ([],0)=if i=q then y else if i=p then x else M.getD i ([],0):=by
 by_cases h1:i=q
 · subst h1;simp[List.getD,hq]
 · rw[if_neg h1];by_cases h2:i=p
   · subst h2;simp[List.getD,vz,hp,Ne.symm h1,if_neg (Ne.symm h1)]
   · rw[if_neg h2];simp[List.getD,vz,Ne.symm h1,Ne.symm h2]
theorem Ak{i:Nat}:(M++K0).getD i ([],0)=if i<M.length then M.getD i ([],0) else K0.getD (i-M.length) ([],0):=by
 by_cases h:i<M.length
 · rw[if_pos h];simp[List.getD,wX h]
 · rw[if_neg h];simp[List.getD,vi (vG h)]
structure Bz(g f1 f2 a b a' b':Int):Prop where
 gp:0<g
 ea:a=g*a'
 eb:b=g*b'
 one:f1*a'+f2*b'=1
theorem Bz.of{g f1 f2 a b:Int}(gp:0<g)(ga:g∣a)(gb:g∣b)(h:f1*a+f2*b=g):Bz g f1 f2 a b (a / g) (b / g):=by
 obtain⟨a',rfl⟩:=ga;obtain⟨b',rfl⟩:=gb;rw[w0j _ (by rfl'),w0j _ (by rfl')];refine⟨gp,rfl,rfl,?_⟩;have:g*(f1*a'+f2*b')=g*1:=by grind
 exact w08 (by rfl') this
theorem z5B{p q:Nat}{g f1 f2 a' b' lc:Int}{u l:Row}{qu ql:Nat->Int}(m:Ms n G (M++K0))(hlc:lc=a'*mp M q)(hpq:p≠q)(hp:p<M.length)(hq:q<M.length)(z:Bz g f1 f2 (mp M p) (mp M q) a' b')(hu:u.length=n)(hl:l.length=n)
   (eu:∀ k,at0 u k=(at0 (mw M p) k+at0 (mw M q) k)-g*qu k) (el:∀ k,at0 l k=((-(f2*b'))*at0 (mw M p) k+(f1*a')*at0 (mw M q) k)-lc*ql k) :
   Ms n G ((M.set p (u,g)).set q (l,lc)++K0):=by
 have len:((M.set p (u,g)).set q (l,lc)).length=M.length:=by simp
 have get:∀ i,((M.set p (u,g)).set q (l,lc)++K0).getD i ([],0)=if i=q then(l,lc) else if i=p then(u,g) else(M++K0).getD i ([],0):=λi=>by
   rw[Ak,len,JN hpq hp hq];by_cases h1:i=q
   · subst h1;rw[if_pos hq,if_pos rfl,if_pos rfl]
   · by_cases h2:i=p
     · subst h2;rw[if_pos hp,if_neg h1,if_neg h1,if_pos rfl,if_pos rfl]
     · rw[if_neg h1,if_neg h2,if_neg h1,if_neg h2,Ak]
 obtain⟨x1,x2⟩:=V2 (K0:=K0) hp;obtain⟨y1,y2⟩:=V2 (K0:=K0) hq;have dl:∀(x y:Row) (c d:Int) (w:Row) (s:Int) (t:Nat->Int) (v:Vec),(∀ k,at0 w k=(c*at0 x k+d*at0 y k)-s*t k)->s∣dt n w v-(c*dt n x v+d*dt n y v):=λx y c d w s t v h=>by
   refine⟨- sm n (λk=>t k*v k),?_⟩;unfold dt;rw[←R7,←R7,←GZ,←Ha,u8 (g:=λk=>(-s)*(t k*v k)) λk _=>by rw[h k];grind,R7];grind
 have hg:=z.gp;refine m.link (p:=p) (q:=q) (g:=g) (f1:=f1) (f2:=f2) (a:=a') (b:=b') (by rw[ww];rfl') (by rw[ww];rfl') hpq (by rw[x1];exact z.ea) (by rw[y1];exact z.eb) (by rfl') z.one ?_ ?_ ?_ ?_ ?_ ?_ ?_
 · intro x hx;rcases wo.mp hx with hx|hx
   · rcases vV hx with hx|rfl
     · rcases vV hx with hx|rfl
       · exact m.rows x (wo.mpr (.inl hx))
       · exact hu
     · exact hl
   · exact m.rows x (wo.mpr (.inr hx))
 · rw[ww,ww,len]
 · intro i h1 h2;unfold mp mw;rw[get,if_neg h2,if_neg h1];exact⟨rfl,rfl⟩
 · unfold mp;rw[get,if_neg hpq,if_pos rfl]
 · have e:=z.eb;unfold mp;rw[get,if_pos rfl];show lc=_;rw[hlc,e]
 · intro v;rw[x2,y2];have h:=dl (mw M p) (mw M q) 1 1 u g qu v λk=>by rw[eu k];rfl'
   rw[show mw ((M.set p (u,g)).set q (l,lc)++K0) p=u by unfold mw;rw[get,if_neg hpq,if_pos rfl]];simpa using h
 · intro v;have e:=z.eb;rw[x2,y2,←e,←hlc];have h:=dl (mw M p) (mw M q) (-(f2*b')) (f1*a') l lc ql v el;rw[show mw ((M.set p (u,g)).set q (l,lc)++K0) q=l by unfold mw;rw[get,if_pos rfl]];exact h
structure Chn(w:Int)(t s:Nat)(M:Meas):Prop where
 pos:∀ i,i<M.length->0<mp M i
 whole:∀ i,i<M.length->mp M i∣w
 all:∀ i j,i<t->i<j->j<M.length->mp M i∣mp M j
 here:∀ j,t<j->j<s->j<M.length->mp M t∣mp M j
theorem Chn.link{w g f1 f2 a' b' lc:Int}{t s:Nat}{u l:Row}(c:Chn w t s M)(hts:t<s)(hs:s<M.length)(z:Bz g f1 f2 (mp M t) (mp M s) a' b')(hlc:lc=a'*mp M s):Chn w t (s+1) ((M.set t (u,g)).set s (l,lc)):=by
 have len:((M.set t (u,g)).set s (l,lc)).length=M.length:=by simp
 have get:∀ i,mp ((M.set t (u,g)).set s (l,lc)) i=if i=s then lc else if i=t then g else mp M i:=λi=>by
   unfold mp;rw[JN (by rfl') (by rfl') hs];split
   · rfl
   · split<;>rfl
 have hg:=z.gp;have pt:=c.pos t (by rfl');have ps:=c.pos s hs;have ap:0<a':=by
   have e:=z.ea;rcases w0c a' 0 with h|h|h
   · have:=Int.mul_neg_of_pos_of_neg hg h;rfl'
   · rw[h]at e;rfl'
   · exact h
 refine⟨λi hi=>?_,λi hi=>?_,λi j h1 h2 h3=>?_,λj h1 h2 h3=>?_⟩
 · rw[len]at hi;rw[get];split
   · rw[hlc];exact w1d ap ps
   · split
     · exact hg
     · exact c.pos i hi
 · rw[len]at hi;rw[get];split
   · have e:=z.eb;rw[hlc,e];exact z5z (by rfl') z.one (by rw[←z.ea];exact c.whole t (by rfl')) (by rw[←e];exact c.whole s hs)
   · split
     · exact uD ⟨a',z.ea⟩ (c.whole t (by rfl'))
     · exact c.whole i hi
 · rw[len]at h3;rw[get i,if_neg (by rfl'),if_neg (by rfl'),get j];split
   · rw[hlc];exact uD (c.all i s h1 (by rfl') hs) ⟨a',wM _ _⟩
   · split
     · have d1:=c.all i t h1 (by rfl') (by rfl');have d2:=c.all i s h1 (by rfl') hs;have e:g=f1*mp M t+f2*mp M s:=by
        rw[z.ea,z.eb];have:=z.one
        grind
       rw[e];exact w0g (uD d1 ⟨f1,wM _ _⟩) (uD d2 ⟨f2,wM _ _⟩)
     · exact c.all i j h1 h2 h3
 · rw[len]at h3;rw[get t,if_neg (by rfl'),if_pos rfl,get j];split
   · rw[hlc,z.eb];exact⟨a'*b',by grind⟩
   · rw[if_neg (by rfl')];exact uD ⟨a',z.ea⟩ (c.here j h1 (by rfl') h3)
theorem Chn.next{w:Int}{t s:Nat}(c:Chn w t s M)(h:M.length<=s):Chn w (t+1) (t+2) M :=
 ⟨c.pos,c.whole,fun i j h1 h2 h3=>by
  by_cases e:i<t
  · exact c.all i j e h2 h3
  · have:i=t:=by rfl'
    subst this;exact c.here j h2 (by rfl') h3,λj h1 h2=>by rfl'⟩
theorem Chn.first{w:Int}(hp:∀ i,i<M.length->0<mp M i)(hw:∀ i,i<M.length->mp M i∣w):Chn w 0 1 M:=⟨hp,hw,λi j h=>by rfl',λj h1 h2=>by rfl'⟩
end St

end
section
namespace St
open Lat
theorem Sq.whole_col{r:Nat}{A:aA}{w:Int}(q:Sq r A)(h:Q2 r w (trn r A)){i:Nat}(hi:i<r):ent A i i∣w:=by
 obtain⟨c,hc⟩:=F6.mp (h i hi);rw[D4]at hc;have B:=q.below h;have z:=FD (m:=r) (a:=i+1) (c:=c) (D:=λl j=>ent (trn r A) l j) B.pos B.low λj h1 h2=>by rw[←hc j];simp only[pt];rw[if_neg (by rfl')]
 have e:=hc i;rw[Q0 hi λk hk hn=>?_]at e
 · rw[J0 q.rows]at e;simp only[pt,if_true]at e;exact⟨c i,by rw[e];exact wM _ _⟩
 · rcases ud hn with x|x
   · rw[B.low k i x hi];simp
   · rw[z (r-k) k (by rfl') (by rfl') hk];simp
theorem Sq.entryC{r:Nat}{A:aA}(q:Sq r A){w:Int}(h:Q2 r w (trn r A))(hw:0<w)(i j:Nat):0<=ent A i j/\ent A i j<=w:=by
 by_cases hj:j<r
 · have d:=vR hw (q.whole_col h hj);rcases w0f i j with x|x|x
   · have:=q.red x hj;rfl'
   · subst x;have:=q.pos hj;rfl'
   · rw[q.low x];rfl'
 · rw[q.far (by rfl')];rfl'
theorem Good.sq{r N B:Nat}{w:Int}{P S:aA}(G:Good N B P S)(b:Below r N w P):S.length=r/\∀ x∈S,f9 x<r:=by
 refine⟨by rw[G.full b.ind,b.len],λx hx=>(b.full G.asc G.span x hx).1⟩
end St

end
section
set_option maxHeartbeats 1000000
namespace St
open Lat
end St
namespace St
open Lat
theorem z5C(R:aA)(c:aG)(k:Nat)(h:c.length=R.length):mix R c k=sm R.length (λi=>at0 c i*at0 (R.getD i []) k):=Rx k h
theorem z1x{p:Int}:∀{m:Nat} {f:Nat->Int},(∀ i,i<m->p∣f i)->p∣sm m f
 | 0,f,_=>Int.dvd_zero _
 | m+1,f,h=>by
  rw[sm];exact w0g (h 0 (by rfl')) (z1x λi hi=>h (i+1) (by rfl'))
def YB(n:Nat)(M:Meas):aA:=(List.range n).map λj=>(G3 n j).map (mp M j*·)
theorem z1y(n:Nat)(c:Int)(j k:Nat):at0 ((G3 n j).map (c*·)) k=c*at0 (G3 n j) k:=by
 unfold at0;rw[List.getD,List.getD,wF];cases (G3 n j)[k]? with
 | none=>exact(w0P _).symm
 | some x=>rfl
theorem z5D{n:Nat}{M:Meas}{y:Vec}(d:∀ k,k<n->mp M k∣y k)(h:∀ k,n<=k->y k=0):Span (vecs (YB n M)) y:=by
 have key:∀ m,m≤n→Span (vecs (YB n M)) (fun k=>if k<m then y k else 0):=by
   intro m
   induction m with
   | zero=>intro _;exact Span.congr (λk=>by simp) Span.zero
   | succ m ih =>
    intro hm;obtain⟨q,hq⟩:=d m (by rfl');have hu:(G3 n m).map (mp M m*·)∈YB n M:=wg.mpr ⟨m,wQ.mpr (by rfl'),rfl⟩;refine Span.congr (λk=>?_) ((ih (by rfl')).add ((JL hu).smul q));show(if k<m then y k else 0)+q*at0 ((G3 n m).map (mp M m*·)) k=if k<m+1 then y k else 0
    rw[z1y,Y3];by_cases h1:k<m
    · rw[if_pos h1,if_neg (show ¬(k=m/\k<n) by rfl'),if_pos (show k<m+1 by rfl')];simp
    · by_cases h2:k=m
      · subst h2;rw[if_neg h1,if_pos (show k=k/\k<n from⟨rfl,by rfl'⟩),if_pos (show k<k+1 by rfl'),hq,Int.mul_one,wM];rfl'
      · rw[if_neg h1,if_neg (show ¬(k=m/\k<n) by rfl'),if_neg (show ¬k<m+1 by rfl')];simp
 refine Span.congr (λk=>?_) (key n (wu n));by_cases hk:k<n
 · simp only[if_pos hk]
 · simp only[if_neg hk];exact(h k (by rfl')).symm
structure Plc(n:Nat)(M:Meas)(P:aA):Prop where
 len:P.length=n
 rows:∀ r∈P,r.length=n
 near:∀ i k,i<n->k<n->mp M k∣at0 (P.getD i []) k-at0 (mw M k) i
theorem Plc.mix{n:Nat}{M:Meas}{P:aA}(p:Plc n M P){t:aG}(ht:t.length=n){k:Nat}(hk:k<n):mp M k∣St.mix P t k-dt n (mw M k) (λi=>at0 t i):=by
 rw[z5C P t k (by rw[ht,p.len]),p.len];unfold dt;rw[←Ha];refine z1x λi hi=>?_;have e:at0 t i*at0 (P.getD i []) k-at0 (mw M k) i*at0 t i=at0 t i*(at0 (P.getD i []) k-at0 (mw M k) i):=by rw[w0b,wM (at0 (mw M k) i)]
 show mp M k∣at0 t i*at0 (P.getD i []) k-at0 (mw M k) i*at0 t i;rw[e];exact uD (p.near i k hi hk) (Int.dvd_mul_left _ _)
theorem Plc.onto{n:Nat}{G:aA}{M:Meas}{P:aA}(p:Plc n M P)(ms:Ms n G M)(lM:M.length=n):∀ v:Vec,(∀ k,n<=k->v k=0)->Span (vecs (P++YB n M)) v:=λv hv=>by
 obtain⟨b,hb,d⟩:=ms.onto v;have lc:((List.range n).map b).length=n:=by simp
 have ac:∀ i,at0 ((List.range n).map b) i=b i:=λi=>by
   by_cases h:i<n
   · unfold at0;simp[List.getD,h]
   · rw[B4 (by rfl'),hb i (by rfl')]
 refine(AS _).mpr ⟨St.mix P ((List.range n).map b),λk=>v k-St.mix P ((List.range n).map b) k,NH _,z5D (λk hk=>?_) (λk hk=>?_),λk=>by show v k=_+(v k-_);rfl'⟩
 · have a:=p.mix lc hk;have e:(λi=>at0 ((List.range n).map b) i)=b:=funext ac;rw[e]at a;have c:=d k (by rw[lM];exact hk);have:=Int.dvd_neg.mpr (w0g a c)
   rwa [show -(St.mix P ((List.range n).map b) k-dt n (mw M k) b+(dt n (mw M k) b-v k))=v k-St.mix P ((List.range n).map b) k by rfl']at this
 · show v k-St.mix P ((List.range n).map b) k=0;rw[hv k hk,Fw p.rows k hk];rfl
end St

end
section
set_option maxHeartbeats 1000000
namespace St
open Lat
end St

end
section
local macro_rules|`(tactic|rfl')=>`(tactic|first|lia|omega +splitDisjunctions)
namespace L2
open PySem
theorem FG{a b:aG}(h:a.length=b.length)(k:Nat):St.at0 (addR a b) k=St.at0 a k+St.at0 b k:=by
 have e:addR a b=St.lin 1 a 1 b:=by unfold addR St.lin;congr 1;funext x y;rfl'
 rw[e,St.IN h];rfl'
theorem AU{a b:aG}(h:a.length=b.length)(k:Nat):St.at0 (subR a b) k=St.at0 a k-St.at0 b k:=by
 have e:subR a b=St.sub a 1 b:=by unfold subR St.sub;congr 1;funext x y;rfl'
 rw[e,St.M7 h];rfl'
theorem Al(q:Int)(a:aG)(k:Nat):St.at0 (sclR q a) k=q*St.at0 a k:=by
 simp only[St.at0,sclR,List.getD,wF];cases a[k]?<;>simp
theorem Ii(n:Nat):o6 n=St.JG n:=by unfold o6 St.JG;simp
theorem E5(n k:Nat):St.at0 (o6 n) k=0:=by rw[Ii];exact St.GW n k
theorem PD{n:Nat}:∀(rows:aA) (cs:aG) (t:aG),t.length=n->(∀ r∈rows,r.length=n)->∀ k,St.at0 ((rows.zip cs).foldl (λt p=>addR t (sclR p.2 p.1)) t) k=St.at0 t k+St.mix rows cs k
 | [],cs,t,_,_,k=>by simp[St.mix]
 | r::rows,[],t,_,_,k=>by simp[St.mix]
 | r::rows,c::cs,t,ht,hw,k=>by
  have hr:=hw r we;rw[ue,w0u,PD rows cs _ (by rw[P8 (by rw[v9,ht,hr])];exact ht) (λx hx=>hw x (wc _ hx)),FG (by rw[v9,ht,hr]),Al];show St.at0 t k+c*St.at0 r k+St.mix rows cs k=St.at0 t k+(c*St.at0 r k+St.mix rows cs k);rfl'
theorem Y5{n:Nat}{rows:aA}{cs:aG}(hw:∀ r∈rows,r.length=n)(k:Nat):St.at0 (mixR n rows cs) k=St.mix rows cs k:=by
 unfold mixR;rw[PD rows cs (o6 n) B9 hw,E5];rfl'
theorem z5E(v:aG):sclR 1 v=v:=by unfold sclR;simp
theorem PH{r:aG}{x:Int}(h:x∈r):∃ k,St.at0 r k=x:=by
 obtain⟨k,hk,e⟩:=uV.mp h;exact⟨k,by simp[St.at0,List.getD,wa hk,e]⟩
theorem R8{r:aG}{B:Nat}(h:St.Lt B r):∀ x∈r,x.natAbs<B:=λx hx=>by
 obtain⟨k,rfl⟩:=PH hx;exact h k
end L2
namespace L2
open PySem
theorem YC{n i:Nat}(h:i<n):ixN n (i:Int)=some i:=by
 unfold ixN;rw[if_pos (by rfl'),if_pos (by rfl')];simp
theorem M8{i j:Int}(h:0<j):Ac i j=true:=by unfold Ac;rw[decide_eq_true (show j≠0 by rfl')]
end L2
namespace L2
open PySem
theorem Me{α γ:Type}{g:Tg}{F:FS}(e:α->Dt)(bad:α->Prop)(R:γ->Rho)(f:Fl)(d:Dt):∀(xs:List α) (j:γ),(∀ x∈xs,∀ j,bad x->(g.put (e x) (R j)).bind F=some (.rt f d))->(∀ x∈xs,∀ j,¬bad x->∃ j',(g.put (e x) (R j)).bind F=some (.nx (R j'))) ->
  ((∃ x∈xs,bad x)->forF g F (xs.map e) (R j)=some (.rt f d))/\((∀ x∈xs,¬bad x)->∃ j',forF g F (xs.map e) (R j)=some (.nx (R j')))
 | [],j,_,_=>⟨λ⟨x,hx,_⟩=>(nomatch hx),λ_=>⟨j,rfl⟩⟩
 | x::xs,j,h1,h2=>by
  by_cases hb:bad x
  · have e1:=h1 x we j hb;refine⟨λ_=>?_,λh=>absurd hb (h x we)⟩;rw[wm,E4,e1];rfl
  · obtain⟨j1,e1⟩:=h2 x we j hb;obtain⟨i1,i2⟩:=Me e bad R f d xs j1 (λy hy=>h1 y (wc _ hy)) (λy hy=>h2 y (wc _ hy));rw[wm,E4,e1];refine⟨λ⟨y,hy,by_⟩=>?_,λh=>i2 λy hy=>h y (wc _ hy)⟩;rcases wq.mp hy with rfl|hy
    · exact absurd by_ hb
    · exact i1 ⟨y,hy,by_⟩
theorem us0{P:aF->Prop}(h:P []):∀ us:aF,us.length=0->P us:=λus hl=>(w0l.mp hl).symm ▸ h
theorem usS{P:aF->Prop}{n:Nat}(h:∀ a us,us.length=n->P (a::us)):∀ us:aF,us.length=n+1->P us:=λus hl=>by
 cases us with
 | nil=>cases hl
 | cons a us=>exact h a us (Nat.succ.inj hl)
theorem us1{P:aF->Prop}(h:∀ a,P [a]):∀ us:aF,us.length=1->P us:=usS λa=>us0 (h a)
theorem us2{P:aF->Prop}(h:∀ a b,P [a,b]):∀ us:aF,us.length=2->P us:=usS λa=>(usS λb=>us0 (h a b))
theorem us3{P:aF->Prop}(h:∀ a b c,P [a,b,c]):∀ us:aF,us.length=3->P us:=usS λa=>(usS λb=>(usS λc=>us0 (h a b c)))
theorem us4{P:aF->Prop}(h:∀ a b c d,P [a,b,c,d]):∀ us:aF,us.length=4->P us:=usS λa=>(usS λb=>(usS λc=>(usS λd=>us0 (h a b c d))))
end L2

end
section
set_option maxHeartbeats 1000000
namespace K26
open PySem L2
noncomputable section
def ED:FS:=(sRet (vAnd (fIsi "int" (fN 0)) (vNot (fIsi "bool" (fN 0)))))
def R9:FC:=cOf 1 1 true ED
def JO:FS:=(sSeq (sIf (fOr (fNot (fTru (fIsi "list" (fN 0)))) (o9 (fOp opNe (fBlt bLen (f8 (fN 0) fNil)) (fN 1)))) (sRet (fC (.bl false))) v4)
 (sRet (fBlt bAll (f8 (n4 1 [] (iSeq (fN 0)) (Tg.one 0) fYes (i7 true R9 (f8 (fN 0) fNil))) fNil))))
def Y6:FC:=cOf 2 2 true JO
def Hc:FS:=(sRet (n4 1 [] (n9 (fN 0)) (Tg.one 0) fYes (fC (.int 0))))
def J5:FC:=cOf 1 1 true Hc
def EE:FS:=(sRet (n4 1 [1] (n9 (fN 0)) (Tg.one 0) fYes (fIf (o9 (fOp opEq (fN 0) (fN 1))) (fC (.int 1)) (fC (.int 0)))))
def J1:FC:=cOf 2 2 true EE
def NL:FS:=(sRet (n4 2 [] (iZip (fN 0) (fN 1)) (Tg.many [0,1]) fYes (fOp u4 (fN 0) (fN 1))))
def V7:FC:=cOf 2 2 true NL
def NM:FS:=(sRet (n4 2 [] (iZip (fN 0) (fN 1)) (Tg.many [0,1]) fYes (fOp HW (fN 0) (fN 1))))
def BH:FC:=cOf 2 2 true NM
def JP:FS:=(sRet (n4 1 [1] (iSeq (fN 0)) (Tg.one 0) fYes (fOp C3 (fN 1) (fN 0))))
def D9:FC:=cOf 2 2 true JP
def Hd:FS:=(sRet (fBlt bSum (f8 (n4 2 [] (iZip (fN 0) (fN 1)) (Tg.many [0,1]) fYes (fOp C3 (fN 0) (fN 1))) fNil)))
def DL:FC:=cOf 2 2 true Hd
def NN:FS:=(sSeq (sSet [] 3 (i7 true J5 (f8 (fN 2) fNil)))
 (sSeq (sFor [] (iZip (fN 0) (fN 1)) (Tg.many [4,5])
 (sSet [] 3 (i7 true V7 (f8 (fN 3) (f8 (i7 true D9 (f8 (fN 4) (f8 (fN 5) fNil))) fNil)))))
 (sRet (fN 3))))
def DM:FC:=cOf 3 6 true NN
def He:FS:=(sSeq (sFor [] (X7 (fN 0)) (Tg.many [1,2])
 (sIf (o9 (fOp opNe (fN 2) (fC (.int 0)))) (sRet (fN 1)) v4))
 (sRet (fBlt bLen (f8 (fN 0) fNil))))
def r9:FC:=cOf 1 3 true He
def CB:FS:=(sRet (vAnd (i7 true R9 (f8 (fN 0) fNil)) (Jj opLe opLe (fC (.int 1)) (fN 0) (fC (.int 6)))))
def Am:FC:=cOf 1 1 true CB
def Hf:FS:=(sRet (vAnd (i7 true Y6 (f8 (fN 0) (f8 (fN 1) fNil))) (fBlt bAll (f8 (n4 1 [] (iSeq (fN 0)) (Tg.one 0) fYes (fOp opLt (fBlt bAbs (f8 (fN 0) fNil)) (fOp LB (fC (.int 10)) (fC (.int 30))))) fNil))))
def DN:FC:=cOf 2 2 true Hf
def BJ:FS:=(sIf (fNot (fTru (i7 true Am (f8 (fN 0) fNil)))) Ex v4)
def V8:FC:=cOf 1 1 true BJ
def CC:FS:=(sIf (fNot (fTru (i7 true DN (f8 (fN 0) (f8 (fN 1) fNil))))) Ex v4)
def P1:FC:=cOf 2 2 true CC
def Hg:FS:=(sRet (fTup (f8 (fN 0) (f8 (fBlt bTup (f8 (n4 1 [] (iSeq (fN 1)) (Tg.one 0) fYes (fBlt bTup (f8 (fN 0) fNil))) fNil)) fNil))))
def W4:FC:=cOf 2 2 true Hg
def Hi:FS:=(sSeq (Ad (i7 true V8 (f8 (fN 0) fNil)))
 (sSeq (sIf (fOr (fNot (fTru (fIsi "list" (fN 1)))) (o9 (fOp opGt (fBlt bLen (f8 (fN 1) fNil)) (fC (.int 8))))) Ex v4)
 (sSeq (sFor [] (iSeq (fN 1)) (Tg.one 2)
 (Ad (i7 true P1 (f8 (fN 2) (f8 (fN 0) fNil)))))
 (sRet (i7 true W4 (f8 (fN 0) (f8 (fN 1) fNil)))))))
def W5:FC:=cOf 2 3 true Hi
def M9:FS:=(sIf (fNot (fTru (i7 true Y6 (f8 (fN 1) (f8 (fN 0) fNil))))) Ex v4)
def C5:FC:=cOf 2 2 true M9
def AD:FS:=(Ad (i7 true C5 (f8 (fAt (fN 0) (fC (.int 0))) (f8 (fN 1) fNil))))
def N5:FC:=cOf 2 2 true AD
def JQ:FS:=(sRet (i7 true J5 (f8 (fAt (fN 0) (fC (.int 0))) fNil)))
def FH:FC:=cOf 1 1 true JQ
def NO:FS:=(sSeq (Ad (i7 true N5 (f8 (fN 0) (f8 (fN 1) fNil))))
 (sSeq (Ad (i7 true N5 (f8 (fN 0) (f8 (fN 2) fNil))))
 (sRet (i7 true BH (f8 (fN 2) (f8 (fN 1) fNil))))))
def DO:FC:=cOf 3 3 true NO
def JR:FS:=(sSeq (sSet [] 2 (fLst (f8 (fN 0) (f8 (fC (.int 1)) (f8 (fC (.int 0)) fNil)))))
 (sSeq (sSet [] 3 (fLst (f8 (fN 1) (f8 (fC (.int 0)) (f8 (fC (.int 1)) fNil)))))
 (sSeq (AA (o9 (fOp opNe (fAt (fN 3) (fC (.int 0))) (fC (.int 0)))) (sSeq (sSet [] 4 (fOp AI (fAt (fN 2) (fC (.int 0))) (fAt (fN 3) (fC (.int 0)))))
 (sSeq (sSet [] 5 (n4 1 [2,4,3] (n9 (fC (.int 3))) (Tg.one 0) fYes (fOp HW (fAt (fN 1) (fN 0)) (fOp C3 (fN 2) (fAt (fN 3) (fN 0))))))
 (sSeq (sSet [] 2 (fN 3))
 (sSet [] 3 (fN 5))))))
 (sSeq (sIf (o9 (fOp opLt (fAt (fN 2) (fC (.int 0))) (fC (.int 0)))) (sSet [] 2 (n4 1 [] (iSeq (fN 2)) (Tg.one 0) fYes (fNeg (fN 0)))) v4)
 (sRet (fBlt bTup (f8 (fN 2) fNil)))))))
def CD:FC:=cOf 2 6 true JR
def NP:FS:=(sSeq (sIf (o9 (fOp opEq (fN 1) (fC (.int 0)))) (sRet (fN 0)) v4)
 (sRet (fOp E3 (fN 0) (fN 1))))
def CG:FC:=cOf 2 2 true NP
def Hj:FS:=(sSeq (sSet [] 1 (fC (.int 1)))
 (sSeq (sFor [] (iSeq (fN 0)) (Tg.one 2)
 (sSet [] 1 (fOp C3 (fN 1) (fN 2))))
 (sRet (fN 1))))
def DP:FC:=cOf 1 3 true Hj
def EG:FS:=(sSeq (sSet [] 2 (fBlt bLst (f8 (fN 0) fNil)))
 (sSeq (sOwn 3 (fLst fNil))
 (sSeq (sFor [] (iSeq (fN 1)) (Tg.one 4)
 (sSeq (sSet [] 5 (i7 true r9 (f8 (fN 4) fNil)))
 (sSeq (sSet [] 6 (fOp AI (fAt (fN 2) (fN 5)) (fAt (fN 4) (fN 5))))
 (sSeq (sIf (o9 (fOp opNe (fN 6) (fC (.int 0)))) (sSet [] 2 (i7 true BH (f8 (fN 2) (f8 (i7 true D9 (f8 (fN 4) (f8 (fN 6) fNil))) fNil)))) v4)
 (sWr wApp 3 (fN 6))))))
 (sRet (fTup (f8 (fN 3) (f8 (fN 2) fNil)))))))
def BK:FC:=cOf 2 7 true EG
def Hk:FS:=(sRet (fAt (i7 true BK (f8 (fN 0) (f8 (fN 1) fNil))) (fC (.int 1))))
def C0:FC:=cOf 2 2 true Hk
def Hl:FS:=(sSeq (sSet [] 2 (i7 true r9 (f8 (fN 0) fNil)))
 (sSeq (sSet [] 3 (i7 true CD (f8 (fAt (fN 0) (fN 2)) (f8 (fAt (fN 1) (fN 2)) fNil))))
 (sSeq (sSet [] 4 (i7 true V7 (f8 (i7 true D9 (f8 (fN 0) (f8 (fAt (fN 3) (fC (.int 1))) fNil))) (f8 (i7 true D9 (f8 (fN 1) (f8 (fAt (fN 3) (fC (.int 2))) fNil))) fNil))))
 (sSeq (sSet [] 5 (i7 true BH (f8 (i7 true D9 (f8 (fN 1) (f8 (fOp AI (fAt (fN 0) (fN 2)) (fAt (fN 3) (fC (.int 0)))) fNil))) (f8 (i7 true D9 (f8 (fN 0) (f8 (fOp AI (fAt (fN 1) (fN 2)) (fAt (fN 3) (fC (.int 0)))) fNil))) fNil))))
 (sRet (fTup (f8 (fN 4) (f8 (fN 5) fNil))))))))
def W6:FC:=cOf 2 6 true Hl
def CH:FS:=(sRet (fIf (o9 (fOp opLt (fAt (fN 0) (i7 true r9 (f8 (fN 0) fNil))) (fC (.int 0)))) (i7 true D9 (f8 (fN 0) (f8 (fNeg (fC (.int 1))) fNil))) (fBlt bLst (f8 (fN 0) fNil))))
def F7:FC:=cOf 1 1 true CH
def Y7:FS:=(sSeq (sOwn 2 (fBlt bLst (f8 (fN 0) fNil)))
 (sSeq (U1 3 (i7 true C0 (f8 (fN 1) (f8 (fN 2) fNil))))
 (sSeq (AA (o9 (fOp opLt (i7 true r9 (f8 (fN 3) fNil)) (fBlt bLen (f8 (fN 3) fNil)))) (sSeq (U1 4 (n4 2 [3] (X7 (fN 2)) (Tg.many [0,1]) (o9 (fOp opEq (i7 true r9 (f8 (fN 1) fNil)) (i7 true r9 (f8 (fN 2) fNil)))) (fN 0)))
 (sSeq (sIf (o9 (fOp opEq (fBlt bLen (f8 (fN 4) fNil)) (fC (.int 0)))) (sRet (Ez r9 (fOp u4 (fN 2) (fLst (f8 (i7 true F7 (f8 (fN 3) fNil)) fNil))))) v4)
 (sSeq (U1 5 (i7 true W6 (f8 (fAt (fN 2) (fAt (fN 4) (fC (.int 0)))) (f8 (fN 3) fNil))))
 (sSeq (sPut 2 (fAt (fN 4) (fC (.int 0))) (fAt (fN 5) (fC (.int 0))))
 (U1 3 (i7 true C0 (f8 (fAt (fN 5) (fC (.int 1))) (f8 (fN 2) fNil)))))))))
 (sRet (fN 2)))))
def S3:FC:=cOf 2 6 false Y7
def JS:FS:=(sSeq (sOwn 1 (fLst fNil))
 (sSeq (sFor [] (iRev (fN 0)) (Tg.one 2)
 (sWrA Js 1 (i7 true C0 (f8 (fN 2) (f8 (fN 1) fNil)))))
 (sRet (fN 1))))
def CI:FC:=cOf 1 3 true JS
def Hm:FS:=(sSeq (sSet [] 1 (fLst fNil))
 (sSeq (sFor [] (iSeq (fN 0)) (Tg.one 2)
 (sSet [] 1 (i7 true CI (f8 (i7 false S3 (f8 (fN 1) (f8 (fN 2) fNil))) fNil))))
 (sRet (fN 1))))
def J7:FC:=cOf 1 3 true Hm
def Q4:FS:=(sRet (i7 true J7 (f8 (n4 2 [] (iZip (fN 0) (fN 1)) (Tg.many [0,1]) fYes (fOp u4 (fBlt bLst (f8 (fN 0) fNil)) (fBlt bLst (f8 (fN 1) fNil)))) fNil)))
def A3:FC:=cOf 2 2 true Q4
def S4:FS:=(sRet (n4 1 [1] (iSeq (fN 0)) (Tg.one 0) (o9 (fOp opGe (i7 true r9 (f8 (fN 0) fNil)) (fN 1))) (fSl (fN 0) (K9 (fN 1)) B7)))
def A9:FC:=cOf 2 2 true S4
def NQ:FS:=(sRet (i7 true J7 (f8 (fAt (fN 0) (fC (.int 1))) fNil)))
def N0:FC:=cOf 1 1 true NQ
def Q5:FS:=(sSeq (sSet [] 1 (fBlt bLen (f8 (fAt (fN 0) (fC (.int 1))) fNil)))
 (sRet (i7 true A3 (f8 (fAt (fN 0) (fC (.int 1))) (f8 (n4 1 [1] (n9 (fN 1)) (Tg.one 0) fYes (i7 true J1 (f8 (fN 1) (f8 (fN 0) fNil)))) fNil)))))
def A0:FC:=cOf 1 2 true Q5
def JT:FS:=(sRet (n4 1 [0] (n9 (fN 1)) (Tg.one 0) fYes (n4 1 [0] (iSeq (fN 1)) (Tg.one 0) fYes (fAt (fN 0) (fN 1)))))
def U6:FC:=cOf 2 2 true JT
def BL:FS:=(sSeq (sFor [] (X7 (fN 0)) (Tg.many [1,2])
 (sIf (fOr (o9 (fOp opNe (i7 true r9 (f8 (fN 2) fNil)) (fN 1))) (fTru (fBlt bAny (f8 (n4 1 [] (iSeq (fSl (fN 2) (K9 (fOp u4 (fN 1) (fC (.int 1)))) B7)) (Tg.one 0) fYes (fOp opNe (fN 0) (fC (.int 0)))) fNil)))) (sRet (fC (.bl false))) v4))
 (sRet (fC (.bl true))))
def O1:FC:=cOf 1 3 true BL
def NR:FS:=(sRet (n4 1 [1] (iSeq (fN 0)) (Tg.one 0) fYes (i7 true CG (f8 (fN 0) (f8 (fN 1) fNil)))))
def T9:FC:=cOf 2 2 true NR
def AV:FS:=(sSeq (sSet [] 3 (fBlt bLen (f8 (fN 0) fNil)))
 (sSeq (sSet [] 4 (fN 0))
 (sSeq (sSet [] 5 (fN 1))
 (sSeq (AA (fNot (fTru (i7 true O1 (f8 (fN 4) fNil)))) (sSeq (sSet [] 6 (i7 true U6 (f8 (i7 true J7 (f8 (i7 true U6 (f8 (fN 4) (f8 (fN 3) fNil))) fNil)) (f8 (fN 3) fNil))))
 (sSeq (sSet [] 7 (i7 true A3 (f8 (fN 6) (f8 (fN 5) fNil))))
 (sSeq (sSet [] 4 (n4 1 [3] (iSeq (fN 7)) (Tg.one 0) fYes (fSl (fN 0) B7 (K9 (fN 1)))))
 (sSet [] 5 (n4 1 [3,2] (iSeq (fN 7)) (Tg.one 0) fYes (i7 true T9 (f8 (fSl (fN 0) (K9 (fN 1)) B7) (f8 (fN 2) fNil)))))))))
 (sRet (n4 2 [4] (X7 (fN 5)) (Tg.many [0,1]) fYes (fTup (f8 (fN 1) (f8 (fAt (fAt (fN 2) (fN 0)) (fN 0)) fNil)))))))))
def DQ:FC:=cOf 3 8 false AV
def CJ:FS:=(sSeq (sSet [] 2 (i7 true CD (f8 (fAt (fN 0) (fC (.int 1))) (f8 (fAt (fN 1) (fC (.int 1))) fNil))))
 (sSeq (sSet [] 3 (fAt (fN 2) (fC (.int 0))))
 (sSeq (sSet [] 4 (fOp C3 (fOp AI (fAt (fN 0) (fC (.int 1))) (fN 3)) (fAt (fN 1) (fC (.int 1)))))
 (sSeq (sSet [] 5 (i7 true V7 (f8 (fAt (fN 0) (fC (.int 0))) (f8 (fAt (fN 1) (fC (.int 0))) fNil))))
 (sSeq (sSet [] 6 (i7 true V7 (f8 (i7 true D9 (f8 (fAt (fN 0) (fC (.int 0))) (f8 (fOp C3 (fNeg (fAt (fN 2) (fC (.int 2)))) (fOp AI (fAt (fN 1) (fC (.int 1))) (fN 3))) fNil))) (f8 (i7 true D9 (f8 (fAt (fN 1) (fC (.int 0))) (f8 (fOp C3 (fAt (fN 2) (fC (.int 1))) (fOp AI (fAt (fN 0) (fC (.int 1))) (fN 3))) fNil))) fNil))))
 (sRet (fTup (f8 (fTup (f8 (i7 true T9 (f8 (fN 5) (f8 (fN 3) fNil))) (f8 (fN 3) fNil))) (f8 (fTup (f8 (i7 true T9 (f8 (fN 6) (f8 (fN 4) fNil))) (f8 (fN 4) fNil))) fNil)))))))))
def Y8:FC:=cOf 2 7 true CJ
def AW:FS:=(sSeq (sOwn 1 (fBlt bLst (f8 (fN 0) fNil)))
 (sSeq (Ia (n9 (fBlt bLen (f8 (fN 1) fNil))) (Tg.one 2)
 (Ia (IL (fOp u4 (fN 2) (fC (.int 1))) (fBlt bLen (f8 (fN 1) fNil))) (Tg.one 3)
 (sSeq (U1 4 (i7 true Y8 (f8 (fAt (fN 1) (fN 2)) (f8 (fAt (fN 1) (fN 3)) fNil))))
 (sSeq (sPut 1 (fN 2) (fAt (fN 4) (fC (.int 0))))
 (sPut 1 (fN 3) (fAt (fN 4) (fC (.int 1))))))))
 (sRet (n4 2 [] (iSeq (fN 1)) (Tg.many [0,1]) fYes (fTup (f8 (i7 true T9 (f8 (fN 0) (f8 (fN 1) fNil))) (f8 (fN 1) fNil)))))))
def W7:FC:=cOf 1 5 true AW
def Y9:FS:=(sSeq (sSet [] 1 (fAt (fN 0) (fC (.int 0))))
 (sSeq (sSet [] 2 (i7 true N0 (f8 (fN 0) fNil)))
 (sSeq (sSet [] 3 (fBlt bLen (f8 (fN 2) fNil)))
 (sSeq (sSet [] 4 (i7 true A3 (f8 (i7 true U6 (f8 (fN 2) (f8 (fN 1) fNil))) (f8 (n4 1 [1] (n9 (fN 1)) (Tg.one 0) fYes (i7 true J1 (f8 (fN 1) (f8 (fN 0) fNil)))) fNil))))
 (sSeq (sSet [] 5 (n4 1 [3] (iSeq (fSl (fN 4) B7 (K9 (fN 3)))) (Tg.one 0) fYes (fSl (fN 0) B7 (K9 (fN 1)))))
 (sSeq (sSet [] 6 (i7 true DP (f8 (n4 2 [] (X7 (fN 5)) (Tg.many [0,1]) fYes (fAt (fN 1) (fN 0))) fNil)))
 (sSeq (sSet [] 7 (i7 false DQ (f8 (fN 5) (f8 (n4 1 [3] (iSeq (fSl (fN 4) B7 (K9 (fN 3)))) (Tg.one 0) fYes (fSl (fN 0) (K9 (fN 1)) B7)) (f8 (fN 6) fNil)))))
 (sRet (fOp u4 (i7 true W7 (f8 (fN 7) fNil)) (n4 1 [] (iSeq (i7 true A9 (f8 (fN 4) (f8 (fN 3) fNil)))) (Tg.one 0) fYes (fTup (f8 (fN 0) (f8 (fC (.int 0)) fNil)))))))))))))
def L6:FC:=cOf 1 8 false Y9
def EH:FS:=(sSeq (sIf (fOr (fNot (fTru (fIsi "list" (fN 1)))) (o9 (fOp opNe (fBlt bLen (f8 (fN 1) fNil)) (fAt (fN 0) (fC (.int 0)))))) (sRet (fC (.bl false))) v4)
 (sRet (fBlt bAll (f8 (n4 1 [2] (iSeq (fN 1)) (Tg.one 0) fYes (i7 true Y6 (f8 (fN 0) (f8 (fAt (fN 1) (fC (.int 0))) fNil)))) fNil))))
def BM:FC:=cOf 3 3 true EH
def BN:FS:=(sIf (fNot (fTru (i7 true BM (f8 (fN 0) (f8 (fN 1) (f8 (fN 2) fNil)))))) Ex v4)
def Q6:FC:=cOf 3 3 true BN
def Hn:FS:=(sSeq (Ad (i7 true C5 (f8 (fBlt bLen (f8 (fN 0) fNil)) (f8 (fN 1) fNil))))
 (sRet (i7 true DM (f8 (fN 0) (f8 (fN 1) (f8 (fN 2) fNil))))))
def AX:FC:=cOf 3 3 true Hn
def NS:FS:=(sSeq (Ad (i7 true Q6 (f8 (fN 0) (f8 (fN 1) (f8 (fN 2) fNil)))))
 (sSeq (sSet [] 3 (i7 true N0 (f8 (fN 2) fNil)))
 (sRet (fBlt bAll (f8 (n4 1 [1,2,3] (iSeq (fAt (fN 0) (fC (.int 1)))) (Tg.one 0) fYes (fOp opEq (i7 true C0 (f8 (i7 true DM (f8 (fN 1) (f8 (fN 0) (f8 (fAt (fN 2) (fC (.int 0))) fNil)))) (f8 (fN 3) fNil))) (i7 true J5 (f8 (fAt (fN 2) (fC (.int 0))) fNil)))) fNil)))))
def IR:FC:=cOf 3 4 true NS
def JU:FS:=(sSeq (Ad (i7 true Q6 (f8 (fN 0) (f8 (fN 1) (f8 (fN 2) fNil)))))
 (sSeq (sSet [] 3 (i7 true N0 (f8 (fN 2) fNil)))
 (sSeq (sSet [] 4 (n4 1 [0] (n9 (fAt (fN 0) (fC (.int 0)))) (Tg.one 0) fYes (i7 true J1 (f8 (fAt (fN 1) (fC (.int 0))) (f8 (fN 0) fNil)))))
 (sSeq (sSet [] 5 (i7 true A3 (f8 (fOp u4 (fN 1) (fN 3)) (f8 (fOp u4 (fN 4) (n4 1 [0] (iSeq (fN 3)) (Tg.one 0) fYes (i7 true J5 (f8 (fAt (fN 1) (fC (.int 0))) fNil)))) fNil))))
 (sRet (i7 true W4 (f8 (fAt (fN 0) (fC (.int 0))) (f8 (i7 true A9 (f8 (fN 5) (f8 (fAt (fN 2) (fC (.int 0))) fNil))) fNil))))))))
def CK:FC:=cOf 3 6 true JU
def Ho:FS:=(sSeq (sSet [] 3 (i7 true D9 (f8 (i7 true DO (f8 (fN 0) (f8 (fN 1) (f8 (fN 2) fNil)))) (f8 (fNeg (fC (.int 1))) fNil))))
 (sSeq (sSet [] 4 (i7 true C0 (f8 (fOp u4 (fN 3) (i7 true J5 (f8 (fBlt bLen (f8 (fAt (fN 0) (fC (.int 1))) fNil)) fNil))) (f8 (i7 true A0 (f8 (fN 0) fNil)) fNil))))
 (sSeq (sIf (o9 (fOp opNe (fSl (fN 4) B7 (K9 (fAt (fN 0) (fC (.int 0))))) (i7 true FH (f8 (fN 0) fNil)))) (sRet (fC .non)) v4)
 (sRet (fSl (fN 4) (K9 (fAt (fN 0) (fC (.int 0)))) B7)))))
def DR:FC:=cOf 3 5 true Ho
def NT:FS:=(sRet (i7 true DR (f8 (fN 0) (f8 (fN 1) (f8 (fN 2) fNil)))))
def Hq:FC:=cOf 3 3 true NT
def CL:FS:=(sRet (n4 2 [] (iSeq (i7 false L6 (f8 (fN 0) fNil))) (Tg.many [0,1]) (o9 (fOp opNe (fN 1) (fC (.int 1)))) (fTup (f8 (fN 0) (f8 (fN 1) fNil)))))
def Q7:FC:=cOf 1 1 false CL
def Ry:FS:=(sRet (i7 true CG (f8 (i7 true DL (f8 (fN 0) (f8 (fAt (fN 1) (fC (.int 0))) fNil))) (f8 (fAt (fN 1) (fC (.int 1))) fNil))))
def CM:FC:=cOf 2 2 true Ry
def S5:FS:=(sRet (fTup (f8 (fAt (fN 0) (fC (.int 0))) (f8 (fIf (o9 (fOp opEq (fAt (fN 0) (fC (.int 1))) (fC (.int 0)))) (fOp u4 (fBlt bAbs (f8 (fN 1) fNil)) (fC (.int 1))) (fAt (fN 0) (fC (.int 1)))) fNil))))
def G6:FC:=cOf 2 2 false S5
def AY:FS:=(sSeq (sSet [] 3 (i7 true DO (f8 (fN 0) (f8 (fN 1) (f8 (fN 2) fNil)))))
 (sSeq (sFor [] (iSeq (i7 false Q7 (f8 (fN 0) fNil))) (Tg.one 4)
 (sSeq (sSet [] 5 (i7 true CM (f8 (fN 3) (f8 (fN 4) fNil))))
 (sIf (o9 (fOp opNe (fN 5) (fC (.int 0)))) (sRet (i7 false G6 (f8 (fN 4) (f8 (fN 5) fNil)))) v4)))
 (sRet (fC .non))))
def Z0:FC:=cOf 3 6 false AY
def CN:FS:=(sIf (o9 (fOp opNe (fAt (fN 0) (fC (.int 0))) (fAt (fN 1) (fC (.int 0))))) Ex v4)
def An:FC:=cOf 2 2 true CN
def JV:FS:=(sSeq (Ad (i7 true An (f8 (fN 0) (f8 (fN 1) fNil))))
 (sRet (i7 true W4 (f8 (fAt (fN 0) (fC (.int 0))) (f8 (i7 true J7 (f8 (fOp NG (fAt (fN 0) (fC (.int 1))) (fAt (fN 1) (fC (.int 1)))) fNil)) fNil)))))
def N6:FC:=cOf 2 2 true JV
def CO:FS:=(sSeq (sIf (o9 (fOp opLt (fN 1) (fBlt bLen (f8 (fN 0) fNil)))) (sRet (fAt (fN 0) (fN 1))) v4)
 (sSeq (sIf (o9 (fOp opEq (fN 0) (fLst fNil))) (sRet (fC (.int 0))) v4)
 (sRet (fOp u4 (fOp C3 (fAt (fN 0) (fOp E3 (fN 1) (fBlt bLen (f8 (fN 0) fNil)))) (fC (.int 31))) (fN 1)))))
def u9:FC:=cOf 2 2 true CO
def DS:FS:=(sRet (vAnd (fIsi "int" (fN 0)) (vNot (fIsi "bool" (fN 0)))))
def N1:FC:=cOf 1 1 true DS
def EI:FS:=(sSeq (sIf (fOr (fNot (fTru (fIsi "list" (fN 0)))) (o9 (fOp opNe (fBlt bLen (f8 (fN 0) fNil)) (fN 1)))) (sRet (fC (.bl false))) v4)
 (sSeq (sFor [] (iSeq (fN 0)) (Tg.one 2)
 (sIf (fNot (fTru (i7 true N1 (f8 (fN 2) fNil)))) (sRet (fC (.bl false))) v4))
 (sRet (fC (.bl true)))))
def O3:FC:=cOf 2 3 true EI
def Z1:FS:=(sSeq (sIf (o9 (fOp opEq (fN 1) (fC (.int 2)))) (sSeq (sSet [] 2 (fOp E3 (fN 0) (fOp LB (fC (.int 10)) (fC (.int 30)))))
 (sSeq (sIf (o9 (fOp opEq (fOp E3 (fOp AI (fN 0) (fOp LB (fC (.int 10)) (fC (.int 30)))) (fC (.int 2))) (fC (.int 1)))) (sRet (fNeg (fN 2))) v4)
 (sRet (fN 2)))) v4)
 (sSeq (sSet [] 3 (fAt (fLst (f8 (fC (.int 9)) (f8 (fC (.int 61)) fNil))) (fN 1)))
 (sSeq (sSet [] 2 (fOp E3 (fN 0) (fN 3)))
 (sSeq (sIf (o9 (fOp opGt (fN 2) (fOp AI (fN 3) (fC (.int 2))))) (sRet (fOp HW (fN 2) (fN 3))) v4)
 (sRet (fN 2))))))
def S6:FC:=cOf 2 4 true Z1
def NU:FS:=(sRet (n4 1 [0,1,3] (n9 (fN 2)) (Tg.one 0) fYes (i7 true S6 (f8 (i7 true u9 (f8 (fN 1) (f8 (fOp u4 (fN 2) (fN 0)) fNil))) (f8 (fN 3) fNil)))))
def K6:FC:=cOf 4 4 true NU
def NV:FS:=(sSeq (sSet [] 3 (n4 1 [] (n9 (fN 0)) (Tg.one 0) fYes (fC (.int 0))))
 (sSeq (sFor [] (n9 (fBlt bLen (f8 (fN 1) fNil))) (Tg.one 4)
 (sSet [] 3 (n4 1 [3,2,4,1] (n9 (fN 0)) (Tg.one 0) fYes (fOp u4 (fAt (fN 1) (fN 0)) (fOp C3 (fAt (fN 2) (fN 3)) (fAt (fAt (fN 4) (fN 3)) (fN 0)))))))
 (sRet (fN 3))))
def Q8:FC:=cOf 3 5 true NV
def JW:FS:=(sRet (n4 1 [0,2,1] (n9 (fBlt bLen (f8 (fN 0) fNil))) (Tg.one 0) fYes (fOp u4 (fAt (fN 1) (fN 0)) (fOp C3 (fN 2) (fAt (fN 3) (fN 0))))))
def CP:FC:=cOf 3 3 true JW
def Hr:FS:=(sSeq (sSet [] 2 (fC (.int 0)))
 (sSeq (sFor [] (n9 (fBlt bLen (f8 (fN 1) fNil))) (Tg.one 3)
 (sSet [] 2 (fOp u4 (fN 2) (fOp C3 (fAt (fN 0) (fN 3)) (fAt (fN 1) (fN 3))))))
 (sRet (fN 2))))
def S7:FC:=cOf 2 4 true Hr
def Ht:FS:=(sSeq (sIf (fNot (fTru (i7 true O3 (f8 (fN 3) (f8 (fBlt bLen (f8 (fN 0) fNil)) fNil))))) (sRet (fC (.bl false))) v4)
 (sRet (fOp opEq (i7 true CP (f8 (fN 1) (f8 (i7 true Q8 (f8 (fBlt bLen (f8 (fN 1) fNil)) (f8 (fN 0) (f8 (fN 3) fNil)))) (f8 (fC (.int 1)) fNil)))) (fN 2))))
def AZ:FC:=cOf 4 4 true Ht
def EJ:FS:=(sSeq (sIf (fOr (fNot (fTru (fIsi "tuple" (fN 3)))) (fOr (o9 (fOp opNe (fBlt bLen (f8 (fN 3) fNil)) (fC (.int 2)))) (fNot (fTru (i7 true N1 (f8 (fAt (fN 3) (fC (.int 1))) fNil)))))) (sRet (fC (.bl false))) v4)
 (sSeq (sIf (fOr (fNot (fTru (i7 true O3 (f8 (fAt (fN 3) (fC (.int 0))) (f8 (fBlt bLen (f8 (fN 1) fNil)) fNil))))) (o9 (fOp opLt (fAt (fN 3) (fC (.int 1))) (fC (.int 2))))) (sRet (fC (.bl false))) v4)
 (sSeq (sFor [] (iSeq (fN 0)) (Tg.one 4)
 (sIf (o9 (fOp opNe (fOp E3 (i7 true S7 (f8 (fAt (fN 3) (fC (.int 0))) (f8 (fN 4) fNil))) (fAt (fN 3) (fC (.int 1)))) (fC (.int 0)))) (sRet (fC (.bl false))) v4))
 (sRet (fOp opNe (fOp E3 (i7 true S7 (f8 (fAt (fN 3) (fC (.int 0))) (f8 (i7 true CP (f8 (fN 2) (f8 (fN 1) (f8 (fNeg (fC (.int 1))) fNil)))) fNil))) (fAt (fN 3) (fC (.int 1)))) (fC (.int 0)))))))
def Z2:FC:=cOf 4 5 true EJ
def IS:FS:=(sSeq (sSet [] 1 (fAt (fLst (f8 (fC (.int 0)) (f8 (fC (.int 0)) (f8 (fC (.int 0)) (f8 (fC (.int 1)) (f8 (fC (.int 2)) fNil)))))) (fOp E3 (i7 true u9 (f8 (fN 0) (f8 (fC (.int 2)) fNil))) (fC (.int 5)))))
 (sSeq (sSet [] 2 (fOp u4 (fC (.int 1)) (fOp E3 (i7 true u9 (f8 (fN 0) (f8 (fC (.int 0)) fNil))) (fC (.int 3)))))
 (sSeq (sSet [] 3 (fOp u4 (fC (.int 1)) (fOp E3 (i7 true u9 (f8 (fN 0) (f8 (fC (.int 6)) fNil))) (fC (.int 3)))))
 (sSeq (sIf (o9 (fOp opEq (fOp E3 (i7 true u9 (f8 (fN 0) (f8 (fC (.int 4)) fNil))) (fC (.int 7))) (fC (.int 6)))) (sSeq (sSet [] 2 (fC (.int 6)))
 (sSet [] 1 (fC (.int 0)))) v4)
 (sSeq (sSet [] 4 (fOp E3 (i7 true u9 (f8 (fN 0) (f8 (fC (.int 1)) fNil))) (fC (.int 4))))
 (sSeq (sSet [] 5 (fOp E3 (i7 true u9 (f8 (fN 0) (f8 (fC (.int 3)) fNil))) (fC (.int 4))))
 (sSeq (sIf (fAnd (o9 (fOp opEq (fN 1) (fC (.int 0)))) (o9 (fOp opEq (fOp E3 (i7 true u9 (f8 (fN 0) (f8 (fC (.int 7)) fNil))) (fC (.int 3))) (fC (.int 1))))) (sSeq (sSet [] 4 (fOp u4 (fN 4) (fOp C3 (fC (.int 5)) (fBlt bInt (f8 (fOp opLt (fN 2) (fC (.int 4))) fNil)))))
 (sSet [] 5 (fOp u4 (fN 5) (fC (.int 5))))) v4)
 (sSeq (sIf (o9 (fOp opEq (fN 1) (fC (.int 2)))) (sSeq (sSet [] 2 (fOp u4 (fC (.int 1)) (fOp E3 (fN 2) (fC (.int 2)))))
 (sSeq (sSet [] 3 (fOp u4 (fC (.int 1)) (fOp E3 (fN 3) (fC (.int 2)))))
 (sSeq (sSet [] 4 (fOp E3 (fN 4) (fC (.int 3))))
 (sSet [] 5 (fOp E3 (fN 5) (fC (.int 3))))))) v4)
 (sSeq (sSet [] 6 (n4 1 [0,2,1] (n9 (fN 4)) (Tg.one 0) fYes (i7 true K6 (f8 (fN 1) (f8 (fOp u4 (fC (.int 8)) (fOp C3 (fN 2) (fN 0))) (f8 (fN 2) (f8 (fN 3) fNil)))))))
 (sSeq (sSet [] 7 (n4 1 [0,3,1] (n9 (fN 5)) (Tg.one 0) fYes (i7 true K6 (f8 (fN 1) (f8 (fOp u4 (fC (.int 27)) (fOp C3 (fN 2) (fN 0))) (f8 (fN 2) (f8 (fN 3) fNil)))))))
 (sRet (fTup (f8 (fN 2) (f8 (fN 6) (f8 (fN 3) (f8 (fN 7) fNil))))))))))))))))
def NW:FC:=cOf 1 8 true IS
def EK:FS:=(sRet (n4 1 [] (iSeq (fN 0)) (Tg.one 0) fYes (fBlt bLst (f8 (fN 0) fNil))))
def S8:FC:=cOf 1 1 true EK
def FJ:FS:=(sSeq (sSet [] 4 (i7 true Hq (f8 (fN 0) (f8 (fBlt bLst (f8 (fN 2) fNil)) (f8 (fBlt bLst (f8 (fN 3) fNil)) fNil)))))
 (sSeq (sIf (o9 (fOp Jk (fN 4) (fC .non))) (sRet (fAt (fLst (f8 (fC .non) (f8 (fC (.bl true)) fNil))) (fBlt bInt (f8 (i7 true AZ (f8 (fN 1) (f8 (fN 2) (f8 (fN 3) (f8 (fN 4) fNil))))) fNil)))) v4)
 (sSeq (sSet [] 5 (i7 false Z0 (f8 (fN 0) (f8 (fBlt bLst (f8 (fN 2) fNil)) (f8 (fBlt bLst (f8 (fN 3) fNil)) fNil)))))
 (sSeq (sIf (fOr (o9 (fOp AJ (fN 5) (fC .non))) (fNot (fTru (i7 true Z2 (f8 (fN 1) (f8 (fN 2) (f8 (fN 3) (f8 (fN 5) fNil)))))))) (sRet (fC .non)) v4)
 (sRet (fC (.bl false)))))))
def F8:FC:=cOf 4 6 true FJ
def Hu:FS:=(sSeq (sSet [] 4 (fC (.bl true)))
 (sSeq (sSet [] 5 (n4 1 [] (n9 (fAt (fN 0) (fC (.int 0)))) (Tg.one 0) fYes (fC (.int 0))))
 (sSeq (sFor [] (iSeq (fN 3)) (Tg.one 6)
 (sSeq (sSet [] 7 (i7 true F8 (f8 (fN 0) (f8 (fN 1) (f8 (fN 5) (f8 (i7 true Q8 (f8 (fAt (fN 0) (fC (.int 0))) (f8 (fN 2) (f8 (fN 6) fNil)))) fNil))))))
 (sSeq (sIf (o9 (fOp AJ (fN 7) (fC .non))) (sRet (fC .non)) v4)
 (sSet [] 4 (vAnd (fN 4) (fN 7))))))
 (sRet (fN 4)))))
def Hv:FC:=cOf 4 8 true Hu
def z1z:FS:=(sSeq (sSet [] 1 (i7 true NW (f8 (fN 0) fNil)))
 (sSeq (sSet [] 2 (fAt (fN 1) (fC (.int 0))))
 (sSeq (sSet [] 3 (fAt (fN 1) (fC (.int 2))))
 (sSeq (sSet [] 4 (i7 true W5 (f8 (fN 2) (f8 (i7 true S8 (f8 (fAt (fN 1) (fC (.int 1))) fNil)) fNil))))
 (sSeq (sSet [] 5 (i7 true W5 (f8 (fN 3) (f8 (i7 true S8 (f8 (fAt (fN 1) (fC (.int 3))) fNil)) fNil))))
 (sSeq (sSet [] 6 (n4 1 [0,3] (n9 (fN 2)) (Tg.one 0) fYes (i7 true K6 (f8 (fN 1) (f8 (fOp u4 (fC (.int 40)) (fOp C3 (fC (.int 3)) (fN 0))) (f8 (fN 2) (f8 (fC (.int 0)) fNil)))))))
 (sSeq (sSet [] 7 (i7 true S8 (f8 (fN 6) fNil)))
 (sSeq (sSet [] 8 (i7 true CK (f8 (fN 4) (f8 (fN 7) (f8 (fN 5) fNil)))))
 (sSeq (sSet [] 9 (i7 true IR (f8 (fN 4) (f8 (fN 7) (f8 (fN 5) fNil)))))
 (sSeq (sIf (fOr (o9 (fOp opNe (fN 7) (fN 6))) (fNot (fTru (fIsi "bool" (fN 9))))) (sRet (fC (.bl false))) v4)
 (sSeq (sIf (o9 (fOp opNe (fN 9) (i7 true Hv (f8 (fN 5) (f8 (fAt (fN 1) (fC (.int 3))) (f8 (fN 6) (f8 (fAt (fN 1) (fC (.int 1))) fNil))))))) (sRet (fC (.bl false))) v4)
 (sSeq (sSet [] 10 (n4 1 [] (iSeq (fAt (fN 8) (fC (.int 1)))) (Tg.one 0) fYes (fBlt bLst (f8 (fN 0) fNil))))
 (sSeq (sIf (fOr (o9 (fOp opNe (fN 8) (fTup (f8 (fN 2) (f8 (fBlt bTup (f8 (n4 1 [] (iSeq (i7 true N0 (f8 (fN 8) fNil))) (Tg.one 0) fYes (fBlt bTup (f8 (fN 0) fNil))) fNil)) fNil))))) (o9 (fOp opNe (i7 true N6 (f8 (fN 8) (f8 (fN 4) fNil))) (i7 true N6 (f8 (fN 4) (f8 (fN 8) fNil)))))) (sRet (fC (.bl false))) v4)
 (sSeq (sSet [] 11 (i7 true K6 (f8 (fN 0) (f8 (fC (.int 52)) (f8 (fN 2) (f8 (fC (.int 1)) fNil))))))
 (sSeq (sIf (o9 (fOp opEq (fOp E3 (i7 true u9 (f8 (fN 0) (f8 (fC (.int 5)) fNil))) (fC (.int 2))) (fC (.int 1)))) (sSet [] 11 (i7 true Q8 (f8 (fN 2) (f8 (fN 10) (f8 (i7 true K6 (f8 (fN 0) (f8 (fC (.int 52)) (f8 (fBlt bLen (f8 (fN 10) fNil)) (f8 (fC (.int 0)) fNil))))) fNil))))) v4)
 (sSeq (sSet [] 12 (i7 true AX (f8 (fN 7) (f8 (fBlt bLst (f8 (fN 11) fNil)) (f8 (fN 3) fNil)))))
 (sSeq (sIf (fOr (fNot (fTru (i7 true O3 (f8 (fN 12) (f8 (fN 3) fNil))))) (o9 (fOp opNe (fN 12) (i7 true Q8 (f8 (fN 3) (f8 (fN 6) (f8 (fN 11) fNil))))))) (sRet (fC (.bl false))) v4)
 (sSeq (sSet [] 13 (i7 true F8 (f8 (fN 5) (f8 (fAt (fN 1) (fC (.int 3))) (f8 (n4 1 [] (n9 (fN 3)) (Tg.one 0) fYes (fC (.int 0))) (f8 (fN 12) fNil))))))
 (sSeq (sSet [] 14 (i7 true F8 (f8 (fN 8) (f8 (fN 10) (f8 (n4 1 [] (n9 (fN 2)) (Tg.one 0) fYes (fC (.int 0))) (f8 (fN 11) fNil))))))
 (sSeq (sIf (fOr (o9 (fOp AJ (fN 13) (fC .non))) (fOr (o9 (fOp AJ (fN 14) (fC .non))) (o9 (fOp opNe (fN 14) (fN 13))))) (sRet (fC (.bl false))) v4)
 (sRet (vOr (fN 14) (fOp opEq (fOp E3 (i7 true u9 (f8 (fN 0) (f8 (fC (.int 5)) fNil))) (fC (.int 2))) (fC (.int 0)))))))))))))))))))))))))
def YD:FC:=cOf 1 15 true z1z
theorem E2(ns:aG)(k:Int)(h0:0<=k):u9 [.scr ns,.int k]=some (.int (A1 ns k)):=by
 unfold u9 CO A1;by_cases h:k<ns.length
 · have e:atI ns k=some (ns.getD k.toNat 0):=by
     rw[Yo h0,wa (by rfl')];simp[List.getD,wa (show k.toNat<ns.length by rfl')]
   simp[cOf,h,e]
 · by_cases h2:ns=[]
   · subst h2;simp[cOf,h,Pi [] [],show ¬k<0 by rfl'];rfl
   · have hp:0<ns.length:=List.length_pos_iff.mpr h2;obtain⟨f1,f2⟩:=D5 k (show(0:Int)<ns.length by rfl');have e:atI ns (k.fmod ns.length)=some (ns.getD (k.fmod ns.length).toNat 0):=by
      rw[Yo f1,wa (by rfl')];simp[List.getD,wa (show(k.fmod ns.length).toNat<ns.length by rfl')]
     have e2:opEq (.scr ns) (.lst [])=some (.nw,.bl false):=by have:=Pi ns [];rw[decide_eq_false h2]at this;exact this
     simp[cOf,h,h2,e,e2,Ah,Ac,show ¬((ns.length:Int)=0) by rfl']
theorem PJ(c m:Int)(h0:0<=m)(h3:m<3):S6 [.int c,.int m]=some (.int (Cp c m)):=by
 unfold S6 Cp;have hm:m=0\/m=1\/m=2:=by rfl'
 have d30:P4 c 1000000000000000000000000000000=true:=by unfold P4;decide
 have d9:P4 9 2=true:=by unfold P4;decide
 have d61:P4 61 2=true:=by unfold P4;decide
 have p30:Ji 10 30=true:=by unfold Ji;decide
 have two:∀(m w v:Int),m≠2->atI [Dt.int 9,Dt.int 61] m=some (.int w)->0<w->P4 w 2=true->w.fdiv 2=v->cOf 2 4 true Z1 [.int c,.int m]=some (.int (if v<c.fmod w then c.fmod w-w else c.fmod w)):=λm w v hm2 ha hw hd hv=>by
   refine V5 (f := .nw) rfl (run (ρ':=[.sh false (.int c),.sh false (.int m),.no,.no]) (by simp[cOf,v8,hm2]) (run (ρ':=[.sh false (.int c),.sh false (.int m),.no,.sh true (.int w)]) (by simp[cOf,ha]) (run (ρ':=[.sh false (.int c),.sh false (.int m),.sh true (.int (c.fmod w)),.sh true (.int w)]) (by simp[cOf,Ac,show ¬w=0 by rfl']) ?_))) rfl;by_cases h:v<c.fmod w
   · simp[cOf,hd,hv,h]
   · simp[cOf,hd,hv,h]
 rcases hm with rfl|rfl|rfl
 · exact(two 0 9 4 (by decide) rfl (by decide) d9 rfl).trans (by simp)
 · exact(two 1 61 30 (by decide) rfl (by decide) d61 rfl).trans (by simp)
 · by_cases h:(c.fdiv 1000000000000000000000000000000).fmod 2=1
   · simp[cOf,Z1,v8,Ac,p30,d30,h]
   · simp[cOf,Z1,v8,Ac,p30,d30,h]
theorem FK(ns:aG)(a:Int)(n:Nat)(m:Int)(ha:0<=a)(hn:n<=1000)(h0:0<=m)(h3:m<3):K6 [.scr ns,.int a,.int n,.int m]=some (L (L1 ns a n m)):=by
 unfold K6 NU;have q:n4 1 [0,1,3] (n9 (fN 2)) (Tg.one 0) fYes (i7 true S6 (f8 (i7 true u9 (f8 (fN 1) (f8 (fOp u4 (fN 2) (fN 0)) fNil))) (f8 (fN 3) fNil))) (rho0 4 [.scr ns,.int a,.int n,.int m])=some (.nw,L (L1 ns a n m)):=by
  have:=o0 (nt:=1) (js:=[0,1,3]) (Fi:=n9 (fN 2)) (g:=Tg.one 0) (Fe:=i7 true S6 (f8 (i7 true u9 (f8 (fN 1) (f8 (fOp u4 (fN 2) (fN 0)) fNil))) (f8 (fN 3) fNil))) (ρ:=rho0 4 [.scr ns,.int a,.int n,.int m]) (e:=λ(k:Nat) => .int (0+(k:Int))) (h:=λ(k:Nat) => .int (Cp (A1 ns (a+(k:Int))) m)) (xs:=List.range n)
   (by simp[cOf,n9,intD,X5,w8,show(n:Int)<=1000000 by rfl',show -1000000<=(n:Int) by rfl'])
   (λk hk=>by simp[cOf,Tg.put,sigD,El,E2 ns (a+(k:Int)) (by rfl'),PJ _ m h0 h3])
  rw[this];simp[L,L1]
 exact V5 rfl (f := .nw) (by unfold sRet;rw[q];rfl) rfl
theorem Ij(d:Dt):R9 [d]=some (.bl (isWh d)):=by
 unfold R9 ED;cases d<;>simp[cOf,isWh,Dt.flat,nrm]
theorem DT(a:aG)(n:Int):Y6 [L a,.int n]=some (.bl (decide ((a.length:Int)=n))):=by
 unfold Y6 JO;have q:n4 1 [] (iSeq (fN 0)) (Tg.one 0) fYes (i7 true R9 (f8 (fN 0) fNil)) [.sh false (L a),.sh false (.int n)]=some (.nw,.lst (a.map λ_ => .bl true)) :=
   o0 (e:=Dt.int) (h:=λ_ => .bl true) (xs:=a) (by simp[cOf]) (λx _=>by simp[cOf,Tg.put,sigD,Ij,isWh])
 by_cases h:(a.length:Int)=n
 · simp[cOf,A8,h,q,bAll,W1 (λ_=>true) a]
 · simp[cOf,A8,h]
theorem Z3(n:Nat)(h:n<=1000):J5 [.int n]=some (L (o6 n)):=by
 unfold J5 Hc;have q:n4 1 [] (n9 (fN 0)) (Tg.one 0) fYes (fC (.int 0)) [.sh false (.int n)]=some (.nw,L (o6 n)):=by
  rw[o0 (e:=λ(k:Nat) => .int (0+(k:Int))) (h:=λ_ => .int 0) (xs:=List.range n) (by simp[cOf,n9,intD,X5,w8,show(n:Int)<=1000000 by rfl',show -1000000<=(n:Int) by rfl']) (λx _=>by simp[cOf,Tg.put])];simp[L,o6,w0v]
 simp[cOf,q]
theorem FL(a b:aG)(h:a.length=b.length):V7 [L a,L b]=some (L (addR a b)):=by
 unfold V7 NL;have q:n4 2 [] (iZip (fN 0) (fN 1)) (Tg.many [0,1]) fYes (fOp u4 (fN 0) (fN 1)) [.sh false (L a),.sh false (L b)]=some (.nw,L (addR a b)):=by
  rw[o0 (e:=λp:Int×Int => .tup [.int p.1,.int p.2]) (h:=λp => .int (p.1+p.2)) (xs:=a.zip b) (by simp[cOf,iZip,h,X9]) (λp _=>by simp[cOf,Tg.put,P6,sigD]),z1h]
 simp[cOf,q]
theorem JX(a b:aG)(h:a.length=b.length):BH [L a,L b]=some (L (subR a b)):=by
 unfold BH NM;have q:n4 2 [] (iZip (fN 0) (fN 1)) (Tg.many [0,1]) fYes (fOp HW (fN 0) (fN 1)) [.sh false (L a),.sh false (L b)]=some (.nw,L (subR a b)):=by
  rw[o0 (e:=λp:Int×Int => .tup [.int p.1,.int p.2]) (h:=λp => .int (p.1-p.2)) (xs:=a.zip b) (by simp[cOf,iZip,h,X9]) (λp _=>by simp[cOf,Tg.put,P6,sigD]),ZP]
 simp[cOf,q]
theorem J8(a:aG)(k:Int)(h:∀ x∈a,C9 k x=true):D9 [L a,.int k]=some (L (sclR k a)):=by
 unfold D9 JP;have q:n4 1 [1] (iSeq (fN 0)) (Tg.one 0) fYes (fOp C3 (fN 1) (fN 0)) [.sh false (L a),.sh false (.int k)]=some (.nw,L (sclR k a)):=by
  rw[o0 (e:=Dt.int) (h:=λx => .int (k*x)) (xs:=a) (by simp[cOf]) (λx hx=>by simp[cOf,Tg.put,sigD,El,h x hx])];simp[L,sclR]
 simp[cOf,q]
theorem NX(n:Nat)(h1:1<=n)(h2:n<=6):Am [.int n]=some (.bl true):=by
 unfold Am CB;have e:=Ij (.int n);simp[cOf,e,isWh,Jj,show(1:Int)<=n by rfl',show(n:Int)<=6 by rfl']
theorem Ll(n:Nat)(h1:1<=n)(h2:n<=6):V8 [.int n]=some .non:=by
 unfold V8 BJ;simp[cOf,NX n h1 h2]
theorem Rz(a:aG)(n:Nat)(hl:a.length=n)(h:∀ x∈a,x.natAbs<10 ^ 30):DN [L a,.int n]=some (.bl true):=by
 unfold DN Hf;have e:=DT a n;have p30:Ji 10 30=true:=by unfold Ji;decide
 have q:n4 1 [] (iSeq (fN 0)) (Tg.one 0) fYes (fOp opLt (fBlt bAbs (f8 (fN 0) fNil)) (fOp LB (fC (.int 10)) (fC (.int 30)))) [.sh false (L a),.sh false (.int n)]=some (.nw,.lst (a.map λ_ => .bl true)) :=
  o0 (e:=Dt.int) (h:=λ_ => .bl true) (xs:=a) (by simp[cOf]) (λx hx=>by
   have:=h x hx;have:(if x<0 then -x else x)<1000000000000000000000000000000:=by split<;>rfl'
   simp[cOf,Tg.put,sigD,bAbs,p30,this])
 simp[cOf,e,hl,q,bAll,W1 (λ_=>true) a]
theorem NY(a:aG)(n:Nat)(hl:a.length=n)(h:∀ x∈a,x.natAbs<10 ^ 30):P1 [L a,.int n]=some .non:=by
 unfold P1 CC;simp[cOf,Rz a n hl h]
theorem EL(k:Int)(rows:aA):W4 [.int k,LL rows]=some (j8 k rows):=by
 unfold W4 Hg;have q:n4 1 [] (iSeq (fN 1)) (Tg.one 0) fYes (fBlt bTup (f8 (fN 0) fNil)) [.sh false (.int k),.sh false (LL rows)]=some (.nw,.lst (rows.map T)) :=
  o0 (e:=L) (h:=T) (xs:=rows) (by simp[cOf]) (λx hx=>by simp[cOf,Tg.put,sigD,bTup,X8])
 simp[cOf,q,bTup,GP]
theorem RC(n:Nat)(bills:aA)(h1:1<=n)(h2:n<=6)(hm:bills.length<=8)(hw:Wide n bills)(hb:∀ r∈bills,∀ x∈r,x.natAbs<10 ^ 30):W5 [.int n,LL bills]=some (j8 n bills):=by
 unfold W5 Hi;obtain⟨j,q⟩:=DC (g:=Tg.one 2) (F:=Ad (i7 true P1 (f8 (fN 2) (f8 (fN 0) fNil)))) (e:=L) (R:=λ(_:Unit) (c:Cell)=>[.sh false (.int n),.sh false (LL bills),c]) (step:=λ_ _=>()) bills () .no
  (λb x j hx=>⟨.sh false (L x),by simp[cOf,Tg.put,NY x n (hw x hx) (hb x hx)]⟩)
 have q:forF (Tg.one 2) (Ad (i7 true P1 (f8 (fN 2) (f8 (fN 0) fNil)))) (bills.map L) [.sh false (.int n),.sh false (LL bills),.no]=some (.nx [.sh false (.int n),.sh false (LL bills),j]):=q;simp[cOf,Ll n h1 h2,show ¬(8<(bills.length:Int)) by rfl',q,EL]
theorem CQ(n:Nat)(bills:aA)(b:aG)(h:b.length=n):N5 [j8 n bills,L b]=some .non:=by
 have e:C5 [.int n,L b]=some .non:=by
  unfold C5 M9;simp[cOf,DT,h]
 unfold N5 AD;simp[cOf,atI,ixN,e]
theorem z04(n:Nat)(bills:aA)(h:n<=1000):FH [j8 n bills]=some (L (o6 n)):=by
 unfold FH JQ;simp[cOf,atI,ixN,Z3 n h]
theorem PL(n:Nat)(bills:aA)(a b:aG)(ha:a.length=n)(hb:b.length=n):DO [j8 n bills,L a,L b]=some (L (subR b a)):=by
 unfold DO NO;have e:=JX b a (by rw[ha,hb]);simp[cOf,CQ n bills a ha,CQ n bills b hb,e]
abbrev HF:FS:=sIf (o9 (fOp opNe (fN 2) (fC (.int 0)))) (sRet (fN 1)) v4
theorem Mf(c0:Cell):∀(r:aG) (j:Nat) (c1 c2:Cell),(St.f9 r<r.length->forF (Tg.many [1,2]) HF (V4 j (r.map .int)) [c0,c1,c2]=some (.rt .nw (.int ((j+St.f9 r:Nat):Int)))) /\
  (¬St.f9 r<r.length->∃ c1' c2',forF (Tg.many [1,2]) HF (V4 j (r.map .int)) [c0,c1,c2]=some (.nx [c0,c1',c2']))
 | [],j,c1,c2=>⟨λh=>by simp[St.f9]at h,λ_=>⟨c1,c2,rfl⟩⟩
 | x::r,j,c1,c2=>by
  obtain⟨i1,i2⟩:=Mf c0 r (j+1) (.sh false (.int j)) (.sh false (.int x));rw[wm,V4,E4];by_cases hx:x=0
  · have e:(Tg.put (Tg.many [1,2]) (.tup [.int j,.int x]) [c0,c1,c2]).bind HF=some (.nx [c0,.sh false (.int j),.sh false (.int x)]):=by simp[cOf,A8,hx]
    have eh:St.f9 (x::r)=St.f9 r+1:=by simp[St.f9,hx]
    rw[e,eh,wn];refine⟨λh=>?_,λh=>i2 (by rfl')⟩;have:=i1 (by rfl');rw[show j+(St.f9 r+1)=j+1+St.f9 r by rfl'];exact this
  · have e:(Tg.put (Tg.many [1,2]) (.tup [.int j,.int x]) [c0,c1,c2]).bind HF=some (.rt .nw (.int j)):=by simp[cOf,A8,hx]
    have eh:St.f9 (x::r)=0:=by simp[St.f9,hx]
    rw[e,eh,wn];exact⟨λ_=>rfl,λh=>absurd (Nat.succ_pos _) h⟩
theorem D6(r:aG):r9 [L r]=some (.int (St.f9 r)):=by
 unfold r9 He;obtain⟨h1,h2⟩:=Mf (.sh false (L r)) r 0 .no .no;have hl:=St.GR r;by_cases h:St.f9 r<r.length
 · have h1:=h1 h;simp only[vX]at h1;simp[cOf,h1]
 · obtain⟨c1,c2,h2⟩:=h2 h;simp[cOf,h2,show St.f9 r=r.length by rfl']
theorem JY{r:aG}{k:Nat}(h:k<r.length):atI (r.map Dt.int) (k:Int)=some (.int (St.at0 r k)):=by
 rw[Y0,z1i h];simp[St.at0,List.getD,wa h]
theorem z5F(a b:aG)(q:Int):subR a (sclR q b)=St.sub a q b:=by
 unfold subR sclR St.sub;rw[w0q]
theorem YE{r:aG}{x:Int}(h:x∈r):∃ k,St.at0 r k=x:=by
 obtain⟨k,hk,e⟩:=uV.mp h;exact⟨k,by simp[St.at0,List.getD,wa hk,e]⟩
theorem YF{x:Int}{m:Nat}(h:x.natAbs<2 ^ m):Builtin.Int.intBits x<=m:=Nz h
theorem J9{i j:Int}{m k:Nat}(h1:i.natAbs<2 ^ m)(h2:j.natAbs<2 ^ k)(h:m+k<=134217728):C9 i j=true:=by
 unfold C9;rw[decide_eq_true (show Builtin.Int.intBits i+Builtin.Int.intBits j<=134217728 from by have:=YF h1;have:=YF h2;rfl')];rfl
theorem Ba{i j:Int}(h0:0<j)(h:j<2 ^ 9000):P4 i j=true:=by
 unfold P4;rw[decide_eq_true (show j≠0 by rfl'),decide_eq_true (show j.natAbs.log2<9000 from ?_)]
 · rfl
 · rw[w18 (by rfl')];have:((2 ^ 9000:Nat):Int)=(2:Int) ^ 9000:=by norm_cast
   rfl'
abbrev LF:FS:=(sSeq (sSet [] 5 (i7 true r9 (f8 (fN 4) fNil)))
 (sSeq (sSet [] 6 (fOp AI (fAt (fN 2) (fN 5)) (fAt (fN 4) (fN 5))))
 (sSeq (sIf (o9 (fOp opNe (fN 6) (fC (.int 0)))) (sSet [] 2 (i7 true BH (f8 (fN 2) (f8 (i7 true D9 (f8 (fN 4) (f8 (fN 6) fNil))) fNil)))) v4)
 (sWr wApp 3 (fN 6)))))
theorem JZ{n m:Nat}(hm:2*m<=134217728)(c0 c1:Cell):∀(S:aA) (left:aG) (cs:aG) (c4 c5 c6:Cell),(∀ r∈S,r.length=n/\St.f9 r<n/\0<St.hd r/\St.hd r<2 ^ 9000)->left.length=n->St.LowB m left S->cs.length+S.length<=1000 ->
  ∃ c4' c5' c6',forF (Tg.one 4) LF (S.map L) [c0,c1,.sh true (L left),.ow true (cs.map .int),c4,c5,c6]=some (.nx [c0,c1,.sh true (L (St.n8 left S)),.ow true ((cs++St.JC left S).map .int),c4',c5',c6'])
 | [],left,cs,c4,c5,c6,_,_,_,_=>⟨c4,c5,c6,by simp[z1d,St.n8,St.JC]⟩
 | r::S,left,cs,c4,c5,c6,hr,hl,hb,hc=>by
  obtain⟨r1,r2,r3,r4⟩:=hr r we;have hs:(St.sub left (St.C1 left r) r).length=n:=by rw[St.N8 (by rfl')];exact hl
  obtain⟨d4,d5,d6,ih⟩:=JZ hm c0 c1 S (St.sub left (St.C1 left r) r) (cs++[St.C1 left r]) (.sh false (L r)) (.sh true (.int (St.f9 r))) (.sh true (.int (St.C1 left r))) (λx hx=>hr x (wc _ hx)) hs hb.2 (by simp at hc ⊢;rfl');refine⟨d4,d5,d6,?_⟩;rw[wm,E4];have a1:=JY (r:=left) (k:=St.f9 r) (by rfl');have a2:=JY (r:=r) (k:=St.f9 r) (by rfl');have dv:P4 (St.at0 left (St.f9 r)) (St.at0 r (St.f9 r))=true:=Ba r3 r4;have ef:(St.at0 left (St.f9 r)).fdiv (St.at0 r (St.f9 r))=St.C1 left r:=rfl;have hcs:cs.length<1000000:=by simp at hc;rfl'
  have e:(Tg.put (Tg.one 4) (L r) [c0,c1,.sh true (L left),.ow true (cs.map .int),c4,c5,c6]).bind LF=some (.nx [c0,c1,.sh true (L (St.sub left (St.C1 left r) r)),.ow true ((cs++[St.C1 left r]).map .int),.sh false (L r),.sh true (.int (St.f9 r)),.sh true (.int (St.C1 left r))]):=by
   refine(show LF [c0,c1,.sh true (L left),.ow true (cs.map .int),.sh false (L r),c5,c6]=_ from run (ρ':=[c0,c1,.sh true (L left),.ow true (cs.map .int),.sh false (L r),.sh true (.int (St.f9 r)),c6]) (by simp[cOf,D6]) (run (ρ':=[c0,c1,.sh true (L left),.ow true (cs.map .int),.sh false (L r),.sh true (.int (St.f9 r)),.sh true (.int (St.C1 left r))]) (by simp[cOf,a1,a2,dv,ef]) (run (ρ':=[c0,c1,.sh true (L (St.sub left (St.C1 left r) r)),.ow true (cs.map .int),.sh false (L r),.sh true (.int (St.f9 r)),.sh true (.int (St.C1 left r))]) ?_ (by simp[cOf,hcs]))));by_cases ho:St.C1 left r=0
   · have es:St.sub left (St.C1 left r) r=left:=by rw[ho];exact St.sub_zero (by rfl')
     rw[es];simp[cOf,ho,A8]
   · have mo:∀ x∈r,C9 (St.C1 left r) x=true:=λx hx=>by
      obtain⟨k,rfl⟩:=YE hx;rcases hb.1 with h|⟨h1,h2⟩
      · exact absurd h ho
      · exact J9 h1 (h2 k) (by rfl')
     have e1:=J8 r (St.C1 left r) mo;have e2:=JX left (sclR (St.C1 left r) r) (by rw[v9];rfl');rw[z5F]at e2;simp[cOf,ho,A8,e1,e2]
  rw[e];show forF (Tg.one 4) LF (S.map L) _=_;rw[ih,St.n8,St.JC];simp
def RowD(d:Dt)(v:aG):Prop:=d=L v\/d=T v
theorem PM{n m:Nat}(d:Dt)(v:aG)(S:aA)(hd:RowD d v)(hm:2*m<=134217728)(hr:∀ r∈S,r.length=n/\St.f9 r<n/\0<St.hd r/\St.hd r<2 ^ 9000)(hl:v.length=n)(hb:St.LowB m v S)(hc:S.length<=1000):
   BK [d,LL S]=some (.tup [L (St.JC v S),L (St.n8 v S)]):=by
 unfold BK EG;rcases hd with rfl|rfl
 · obtain⟨d4,d5,d6,q⟩:=JZ hm (.sh false (L v)) (.sh false (LL S)) S v [] .no .no .no hr hl hb (by simpa using hc);simp[cOf]at q ⊢;simp[q]
 · obtain⟨d4,d5,d6,q⟩:=JZ hm (.sh false (T v)) (.sh false (LL S)) S v [] .no .no .no hr hl hb (by simpa using hc);simp[cOf]at q ⊢;simp[q]
theorem Z4{n m:Nat}(d:Dt)(v:aG)(S:aA)(hd:RowD d v)(hm:2*m<=134217728)(hr:∀ r∈S,r.length=n/\St.f9 r<n/\0<St.hd r/\St.hd r<2 ^ 9000)(hl:v.length=n)(hb:St.LowB m v S)(hc:S.length<=1000):
  C0 [d,LL S]=some (L (St.n8 v S)):=by
 have e:=PM d v S hd hm hr hl hb hc;have hn:nrm (flOf false) d=(if d.flat then .nw else .sh,d):=rfl;unfold C0 Hk;rcases hd with rfl|rfl<;>simp[cOf,e,z1j]
theorem z05{i j:Int}(h0:j≠0)(h:j.natAbs<2 ^ 9000):P4 i j=true:=by
 unfold P4;rw[decide_eq_true h0,decide_eq_true (show j.natAbs.log2<9000 from(w18 (by rfl')).mpr h)];rfl
abbrev BC:FT:=o9 (fOp opNe (fAt (fN 3) (fC (.int 0))) (fC (.int 0)))
abbrev BF:FS:=(sSeq (sSet [] 4 (fOp AI (fAt (fN 2) (fC (.int 0))) (fAt (fN 3) (fC (.int 0)))))
 (sSeq (sSet [] 5 (n4 1 [2,4,3] (n9 (fC (.int 3))) (Tg.one 0) fYes (fOp HW (fAt (fN 1) (fN 0)) (fOp C3 (fN 2) (fAt (fN 3) (fN 0))))))
 (sSeq (sSet [] 2 (fN 3))
 (sSet [] 3 (fN 5)))))
theorem PN(c0 c1 c4 c5:Cell)(u0 u1 u2 l0 l1 l2:Int)(hl:l0≠0)(h:l0.natAbs<2 ^ 9000)(m0:C9 (u0.fdiv l0) l0=true)(m1:C9 (u0.fdiv l0) l1=true)(m2:C9 (u0.fdiv l0) l2=true):
  BF [c0,c1,.sh true (L [u0,u1,u2]),.sh true (L [l0,l1,l2]),c4,c5]=some (.nx [c0,c1,.sh true (L [l0,l1,l2]),.sh true (L [u0-u0.fdiv l0*l0,u1-u0.fdiv l0*l1,u2-u0.fdiv l0*l2]),.sh true (.int (u0.fdiv l0)),.sh true (L [u0-u0.fdiv l0*l0,u1-u0.fdiv l0*l1,u2-u0.fdiv l0*l2])]):=by
 have dv:=z05 (i:=u0) hl h;have q:n4 1 [2,4,3] (n9 (fC (.int 3))) (Tg.one 0) fYes (fOp HW (fAt (fN 1) (fN 0)) (fOp C3 (fN 2) (fAt (fN 3) (fN 0)))) [Cn c0,Cn c1,.sh true (L [u0,u1,u2]),.sh true (L [l0,l1,l2]),.sh true (.int (u0.fdiv l0)),Cn c5]=some (.nw,L [u0-u0.fdiv l0*l0,u1-u0.fdiv l0*l1,u2-u0.fdiv l0*l2]):=by
  rw[o0 (e:=λ(k:Nat) => .int (0+(k:Int))) (h:=λ(k:Nat) => .int ([u0,u1,u2].getD k 0-u0.fdiv l0*[l0,l1,l2].getD k 0)) (xs:=List.range 3) (by simp[cOf,show X5 3=true from BD (n:=3) (by decide),w8]) (λk hk=>by
   have hk:k<3:=wQ.mp hk;have a1:=L3 (xs:=[u0,u1,u2]) (i:=k) 0 hk;have a2:=L3 (xs:=[l0,l1,l2]) (i:=k) 0 hk;have mk:C9 (u0.fdiv l0) ([l0,l1,l2].getD k 0)=true:=by
    have:k=0\/k=1\/k=2:=by rfl'
    rcases this with rfl|rfl|rfl
    · exact m0
    · exact m1
    · exact m2
   generalize [u0,u1,u2].getD k 0=uk at *;generalize [l0,l1,l2].getD k 0=lk at *;generalize [u0,u1,u2]=us at *;generalize [l0,l1,l2]=ls at *;simp[cOf,Y0,a1,a2,mk])]
  rfl
 exact run (ρ':=[c0,c1,.sh true (L [u0,u1,u2]),.sh true (L [l0,l1,l2]),.sh true (.int (u0.fdiv l0)),c5]) (by simp[cOf,dv]) (run (ρ':=[c0,c1,.sh true (L [u0,u1,u2]),.sh true (L [l0,l1,l2]),.sh true (.int (u0.fdiv l0)),.sh true (L [u0-u0.fdiv l0*l0,u1-u0.fdiv l0*l1,u2-u0.fdiv l0*l2])]) (by simp[cOf,q]) (run (ρ':=[c0,c1,.sh true (L [l0,l1,l2]),.sh true (L [l0,l1,l2]),.sh true (.int (u0.fdiv l0)),.sh true (L [u0-u0.fdiv l0*l0,u1-u0.fdiv l0*l1,u2-u0.fdiv l0*l2])]) (by simp[cOf]) (by simp[cOf])))
theorem PP{a b:Int}{e:Nat}(he:e<=9000)(ha:a.natAbs<2 ^ e)(hb:b.natAbs<2 ^ e)(c0 c1:Cell):∀(k:Nat) (u0 u1 u2 l0 l1 l2:Int) (c4 c5:Cell),Br.BI a b u0 u1 u2 l0 l1 l2->l0.natAbs<=k ->
 ∃ v0 v1 v2 w1 w2 d4 d5,F0 BC BF (k+1) [c0,c1,.sh true (L [u0,u1,u2]),.sh true (L [l0,l1,l2]),c4,c5]=some (.nx [c0,c1,.sh true (L [v0,v1,v2]),.sh true (L [0,w1,w2]),d4,d5])/\Br.BI a b v0 v1 v2 0 w1 w2:=by
 intro k
 induction k using ug with
 | _ k IH =>
 intro u0 u1 u2 l0 l1 l2 c4 c5 B hk;have hc:BC [c0,c1,.sh true (L [u0,u1,u2]),.sh true (L [l0,l1,l2]),c4,c5]=some (!decide (l0=0)):=by simp[cOf,A8]
 rw[F0,hc,v5];by_cases hl:l0=0
 · subst hl;exact⟨u0,u1,u2,l1,l2,c4,c5,by simp,B⟩
 · have p3:2 ^ (e+3)=8*2 ^ e:=by rw[vp];rfl'
   obtain⟨z1,z2,z3,z4⟩:=Br.Yq u0 l0 hl;have c1':=B.c1;have c2':=B.c2;have b3:=B.b3;have b4:=B.b4;have hq:(u0.fdiv l0).natAbs<2 ^ (e+3):=by
    have:1*(u0.fdiv l0).natAbs<=l0.natAbs*(u0.fdiv l0).natAbs:=wy _ (by rfl');rw[uv l0.natAbs]at this;rfl'
   have h9:(2:Nat) ^ e<=2 ^ 9000:=wj (by decide) he;have st:=PN c0 c1 c4 c5 u0 u1 u2 l0 l1 l2 hl (by rfl') (J9 hq (show l0.natAbs<2 ^ (e+3) by rfl') (by rfl')) (J9 hq (show l1.natAbs<2 ^ (e+3) by rfl') (by rfl')) (J9 hq (show l2.natAbs<2 ^ (e+3) by rfl') (by rfl'));cases k with
   | zero=>rfl'
   | succ k =>
    obtain⟨v0,v1,v2,w1,w2,d4,d5,ih,B'⟩:=IH k (vy k) _ _ _ _ _ _ (.sh true (.int (u0.fdiv l0))) (.sh true (L [u0-u0.fdiv l0*l0,u1-u0.fdiv l0*l1,u2-u0.fdiv l0*l2])) (B.turn hl) (by rfl');refine⟨v0,v1,v2,w1,w2,d4,d5,?_,B'⟩;rw[st];simp only[hl,decide_false,w1n,if_true,v5];exact ih
theorem Mg(a b:Int)(e:Nat)(he:e<=9000)(ha:a.natAbs<2 ^ e)(hb:b.natAbs<2 ^ e):∃ x y,CD [.int a,.int b]=some (T [(ui a b:Int),x,y])/\a*x+b*y=ui a b/\x.natAbs<=a.natAbs+2*b.natAbs+1/\y.natAbs<=a.natAbs+2*b.natAbs+1:=by
 obtain⟨v0,v1,v2,w1,w2,d4,d5,lp,B⟩:=PP he ha hb (.sh false (.int a)) (.sh false (.int b)) b.natAbs a 1 0 b 0 1 .no .no (Br.BI.start a b) (wu _);have lp:=DA lp;have fin:=B.fin;have up:=B.up;have b1:=B.b1;have b2:=B.b2;have pre:∀{r:Option Oc},(sSeq (sIf (o9 (fOp opLt (fAt (fN 2) (fC (.int 0))) (fC (.int 0)))) (sSet [] 2 (n4 1 [] (iSeq (fN 2)) (Tg.one 0) fYes (fNeg (fN 0)))) v4) (sRet (fBlt bTup (f8 (fN 2) fNil)))) [.sh false (.int a),.sh false (.int b),.sh true (L [v0,v1,v2]),.sh true (L [0,w1,w2]),d4,d5]=r->JR (rho0 6 [.int a,.int b])=r:=λh=>run (ρ':=[.sh false (.int a),.sh false (.int b),.sh true (L [a,1,0]),.no,.no,.no]) (by simp[cOf,L]) (run (ρ':=[.sh false (.int a),.sh false (.int b),.sh true (L [a,1,0]),.sh true (L [b,0,1]),.no,.no]) (by simp[cOf,L]) (run lp h));have at0:atI ([v0,v1,v2].map Dt.int) 0=some (.int v0):=rfl;by_cases h0:v0<0
 · refine⟨-v1,-v2,?_,by rw[w1b,w1b];rfl',by rfl',by rfl'⟩;have q:n4 1 [] (iSeq (fN 2)) (Tg.one 0) fYes (fNeg (fN 0)) [.sh false (.int a),.sh false (.int b),.sh true (L [v0,v1,v2]),.sh true (L [0,w1,w2]),Cn d4,Cn d5]=some (.nw,L [-v0,-v1,-v2]):=by
    rw[o0 (e:=Dt.int) (h:=λx => .int (-x)) (xs:=[v0,v1,v2]) (by simp[cOf,L]) (λx hx=>by simp[cOf])];rfl
   have e0:(ui a b:Int) = -v0:=by rfl'
   rw[e0];refine V5 (f := .nw) rfl (pre (run (ρ':=[.sh false (.int a),.sh false (.int b),.sh true (L [-v0,-v1,-v2]),.sh true (L [0,w1,w2]),d4,d5]) ?_ (by simp[cOf,T]))) rfl;generalize [v0,v1,v2]=vs at *;simp[cOf,at0,h0,q]
 · refine⟨v1,v2,?_,by rfl',by rfl',by rfl'⟩;have e0:(ui a b:Int)=v0:=by rfl'
   rw[e0];refine V5 (f := .nw) rfl (pre (run (ρ':=[.sh false (.int a),.sh false (.int b),.sh true (L [v0,v1,v2]),.sh true (L [0,w1,w2]),d4,d5]) ?_ (by simp[cOf,T]))) rfl;generalize [v0,v1,v2]=vs at *;simp[cOf,at0,h0]
theorem z5G(a b:aG)(x y:Int):addR (sclR x a) (sclR y b)=St.lin x a y b:=by
 unfold addR sclR St.lin;rw[w16]
theorem z1A(a b:aG)(x y:Int):subR (sclR x a) (sclR y b)=St.lin x a (-y) b:=by
 unfold subR sclR St.lin;rw[w16];congr 1
 funext p q
 rw[uU];rfl'
theorem DU{q:Int}{r:aG}{m k:Nat}(h1:q.natAbs<2 ^ m)(h2:St.Lt (2 ^ k) r)(h:m+k<=134217728):∀ x∈r,C9 q x=true:=λx hx=>by
 obtain⟨i,rfl⟩:=YE hx;exact J9 h1 (h2 i) h
theorem RD{n e q:Nat}(r left:aG)(hr:r.length=n)(hl:left.length=n)(hh:St.f9 r<n)(hp:0<St.hd r)(h1:St.hd r<2 ^ e)(h2:0<=St.at0 left (St.f9 r))(h3:St.at0 left (St.f9 r)<St.hd r)(he:e<=8990)(s1:St.Lt (2 ^ q) r)(s2:St.Lt (2 ^ q) left)(hq:q<=100000000):
  ∃ g x y,W6 [L r,L left]=some (.tup [L (St.B5 r left x y),L (St.F9 r left g)])/\0<g/\g∣St.hd r/\g∣St.at0 left (St.f9 r)/\St.hd r*x+St.at0 left (St.f9 r)*y=g/\x.natAbs<2 ^ (e+2)/\y.natAbs<2 ^ (e+2):=by
 have cast:((2 ^ e:Nat):Int)=(2:Int) ^ e:=by norm_cast
 have a1:(St.hd r).natAbs<2 ^ e:=by rfl'
 have a2:(St.at0 left (St.f9 r)).natAbs<2 ^ e:=by rfl'
 obtain⟨x,y,eb,exy,bx,bY⟩:=Mg (St.hd r) (St.at0 left (St.f9 r)) e (by rfl') a1 a2;have g0:0<ui (St.hd r) (St.at0 left (St.f9 r)):=w01 _ (by rfl');have d1:(ui (St.hd r) (St.at0 left (St.f9 r)):Int)∣St.hd r:=w17 _ _;have d2:(ui (St.hd r) (St.at0 left (St.f9 r)):Int)∣St.at0 left (St.f9 r):=w0U _ _;generalize eg:(ui (St.hd r) (St.at0 left (St.f9 r)):Int)=g at *;have g0:0<g:=by rfl'
 have p2:2 ^ (e+2)=4*2 ^ e:=by rw[vp];rfl'
 have x1:x.natAbs<2 ^ (e+2):=by rfl'
 have y1:y.natAbs<2 ^ (e+2):=by rfl'
 refine⟨g,x,y,?_,g0,d1,d2,exy,x1,y1⟩;have gle:g<=St.hd r:=vR hp d1;have g9:g<2 ^ 9000:=by
  have h9:(2:Nat) ^ e<=2 ^ 9000:=wj (by decide) (by rfl');have:((2 ^ 9000:Nat):Int)=(2:Int) ^ 9000:=by norm_cast
  rfl'
 have dv1:P4 (St.hd r) g=true:=Ba g0 g9;have dv2:P4 (St.at0 left (St.f9 r)) g=true:=Ba g0 g9;have k1:((St.hd r).fdiv g).natAbs<2 ^ (e+2):=by have:=St.AR (St.hd r) g0;rfl'
 have k2:((St.at0 left (St.f9 r)).fdiv g).natAbs<2 ^ (e+2):=by have:=St.AR (St.at0 left (St.f9 r)) g0;rfl'
 have t1:=JY (r:=r) (k:=St.f9 r) (by rfl');have t2:=JY (r:=left) (k:=St.f9 r) (by rfl');have t1:atI (r.map Dt.int) (St.f9 r:Int)=some (.int (St.hd r)):=t1;have e1:=J8 r x (DU x1 s1 (by rfl'));have e2:=J8 left y (DU y1 s2 (by rfl'));have e3:=J8 left ((St.hd r).fdiv g) (DU k1 s2 (by rfl'));have e4:=J8 r ((St.at0 left (St.f9 r)).fdiv g) (DU k2 s1 (by rfl'));have e5:=FL (sclR x r) (sclR y left) (by rw[v9,v9];rfl');have e6:=JX (sclR ((St.hd r).fdiv g) left) (sclR ((St.at0 left (St.f9 r)).fdiv g) r) (by rw[v9,v9];rfl');rw[z5G]at e5;rw[z1A]at e6;have hT:T [g,x,y] = .tup [.int g,.int x,.int y]:=rfl;have nT:∀ f,nrm f (.tup [.int g,.int x,.int y])=(.nw,.tup [.int g,.int x,.int y]):=λf=>nrm_T f [g,x,y];rw[hT]at eb;unfold W6 Hl;have eL:St.F9 r left g=St.lin ((St.hd r).fdiv g) left (-((St.at0 left (St.f9 r)).fdiv g)) r:=rfl;simp[cOf,D6,t1,t2,eb,nT,dv1,dv2,e1,e2,e3,e4,e5,e6,St.B5,eL]
theorem NZ{n q:Nat}(left:aG)(hl:left.length=n)(hh:St.f9 left<n):F7 [L left]=some (L (if St.at0 left (St.f9 left)<0 then sclR (-1) left else left)):=by
 have t2:=JY (r:=left) (k:=St.f9 left) (by rfl');have e1:=J8 left (-1) (λx _=>P7 (by decide));unfold F7 CH;by_cases h:St.at0 left (St.f9 left)<0
 · simp[cOf,D6,t2,h,e1]
 · simp[cOf,D6,t2,h,AN]
def N2(S:aA):aA:=(U3 (S.map λr=>((St.f9 r:Int),r))).map (·.2)
theorem FM(S:aA):(N2 S).Perm S:=by
 have:=(O0 (S.map λr=>((St.f9 r:Int),r))).map (·.2);rw[wV]at this;have e:S.map ((λx:Int×aG=>x.2)∘λr=>((St.f9 r:Int),r))=S:=by
  have:((λx:Int×aG=>x.2)∘λr:aG=>((St.f9 r:Int),r))=id:=rfl;rw[this,List.map_id]
 rw[e]at this;exact this
theorem Kb(S:aA)(hn:(S.map St.f9).Nodup):((N2 S).map St.f9).Pairwise (·<·):=by
 have h1:((N2 S).map St.f9).Pairwise (·<=·):=by
  have q:=BA (S.map λr=>((St.f9 r:Int),r));have mem:∀ p∈U3 (S.map λr=>((St.f9 r:Int),r)),p.1=(St.f9 p.2:Int):=λp hp=>by
   obtain⟨r,_,rfl⟩:=wg.mp ((O0 _).mem_iff.mp hp);rfl
  unfold N2;rw[wV,uj];refine List.Pairwise.imp_of_mem (λ{a b} ha hb hab=>?_) q;have e1:=mem a ha;have e2:=mem b hb;show St.f9 a.2<=St.f9 b.2;have hab:a.1<=b.1:=hab;rfl'
 have h2:((N2 S).map St.f9).Nodup:=((FM S).map St.f9).nodup_iff.mpr hn;exact(List.pairwise_and_iff.mpr ⟨h1,h2⟩).imp λ{a b} ⟨p,q⟩=>by rfl'
theorem Kc:∀ S:aA,R5 r9 (S.map L)=some (S.map λr=>(St.f9 r:Int))
 | []=>rfl
 | r::S=>by rw[wm,R5,D6,Kc S];rfl
theorem z06(S:aA):(U3 ((S.map λr=>(St.f9 r:Int)).zip (S.map L))).map (·.2)=(N2 S).map L:=by
 have e:(S.map λr=>(St.f9 r:Int)).zip (S.map L)=(S.map λr=>((St.f9 r:Int),r)).map λq=>(q.1,L q.2):=by
  rw[List.zip_map,wV];have:S.zip S=S.map λr=>(r,r):=by
   induction S with
   | nil=>rfl
   | cons r S ih=>rw[ue,ih];rfl
  rw[this,wV];rfl
 rw[e,DB];unfold N2;rw[wV,wV];rfl
def G7:Nat->aA->List (Nat×aG)
 | _,[]=>[]
 | j,r::S=>(j,r)::G7 (j+1) S
theorem Bb:∀(j:Nat) (S:aA),V4 j (S.map L)=(G7 j S).map λp => .tup [.int p.1,L p.2]
 | j,[]=>rfl
 | j,r::S=>by rw[wm,V4,G7,wm,Bb (j+1) S]
theorem EM(h:Nat):∀(j:Nat) (S:aA),(∀ r∈S,St.f9 r≠h)->(G7 j S).filter (λp=>decide (St.f9 p.2=h))=[]
 | j,[],_=>rfl
 | j,r::S,q=>by
  rw[G7,vT,EM h (j+1) S λx hx=>q x (wc _ hx)];simp[q r we]
theorem Mh(h:Nat):∀(j:Nat) (S1:aA) (r:aG) (S2:aA),St.f9 r=h->((S1++r::S2).map St.f9).Pairwise (·<·)->(G7 j (S1++r::S2)).filter (λp=>decide (St.f9 p.2=h))=[(j+S1.length,r)]
 | j,[],r,S2,hr,pw=>by
  rw[w0t]at pw ⊢;rw[wm,vg]at pw;rw[G7,vT,EM h (j+1) S2 λx hx=>by have:=pw.1 _ (wg.mpr ⟨x,hx,rfl⟩);rfl'];simp[hr]
 | j,x::S1,r,S2,hr,pw=>by
  rw[uS]at pw ⊢;rw[wm,vg]at pw;have hx:=pw.1 (St.f9 r) (wg.mpr ⟨r,by simp,rfl⟩);rw[G7,vT,Mh h (j+1) S1 r S2 hr pw.2];simp[show St.f9 x≠h by rfl'];rfl'
theorem Mi(S:aA)(left:aG)(c0 c1 c4 c5:Cell)(f:Bool):n4 2 [3] (X7 (fN 2)) (Tg.many [0,1]) (o9 (fOp opEq (i7 true r9 (f8 (fN 1) fNil)) (i7 true r9 (f8 (fN 2) fNil)))) (fN 0) [c0,c1,.ow f (S.map L),.sh true (L left),c4,c5] =
   some (.nw,.lst (((G7 0 S).filter λp=>decide (St.f9 p.2=St.f9 left)).map λp => .int (p.1:Int))):=by
 refine Fn (e:=λp:Nat×aG => .tup [.int p.1,L p.2]) (h:=λp => .int (p.1:Int)) (p:=λp=>decide (St.f9 p.2=St.f9 left)) (xs:=G7 0 S) ?_ (λx hx=>?_) (λx hx _=>?_)
 · cases f<;>simp[cOf,Bb]
 · simp[cOf,D6,v8];rfl'
 · simp[cOf]
abbrev WC:FT:=o9 (fOp opLt (i7 true r9 (f8 (fN 3) fNil)) (fBlt bLen (f8 (fN 3) fNil)))
abbrev WF:FS:=(sSeq (U1 4 (n4 2 [3] (X7 (fN 2)) (Tg.many [0,1]) (o9 (fOp opEq (i7 true r9 (f8 (fN 1) fNil)) (i7 true r9 (f8 (fN 2) fNil)))) (fN 0)))
 (sSeq (sIf (o9 (fOp opEq (fBlt bLen (f8 (fN 4) fNil)) (fC (.int 0)))) (sRet (Ez r9 (fOp u4 (fN 2) (fLst (f8 (i7 true F7 (f8 (fN 3) fNil)) fNil))))) v4)
 (sSeq (U1 5 (i7 true W6 (f8 (fAt (fN 2) (fAt (fN 4) (fC (.int 0)))) (f8 (fN 3) fNil))))
 (sSeq (sPut 2 (fAt (fN 4) (fC (.int 0))) (fAt (fN 5) (fC (.int 0))))
 (U1 3 (i7 true C0 (f8 (fAt (fN 5) (fC (.int 1))) (f8 (fN 2) fNil))))))))
theorem z1B(S:aA)(t:aG)(h:S.length<60):u4 (.lst (S.map L)) (.lst [L t])=some (newL ((S++[t]).map L)):=by
 have:u4 (.lst (S.map L)) (.lst [L t])=Cj (.lst (S.map L)) (.lst [L t]):=rfl;rw[this,Cj,if_pos (by simp;rfl')];simp
theorem z1C(S:aA)(left t:aG)(c0 c1 c4 c5:Cell)(f:Bool)(hn:∀ r∈S,St.f9 r≠St.f9 left)(ht:F7 [L left]=some (L t))(hh:((S++[t]).map St.f9).Nodup)(h60:S.length<60):
  ∃ fl,WF [c0,c1,.ow f (S.map L),.sh true (L left),c4,c5]=some (.rt fl (LL (N2 (S++[t])))):=by
 have pl:=Mi S left c0 c1 c4 c5 f;rw[EM _ 0 S hn]at pl;have st:Ez r9 (fOp u4 (fN 2) (fLst (f8 (i7 true F7 (f8 (fN 3) fNil)) fNil))) [c0,c1,.ow f (S.map L),.sh true (L left),.sh true (.lst []),c5]=some (newL ((N2 (S++[t])).map L)):=by
  have e1:fOp u4 (fN 2) (fLst (f8 (i7 true F7 (f8 (fN 3) fNil)) fNil)) [c0,c1,.ow f (S.map L),.sh true (L left),.sh true (.lst []),c5]=some (newL ((S++[t]).map L)):=by
   have:=z1B S t h60;simp[cOf,ht,this]
  unfold Ez;rw[e1];have k1:=Kc (S++[t]);have nd:((S++[t]).map λr=>(St.f9 r:Int)).Nodup:=by
   have:((S++[t]).map λr=>(St.f9 r:Int))=((S++[t]).map St.f9).map (λn:Nat=>(n:Int)):=by rw[wV];rfl
   rw[this];exact List.Pairwise.map _ (λa b hab e=>hab (by rfl')) hh
  show(R5 r9 ((S++[t]).map L)).bind _=_;rw[k1,v5,if_pos ⟨by simp;rfl',nd⟩,z06]
 refine⟨lfl ((N2 (S++[t])).map L),?_⟩;have e1:U1 4 (n4 2 [3] (X7 (fN 2)) (Tg.many [0,1]) (o9 (fOp opEq (i7 true r9 (f8 (fN 1) fNil)) (i7 true r9 (f8 (fN 2) fNil)))) (fN 0)) [c0,c1,.ow f (S.map L),.sh true (L left),c4,c5]=some (.nx [c0,c1,.ow f (S.map L),.sh true (L left),.sh true (.lst []),c5]):=by
  unfold U1;rw[pl];rfl
 refine run e1 ?_;have e2:sIf (o9 (fOp opEq (fBlt bLen (f8 (fN 4) fNil)) (fC (.int 0)))) (sRet (Ez r9 (fOp u4 (fN 2) (fLst (f8 (i7 true F7 (f8 (fN 3) fNil)) fNil))))) v4 [c0,c1,.ow f (S.map L),.sh true (L left),.sh true (.lst []),c5]=some (.rt (lfl ((N2 (S++[t])).map L)) (LL (N2 (S++[t])))):=by
  have c:o9 (fOp opEq (fBlt bLen (f8 (fN 4) fNil)) (fC (.int 0))) [c0,c1,.ow f (S.map L),.sh true (L left),.sh true (.lst []),c5]=some true:=by simp[cOf,v8]
  unfold sIf;rw[c,v5,if_pos rfl,sRet,st];rfl
 unfold sSeq;rw[e2];rfl
theorem RE(S1 S2:aA)(r left up lo:aG)(c0 c1 c4 c5:Cell)(f:Bool)(hh:St.f9 r=St.f9 left)(pw:((S1++r::S2).map St.f9).Pairwise (·<·))(hc:W6 [L r,L left]=some (.tup [L up,L lo]))(res:aG)(hl:C0 [L lo,LL (S1++up::S2)]=some (L res)):
   ∃ d4 d5,WF [c0,c1,.ow f ((S1++r::S2).map L),.sh true (L left),c4,c5]=some (.nx [c0,c1,.ow f ((S1++up::S2).map L),.sh true (L res),d4,d5]):=by
 have pl:=Mi (S1++r::S2) left c0 c1 c4 c5 f;rw[Mh _ 0 S1 r S2 hh pw]at pl;have pl:n4 2 [3] (X7 (fN 2)) (Tg.many [0,1]) (o9 (fOp opEq (i7 true r9 (f8 (fN 1) fNil)) (i7 true r9 (f8 (fN 2) fNil)))) (fN 0) [c0,c1,.ow f ((S1++r::S2).map L),.sh true (L left),c4,c5]=some (.nw,.lst [.int (S1.length:Int)]):=by rw[pl];simp
 refine⟨.sh true (.lst [.int (S1.length:Int)]),.sh true (.tup [L up,L lo]),?_⟩;have at1:atI ((S1++r::S2).map L) (S1.length:Int)=some (L r):=Bn (by simp);have ix:ixN ((S1++r::S2).map L).length (S1.length:Int)=some S1.length:=by
   unfold ixN;rw[if_pos (by rfl'),if_pos (by simp;rfl')];simp
 have set1:((S1++r::S2).map L).set S1.length (L up)=(S1++up::S2).map L:=by
   rw[vm,vm,List.set_append];simp
 have hl:C0 [L lo,.lst ((S1++up::S2).map L)]=some (L res):=hl;generalize (S1++r::S2).map L=D at *;generalize (S1++up::S2).map L=D' at *;have e1:U1 4 (n4 2 [3] (X7 (fN 2)) (Tg.many [0,1]) (o9 (fOp opEq (i7 true r9 (f8 (fN 1) fNil)) (i7 true r9 (f8 (fN 2) fNil)))) (fN 0)) [c0,c1,.ow f D,.sh true (L left),c4,c5]=some (.nx [c0,c1,.ow f D,.sh true (L left),.sh true (.lst [.int (S1.length:Int)]),c5]):=by
   unfold U1;rw[pl];rfl
 refine run e1 (run (ρ':=[c0,c1,.ow f D,.sh true (L left),.sh true (.lst [.int (S1.length:Int)]),c5]) ?_ (run (ρ':=[c0,c1,.ow f D,.sh true (L left),.sh true (.lst [.int (S1.length:Int)]),.sh true (.tup [L up,L lo])]) ?_ (run (ρ':=[c0,c1,.ow f D',.sh true (L left),.sh true (.lst [.int (S1.length:Int)]),.sh true (.tup [L up,L lo])]) ?_ ?_)))
 · simp[cOf,v8]
 · simp[cOf,at1,hc]
 · simp[cOf,ix,set1]
 · simp[cOf,hl]
theorem z07(S:aA)(h:Nat):(∀ r∈S,St.f9 r≠h)\/∃ S1 r S2,S=S1++r::S2/\St.f9 r=h:=by
 by_cases q:∃ r∈S,St.f9 r=h
 · obtain⟨r,hr,e⟩:=q;obtain⟨S1,S2,rfl⟩:=w0J hr;exact .inr ⟨S1,r,S2,rfl,e⟩
 · exact .inl λr hr e=>q ⟨r,hr,e⟩
theorem FN{n e:Nat}{S:aA}(A:St.Asc n 0 S)(hd:∀ r∈S,St.hd r<2 ^ e)(he:e<=8990):∀ r∈S,r.length=n/\St.f9 r<n/\0<St.hd r/\St.hd r<2 ^ 9000:=λr hr=>by
 have q:=A.mem hr;refine⟨q.1,q.2.2.1,q.2.2.2,?_⟩;have h1:=hd r hr;have h9:(2:Nat) ^ e<=2 ^ 9000:=wj (by decide) (by rfl');have c1:((2 ^ 9000:Nat):Int)=(2:Int) ^ 9000:=by norm_cast
 have c2:((2 ^ e:Nat):Int)=(2:Int) ^ e:=by norm_cast
 rfl'
structure Sz(n e eh m0 kk:Nat):Prop where
 n20:n<=20
 e90:eh<=8990
 ehe:eh<=e
 e33:e<=33000
 m0e:m0=e+20*(e+1)
 kke:kk=2*e+3+20*(e+1)
theorem Sz.lim{n e eh m0 kk:Nat}(z:Sz n e eh m0 kk):m0+n*kk<=16000000:=by
 have h1:=z.n20;have h2:=z.e33;have h3:=z.m0e;have h4:=z.kke;have:n*kk<=20*kk:=wy _ h1;rfl'
theorem z5H{n e eh m0 kk:Nat}(z:Sz n e eh m0 kk)(S0:aA)(v:aG)(h20:S0.length<=20)(c0 c1:Cell)(f:Bool):∀(k:Nat) (S:aA) (left:aG) (c4 c5:Cell),St.Wi n e eh m0 kk S0 v S left->n-St.f9 left<=k ->
 (∃ S' left' c4' c5',F0 WC WF (k+1) [c0,c1,.ow f (S.map L),.sh true (L left),c4,c5]=some (.nx [c0,c1,.ow f (S'.map L),.sh true (L left'),c4',c5'])/\St.Post n (e+3+(m0+n*kk)) S0 v S') \/
 (∃ S' fl,F0 WC WF (k+1) [c0,c1,.ow f (S.map L),.sh true (L left),c4,c5]=some (.rt fl (LL S'))/\St.Post n (e+3+(m0+n*kk)) S0 v S'):=by
 intro k
 induction k using ug with
 | _ k IH =>
 intro S left c4 c5 I hk;have lim:=z.lim;have hlen:S.length=S0.length:=by have:=congrArg List.length I.heads;simpa using this
 have hc:WC [c0,c1,.ow f (S.map L),.sh true (L left),c4,c5]=some (decide (St.f9 left<n)):=by
   have:(decide ((St.f9 left:Int)<(left.length:Int)))=decide (St.f9 left<n):=by
     have:=I.len;by_cases h:St.f9 left<n
     · rw[decide_eq_true h,decide_eq_true (by rfl')]
     · rw[decide_eq_false h,decide_eq_false (by rfl')]
   simp[cOf,D6,this];have:=I.len;rfl'
 rw[F0,hc,v5];by_cases hn:St.f9 left<n
 · rw[decide_eq_true hn,if_pos rfl];rcases z07 S (St.f9 left)with no|⟨S1,r,S2,rfl,hr⟩
   · right;have ht:=NZ (n:=n) (q:=0) left I.len hn;generalize et:(if St.at0 left (St.f9 left)<0 then sclR (-1) left else left)=t at ht;have hne:St.at0 left (St.f9 left)≠0:=St.Cr left (by rw[I.len];exact hn)
     have tc:∃ c:Int,(c=1∨c = -1)∧(∀ k,St.at0 t k=c*St.at0 left k)∧0<St.at0 t (St.f9 left)∧t.length=n:=by
       by_cases h:St.at0 left (St.f9 left)<0
       · rw[if_pos h]at et;subst et;have e1:∀ k,St.at0 (sclR (-1) left) k = -1*St.at0 left k:=λk=>by
          simp only[St.at0,sclR,List.getD,wF];cases left[k]?<;>simp
         exact⟨-1,.inr rfl,e1,by rw[e1];rfl',by rw[v9];exact I.len⟩
       · rw[if_neg h]at et;subst et;exact⟨1,.inl rfl,λk=>by rfl',by rfl',I.len⟩
     obtain⟨c,hc1,hc2,hc3,hc4⟩:=tc;have th:St.f9 t=St.f9 left:=St.O9 _ _ (λk hk=>by rw[hc2,St.u6 left k hk];simp) (by rfl');have nd:((S++[t]).map St.f9).Nodup:=by
       rw[vm,w0R];refine⟨(St.Asc.iff.mp I.asc).2.imp λ{a b} h=>by rfl',by simp,λa ha b hb=>?_⟩;obtain⟨x,hx,rfl⟩:=wg.mp ha;have:=no x hx;have hb:b=St.f9 t:=by simpa using hb
       rfl'
     obtain⟨fl,ew⟩:=z1C S left t c0 c1 c4 c5 f no ht nd (by rfl');refine⟨N2 (S++[t]),fl,by rw[ew];rfl,?_⟩;refine I.new hn no hc4 c hc1 hc2 hc3 ?_ (Kb _ nd);exact(FM _).trans (List.perm_append_comm)
   · have hm:r∈S1++r::S2:=by simp
     have q:=I.asc.mem hm;have hcast:((2 ^ e:Nat):Int)=(2:Int) ^ e:=by norm_cast
     have hle:m0+St.f9 left*kk<=m0+n*kk:=by have:=wy kk (vw hn);rfl'
     obtain⟨g,x,y,ec,hg,ga,gb,hxy,hx,hy⟩:=RD (n:=n) (e:=eh) (q:=e+3+(m0+St.f9 left*kk)) r left q.1 I.len q.2.2.1 q.2.2.2 (I.hds r hm) (I.low r hm).1 (I.low r hm).2 z.e90 (I.all r hm) (I.size.mono (wj (by decide) (by rfl'))) (by have:=z.e33;rfl');have hl2:S1.length+S2.length+1<=20:=by simp at hlen;rfl'
     obtain⟨I',hlt,lb,hds'⟩:=I.step hr hn hg ga gb hxy (wB hx (wj (by decide) (by have:=z.ehe;rfl'))) (wB hy (wj (by decide) (by have:=z.ehe;rfl'))) (by have:=z.m0e;rfl') (by
       have:=z.kke;have:(S1.length+S2.length+1)*(e+1)<=20*(e+1):=wy _ hl2;rfl')
     have el:=Z4 (n:=n) (m:=m0+n*kk) (L (St.F9 r left g)) (St.F9 r left g) (S1++St.B5 r left x y::S2) (.inl rfl) (by rfl') (FN I'.asc hds' z.e90) (by
       unfold St.F9;rw[St.IM (by rw[I.len,q.1])];exact I.len) lb (by simp;rfl')
     obtain⟨d4,d5,ew⟩:=RE S1 S2 r left _ _ c0 c1 c4 c5 f hr (St.Asc.iff.mp I.asc).2 ec _ el;cases k with
     | zero=>rfl'
     | succ k =>
       rcases IH k (vy k) _ _ d4 d5 I' (by rfl') with⟨S',l',d4',d5',h1,h2⟩|⟨S',fl,h1,h2⟩
       · exact .inl ⟨S',l',d4',d5',by rw[ew];exact h1,h2⟩
       · exact .inr ⟨S',fl,by rw[ew];exact h1,h2⟩
 · rw[decide_eq_false hn];exact .inl ⟨S,left,c4,c5,rfl,I.done hn⟩
theorem PQ{n e eh m0 kk:Nat}(z:Sz n e eh m0 kk)(S:aA)(d:Dt)(v:aG)(hd:RowD d v)(A:St.Asc n 0 S)(hv:v.length=n)(h0:∀ r∈S,St.Lt (2 ^ e) r)(hh:∀ r∈S,St.hd r<2 ^ eh)(hs:St.Lt (2 ^ e) v)(h20:S.length<=20):
   ∃ S',S3 [LL S,d]=some (LL S')/\St.Post n (e+3+(m0+n*kk)) S v S':=by
 have lim:=z.lim;have hm0:=z.m0e;have hml:e+S.length*(e+1)<=m0:=by have:S.length*(e+1)<=20*(e+1):=wy _ h20;rfl'
 obtain⟨I,lb⟩:=St.Wi.start (n:=n) (e:=e) (eh:=eh) (s:=e) (m0:=m0) (kk:=kk) A hv h0 hh hs hml (by rfl');have el:=Z4 (n:=n) (m:=m0) d v S hd (by rfl') (FN A I.hds z.e90) hv lb (by rfl');have el:C0 [d,.lst (S.map L)]=some (L (St.n8 v S)):=el;have fl:∃ f:Bool,∀ d0:Dt,sOwn 2 (fBlt bLst (f8 (fN 0) fNil)) [.sh false (LL S),.sh false d0,.no,.no,.no,.no]=some (.nx [.sh false (LL S),.sh false d0,.ow f (S.map L),.no,.no,.no]):=by
   cases S with
   | nil=>exact⟨true,λd0=>by simp[cOf]⟩
   | cons r S=>exact⟨false,λd0=>by simp[cOf,newL,lfl]⟩
 obtain⟨f,hf⟩:=fl;have hb:∀ o,AA WC WF [.sh false (LL S),.sh false d,.ow f (S.map L),.sh true (L (St.n8 v S)),.no,.no]=some o->(∃ S' fl,seqO (sRet (fN 2)) o=some (.rt fl (LL S'))/\St.Post n (e+3+(m0+n*kk)) S v S')->∃ S',S3 [LL S,d]=some (LL S')/\St.Post n (e+3+(m0+n*kk)) S v S':=by
   rintro o ho ⟨S',fl,h1,h2⟩;refine⟨S',?_,h2⟩;have e2:U1 3 (i7 true C0 (f8 (fN 1) (f8 (fN 2) fNil))) [.sh false (LL S),.sh false d,.ow f (S.map L),.no,.no,.no]=some (.nx [.sh false (LL S),.sh false d,.ow f (S.map L),.sh true (L (St.n8 v S)),.no,.no]):=by
    rcases hd with rfl|rfl<;>simp[cOf,el]
   have q:Y7 [.sh false (LL S),.sh false d,.no,.no,.no,.no]=some (.rt fl (LL S')):=by
    unfold Y7;refine run (hf d) (run e2 ?_);show(AA WC WF _).bind (seqO (sRet (fN 2)))=_;rw[ho];exact h1
   unfold S3 cOf;rw[if_pos (show[LL S,d].length=2 from rfl)];show(Y7 [.sh false (LL S),.sh false d,.no,.no,.no,.no]).bind _=_;rw[q];rfl
 rcases z5H z S v h20 (.sh false (LL S)) (.sh false d) f (n-St.f9 (St.n8 v S)) S (St.n8 v S) .no .no I (wu _) with⟨S',l',d4',d5',h1,h2⟩|⟨S',fl,h1,h2⟩
 · exact hb _ (DA h1) ⟨S',flOf f,rfl,h2⟩
 · exact hb _ (DA h1) ⟨S',fl,rfl,h2⟩
theorem Ik:∀(A T:aA),∃ A',St.even (A++T)=A'++St.even T
 | [],T=>⟨[],rfl⟩
 | r::A,T=>by
  obtain⟨A',e⟩:=Ik A T;exact⟨St.n8 r (St.even (A++T))::A',by rw[uS,St.even,e];rfl⟩
theorem Kd{n:Nat}:∀{f:Nat} {A T:aA},St.Asc n f (A++T)->St.Asc n 0 T
 | f,[],T,h=>h.weak (wK _)
 | f,r::A,T,h=>Kd (A:=A) h.2.2.2.2
abbrev EF:FS:=sWrA Js 1 (i7 true C0 (f8 (fN 2) (f8 (fN 1) fNil)))
theorem YG{n e eh u:Nat}(he:eh<=8990)(he3:e<=33000)(hu:u<=17000000)(c0:Cell)(S:aA)(A:St.Asc n 0 S)(hs:∀ r∈S,St.Lt (2 ^ u) r)(hE:∀ r∈St.even S,St.Lt (2 ^ e) r)(hH:∀ r∈St.even S,St.hd r<2 ^ eh)(h20:S.length<=21)(heu:e<=u):
  ∀(R T:aA) (c2:Cell),S=R.reverse++T->∃ c2',forF (Tg.one 2) EF (R.map L) [c0,.ow true ((St.even T).map L),c2]=some (.nx [c0,.ow true ((St.even S).map L),c2'])
 | [],T,c2,h=>⟨c2,by rw[h];rfl⟩
 | r::R,T,c2,h=>by
  have h':S=R.reverse++(r::T):=by rw[h];simp
  obtain⟨c2',ih⟩:=YG he he3 hu c0 S A hs hE hH h20 heu R (r::T) (.sh false (L r)) h';refine⟨c2',?_⟩;rw[wm,E4];have hlen:T.length+1<=21:=by have:=congrArg List.length h';simp at this;rfl'
  have rm:r∈S:=by rw[h'];simp
  have AT:St.Asc n 0 T:=Kd (A:=R.reverse++[r]) (by rw[vW];show St.Asc n 0 (R.reverse++(r::T));rw[←h'];exact A);have AE:=(St.W3 AT).1;obtain⟨A',ea⟩:=Ik (R.reverse++[r]) T;have sub:∀ x∈St.even T,x∈St.even S:=λx hx=>by
   rw[h',show R.reverse++(r::T)=(R.reverse++[r])++T by simp,ea];exact wo.mpr (.inr hx)
  have hE':∀ x∈St.even T,St.Lt (2 ^ e) x:=λx hx=>hE x (sub x hx);have hel:(St.even T).length<=20:=by rw[St.Y2];rfl'
  have hmul:(St.even T).length*(e+1)<=20*(e+1):=wy _ hel;obtain⟨_,lb⟩:=St.P0 (n:=n) (t:=0) (s:=u) (e:=e) (m:=u+20*(e+1)) (S:=St.even T) (left:=r) (λx hx=>⟨(AE.mem hx).1,(AE.mem hx).2.2.2⟩) (A.mem rm).1 (λk hk=>by rfl') (λx hx _=>hE' x hx) (hs r rm) (by rfl') (by rfl');have el:=Z4 (n:=n) (m:=u+20*(e+1)) (L r) r (St.even T) (.inl rfl) (by rfl') (FN AE (λx hx=>hH x (sub x hx)) he) (A.mem rm).1 lb (by rfl');have el:C0 [L r,.lst ((St.even T).map L)]=some (L (St.n8 r (St.even T))):=el;have e1:(Tg.put (Tg.one 2) (L r) [c0,.ow true ((St.even T).map L),c2]).bind EF=some (.nx [c0,.ow true (L (St.n8 r (St.even T))::(St.even T).map L),.sh false (L r)]):=by
   simp[cOf,el,show(St.even T).length<1000000 by rfl']
  rw[e1];exact ih
theorem z08{n e eh u:Nat}(S:aA)(he:eh<=8990)(he3:e<=33000)(hu:u<=17000000)(A:St.Asc n 0 S)(hs:∀ r∈S,St.Lt (2 ^ u) r)(hE:∀ r∈St.even S,St.Lt (2 ^ e) r)(hH:∀ r∈St.even S,St.hd r<2 ^ eh)(h20:S.length<=21)(heu:e<=u):CI [LL S]=some (LL (St.even S)):=by
 obtain⟨c2,q⟩:=YG he he3 hu (.sh false (LL S)) S A hs hE hH h20 heu S.reverse [] .no (by simp);have q:forF (Tg.one 2) EF (S.map L).reverse [.sh false (LL S),.ow true [],.no]=some (.nx [.sh false (LL S),.ow true ((St.even S).map L),c2]):=by rw[←List.map_reverse];exact q
 unfold CI JS;simp[cOf,q]
abbrev CF:FS:=sSet [] 1 (i7 true CI (f8 (i7 false S3 (f8 (fN 1) (f8 (fN 2) fNil))) fNil))
theorem Kf{n e eh B:Nat}(ed:aG->Dt)(hed:∀ r,RowD (ed r) r)(hn:n<=20)(he:eh<=8990)(hee:eh<=e)(he3:e<=33000)(all:aA)(hl:∀ r∈all,r.length=n)(hb:∀ r∈all,St.Lt B r)(hB:0<B)(hBe:B<=2 ^ e)(hbn:∀ k,k<=all.length->St.bnd k B+1<=2 ^ e)(hH:∀ k S,k<=all.length->St.Good n B (all.take k) S->∀ r∈S,St.hd r<2 ^ eh)(h20:all.length<=20)(c0:Cell):
  ∀(todo done:aA) (S:aA) (c2:Cell),all=done++todo->St.Good n B done S->∃ S' c2',forF (Tg.one 2) CF (todo.map ed) [c0,.sh true (LL S),c2]=some (.nx [c0,.sh true (LL S'),c2'])/\St.Good n B all S'
 | [],done,S,c2,h,G=>⟨S,c2,rfl,by rw[h,uf];exact G⟩
 | v::todo,done,S,c2,h,G=>by
  have z:Sz n e eh (e+20*(e+1)) (2*e+3+20*(e+1)):=⟨hn,he,hee,he3,rfl,rfl⟩;have hdn:all.take done.length=done:=by rw[h];simp
  have hdv:all.take (done.length+1)=done++[v]:=by rw[h,List.take_append,vP (by rfl')];simp
  have hld:done.length+1+todo.length=all.length:=by rw[h];simp;rfl'
  have hv:v∈all:=by rw[h];simp
  have sub:∀ r∈done,r∈all:=λr hr=>by rw[h];exact wo.mpr (.inl hr)
  have small:=G.small (λr hr=>hb r (sub r hr)) hB;have len:=G.len;have small:∀ r∈S,St.Lt (2 ^ e) r:=λr hr=>(small r hr).mono (hbn _ (by rfl'));obtain⟨S1,e1,P⟩:=PQ z S (ed v) v (hed v) G.asc (hl v hv) small (hH done.length S (by rfl') (by rw[hdn];exact G)) ((hb v hv).mono hBe) (by rfl');have G':=G.step P;have small':=G'.small (λr hr=>by
   rcases wo.mp hr with hr|hr
   · exact hb r (sub r hr)
   · rw[wW.mp hr];exact hb v hv) hB
  have len':=G'.len;have len2:(done++[v]).length=done.length+1:=by simp
  have small':∀ r∈St.even S1,St.Lt (2 ^ e) r:=λr hr=>(small' r hr).mono (hbn _ (by rfl'));have lim:=z.lim;have e2:=z08 (n:=n) (e:=e) (u:=e+3+(e+20*(e+1)+n*(2*e+3+20*(e+1)))) S1 he he3 (by rfl') P.asc P.size small' (hH (done.length+1) _ (by rfl') (by rw[hdv];exact G')) (by rw[←St.Y2];rfl') (by rfl');obtain⟨S',c2',ih,GG⟩:=Kf ed hed hn he hee he3 all hl hb hB hBe hbn hH h20 c0 todo (done++[v]) (St.even S1) (.sh false (ed v)) (by rw[h];simp) G';refine⟨S',c2',?_,GG⟩;rw[wm,E4];have st:(Tg.put (Tg.one 2) (ed v) [c0,.sh true (LL S),c2]).bind CF=some (.nx [c0,.sh true (LL (St.even S1)),.sh false (ed v)]):=by
   have sn:∀ f,(nrm f (ed v)).2=ed v:=λf=>rfl;simp[cOf,sn,e1,e2]
  rw[st];exact ih
theorem CS{n e eh B:Nat}(ed:aG->Dt)(hed:∀ r,RowD (ed r) r)(hn:n<=20)(he:eh<=8990)(hee:eh<=e)(he3:e<=33000)(rows:aA)(d:Dt)(hd:d = .lst (rows.map ed)\/d = .tup (rows.map ed))(hl:∀ r∈rows,r.length=n)(hb:∀ r∈rows,St.Lt B r)(hB:0<B)(hBe:B<=2 ^ e)(hbn:∀ k,k<=rows.length->St.bnd k B+1<=2 ^ e)(hH:∀ k S,k<=rows.length->St.Good n B (rows.take k) S->∀ r∈S,St.hd r<2 ^ eh)(h20:rows.length<=20):
   ∃ S,J7 [d]=some (LL S)/\St.Good n B rows S:=by
 obtain⟨S,c2,q,G⟩:=Kf ed hed hn he hee he3 rows hl hb hB hBe hbn hH h20 (.sh false d) rows [] [] .no rfl St.Good.nil;refine⟨S,?_,G⟩;have q:forF (Tg.one 2) CF (rows.map ed) [.sh false d,.sh true (.lst []),.no]=some (.nx [.sh false d,.sh true (LL S),c2]):=q;unfold J7 Hm;rcases hd with rfl|rfl
 · simp[cOf,q]
 · simp[cOf,q]
theorem EN{n e B:Nat}(ed:aG->Dt)(hed:∀ r,RowD (ed r) r)(hn:n<=20)(he:e<=8990)(rows:aA)(d:Dt)(hd:d = .lst (rows.map ed)\/d = .tup (rows.map ed))(hl:∀ r∈rows,r.length=n)(hb:∀ r∈rows,St.Lt B r)(hB:0<B)(hBe:B<=2 ^ e)(hbn:∀ k,k<=rows.length->St.bnd k B+1<=2 ^ e)(h20:rows.length<=20):
 ∃ S,J7 [d]=some (LL S)/\St.Good n B rows S:=CS (eh:=e) ed hed hn he (wu _) (by rfl') rows d hd hl hb hB hBe hbn (λk S hk G r hr=>by
 have q:=G.small (λr hr=>hb r (vY hr)) hB r hr (St.f9 r);have l:=G.len;have b:=hbn S.length (by rw[vx]at l;rfl');have q:(St.hd r).natAbs<St.bnd S.length B+1:=q;have c2:((2 ^ e:Nat):Int)=(2:Int) ^ e:=by norm_cast
 rfl') h20
theorem PR{n e B:Nat}(k:Int)(bills:aA)(hn:n<=20)(he:e<=8990)(hl:∀ r∈bills,r.length=n)(hb:∀ r∈bills,St.Lt B r)(hB:0<B)(hBe:B<=2 ^ e)(hbn:∀ k,k<=bills.length->St.bnd k B+1<=2 ^ e)(h20:bills.length<=20):
  ∃ S,N0 [j8 k bills]=some (LL S)/\St.Good n B bills S:=by
 obtain⟨S,q,G⟩:=EN (n:=n) (e:=e) (B:=B) T (λr => .inr rfl) hn he bills (TTu bills) (.inr rfl) hl hb hB hBe hbn h20;refine⟨S,?_,G⟩;unfold N0 NQ;simp[cOf,q]
theorem RF(d:Dt):N1 [d]=some (.bl (isWh d)):=by
 unfold N1 DS;cases d<;>simp[cOf,isWh,Dt.flat,nrm]
theorem CT(a:aG)(n:Int):O3 [L a,.int n]=some (.bl (decide ((a.length:Int)=n))):=by
 unfold O3 EI;obtain⟨j,q⟩:=DC (g:=Tg.one 2) (F:=sIf (fNot (fTru (i7 true N1 (f8 (fN 2) fNil)))) (sRet (fC (.bl false))) v4) (e:=Dt.int) (R:=λ(_:Unit) (c:Cell)=>[.sh false (L a),.sh false (.int n),c]) (step:=λ_ _=>()) a () .no
   (λb x j hx=>⟨.sh false (.int x),by simp[cOf,Tg.put,RF,isWh]⟩)
 have q:forF (Tg.one 2) (sIf (fNot (fTru (i7 true N1 (f8 (fN 2) fNil)))) (sRet (fC (.bl false))) v4) (a.map Dt.int) [.sh false (L a),.sh false (.int n),.no]=some (.nx [.sh false (L a),.sh false (.int n),j]):=q;by_cases h:(a.length:Int)=n
 · simp[cOf,A8,h,q]
 · simp[cOf,A8,h]
theorem Mj(a b:aG)(k:Int)(hl:a.length=b.length)(hs:a.length<=1000)(h:∀ x∈b,C9 k x=true):CP [L a,L b,.int k]=some (L (addR a (sclR k b))):=by
 unfold CP JW;have q:n4 1 [0,2,1] (n9 (fBlt bLen (f8 (fN 0) fNil))) (Tg.one 0) fYes (fOp u4 (fAt (fN 1) (fN 0)) (fOp C3 (fN 2) (fAt (fN 3) (fN 0)))) [.sh false (L a),.sh false (L b),.sh false (.int k)]=some (.nw,L (addR a (sclR k b))):=by
  rw[o0 (e:=λ(j:Nat) => .int (0+(j:Int))) (h:=λ(j:Nat) => .int (a.getD j 0+k*b.getD j 0)) (xs:=List.range a.length) (by simp[cOf,n9,intD,BD (show a.length<=1000000 by rfl'),w8]) (λj hj=>by
   have hj:=wQ.mp hj;have e1:=L3 (xs:=a) 0 hj;have e2:=L3 (xs:=b) (i:=j) 0 (by rfl');have e3:=h _ (Fp 0 (show j<b.length by rfl'));simp[cOf,Tg.put,sigD,El,Y0,e1,e2,e3,-ur]),z1l (λj=>a.getD j 0+k*b.getD j 0),z1k a b k hl]
 simp[cOf,q]
theorem FQ(n:Nat)(rows:aA)(cs:aG)(hn:n<=1000)(hm:rows.length<=1000)(hw:Wide n rows)(hl:rows.length=cs.length)(h:∀ r∈rows,∀ c∈cs,∀ x∈r,C9 c x=true):Q8 [.int n,LL rows,L cs]=some (L (mixR n rows cs)):=by
 unfold Q8 NV;have z:n4 1 [] (n9 (fN 0)) (Tg.one 0) fYes (fC (.int 0)) [.sh false (.int n),.sh false (LL rows),.sh false (L cs),.no,.no]=some (.nw,L (o6 n)):=by
  rw[o0 (e:=λ(k:Nat) => .int (0+(k:Int))) (h:=λ_ => .int 0) (xs:=List.range n) (by simp[cOf,n9,intD,BD (show n<=1000000 by rfl'),w8]) (λx _=>by simp[cOf,Tg.put])];simp[L,o6,w0v]
 obtain⟨hl2,j,q⟩:=EA (g:=Tg.one 4) (F:=sSet [] 3 (n4 1 [3,2,4,1] (n9 (fN 0)) (Tg.one 0) fYes (fOp u4 (fAt (fN 1) (fN 0)) (fOp C3 (fAt (fN 2) (fN 3)) (fAt (fAt (fN 4) (fN 3)) (fN 0))))))
  (e:=λ(j:Nat) => .int (0+(j:Int))) (R:=λ(t:aG) (c:Cell)=>[.sh false (.int n),.sh false (LL rows),.sh false (L cs),.sh true (L t),c]) (step:=λt j=>addR t (sclR (cs.getD j 0) (rows.getD j []))) (P:=λt=>t.length=n) (List.range rows.length) (o6 n) .no B9
  (fun t j c hj ht=>by
   have hj:=wQ.mp hj;have hr:=Fp [] hj;have hlr:=hw _ hr;refine⟨by rw[P8 (by rw[v9,ht,hlr])];exact ht,.sh false (.int (0+(j:Int))),?_⟩;have q:n4 1 [3,2,4,1] (n9 (fN 0)) (Tg.one 0) fYes (fOp u4 (fAt (fN 1) (fN 0)) (fOp C3 (fAt (fN 2) (fN 3)) (fAt (fAt (fN 4) (fN 3)) (fN 0)))) [.sh false (.int n),.sh false (LL rows),.sh false (L cs),.sh true (L t),.sh false (.int (0+(j:Int)))]=some (.nw,L (addR t (sclR (cs.getD j 0) (rows.getD j [])))):=by
    rw[o0 (e:=λ(k:Nat) => .int (0+(k:Int))) (h:=λ(k:Nat) => .int (t.getD k 0+cs.getD j 0*(rows.getD j []).getD k 0)) (xs:=List.range n) (by simp[cOf,n9,intD,BD (show n<=1000000 by rfl'),w8]) (λk hk=>by
     have hk:=wQ.mp hk;have e1:=L3 (xs:=t) (i:=k) 0 (by rfl');have e2:=L3 (xs:=cs) (i:=j) 0 (by rfl');have e3:=L3 (xs:=rows) (i:=j) [] hj;have e4:=L3 (xs:=rows.getD j []) (i:=k) 0 (by rfl');have e5:=h _ hr _ (Fp 0 (show j<cs.length by rfl')) _ (Fp 0 (show k<(rows.getD j []).length by rfl'));simp only[w0r]at *;simp[cOf,Tg.put,sigD,El,Y0,e1,e2,e3,e4,e5,-ur]),z1l (λk=>t.getD k 0+cs.getD j 0*(rows.getD j []).getD k 0),←ht,z1k t _ _ (by rw[ht,hlr])]
   simp only[w0r]at *;simp[cOf,Tg.put,q,-ur])
 have q:forF (Tg.one 4) (sSet [] 3 (n4 1 [3,2,4,1] (n9 (fN 0)) (Tg.one 0) fYes (fOp u4 (fAt (fN 1) (fN 0)) (fOp C3 (fAt (fN 2) (fN 3)) (fAt (fAt (fN 4) (fN 3)) (fN 0)))))) (K2 0 rows.length) [.sh false (.int n),.sh false (LL rows),.sh false (L cs),.sh true (L (o6 n)),.no]=some (.nx [.sh false (.int n),.sh false (LL rows),.sh false (L cs),.sh true (L (mixR n rows cs)),j]):=by
  rw[w8,←Rr n rows cs hl];exact q
 simp[cOf,z,n9,intD,BD (show rows.length<=1000000 by rfl'),q]
theorem CU(m j:Nat)(hm:m<=1000):J1 [.int m,.int j]=some (L (St.G3 m j)):=by
 unfold J1 EE;have q:n4 1 [1] (n9 (fN 0)) (Tg.one 0) fYes (fIf (o9 (fOp opEq (fN 0) (fN 1))) (fC (.int 1)) (fC (.int 0))) [.sh false (.int m),.sh false (.int j)]=some (.nw,L (St.G3 m j)):=by
  rw[o0 (e:=λ(k:Nat) => .int (0+(k:Int))) (h:=λk => .int (if k=j then 1 else 0)) (xs:=List.range m) (by simp[cOf,y13 m (by rfl'),w8]) (λk _=>by
   by_cases h:k=j
   · simp[cOf,v8,h]
   · simp[cOf,v8,h,show ¬(k:Int)=(j:Int) by rfl'])]
  rw[z1l (λk=>if k=j then 1 else 0)];rfl
 simp[cOf,q]
theorem Oa(m:Nat):∀(s:Nat) (bs:aA),(bs.zip ((List.range' s bs.length).map (St.G3 m))).map (λp=>p.1++p.2)=St.tagF m s bs
 | s,[]=>rfl
 | s,b::bs=>by rw[wn,List.range'_succ,wm,ue,wm,Oa m (s+1) bs,St.tagF]
theorem IJ{n e B:Nat}(hn:n<=20)(he:e<=8990)(bills tags:aA)(hlt:bills.length=tags.length)(hl:∀ p∈bills.zip tags,(p.1++p.2).length=n)(hb:∀ p∈bills.zip tags,St.Lt B (p.1++p.2))(hB:0<B)(hBe:B<=2 ^ e)(hbn:∀ k,k<=bills.length->St.bnd k B+1<=2 ^ e)(h20:bills.length<=20):
  ∃ S,A3 [TTu bills,LL tags]=some (LL S)/\St.Good n B ((bills.zip tags).map λp=>p.1++p.2) S:=by
 have hlz:((bills.zip tags).map λp=>p.1++p.2).length=bills.length:=by simp;rfl'
 obtain⟨S,q,G⟩:=EN (n:=n) (e:=e) (B:=B) L (λr => .inl rfl) hn he ((bills.zip tags).map λp=>p.1++p.2) (LL ((bills.zip tags).map λp=>p.1++p.2)) (.inl rfl) (λr hr=>by
  obtain⟨p,hp,rfl⟩:=wg.mp hr;exact hl p hp) (λr hr=>by
  obtain⟨p,hp,rfl⟩:=wg.mp hr;exact hb p hp) hB hBe (λk hk=>hbn k (by rfl')) (by rfl')
 refine⟨S,?_,G⟩;unfold A3 Q4;have z:n4 2 [] (iZip (fN 0) (fN 1)) (Tg.many [0,1]) fYes (fOp u4 (fBlt bLst (f8 (fN 0) fNil)) (fBlt bLst (f8 (fN 1) fNil))) [.sh false (TTu bills),.sh false (LL tags)]=some (.nw,LL ((bills.zip tags).map λp=>p.1++p.2)):=by
  rw[o0 (e:=λp:aG×aG => .tup [T p.1,L p.2]) (h:=λp=>L (p.1++p.2)) (xs:=bills.zip tags) (by simp[cOf,hlt,X9]) (λp hp=>by
   have h1:=hl p hp;have c:=JA p.1 p.2 (by simp at h1;rfl');simp[cOf,c])]
  simp[LL]
 simp[cOf,z,q]
theorem Z5{n e B:Nat}(k:Int)(bills:aA)(hn:n+bills.length<=20)(he:e<=8990)(hl:∀ r∈bills,r.length=n)(hb:∀ r∈bills,St.Lt B r)(hB:1<B)(hBe:B<=2 ^ e)(hbn:∀ k,k<=bills.length->St.bnd k B+1<=2 ^ e):
  ∃ S,A0 [j8 k bills]=some (LL S)/\St.Good (n+bills.length) B (St.P9 bills) S:=by
 have ht:((List.range bills.length).map (St.G3 bills.length)).length=bills.length:=by simp
 have hz:∀ p∈bills.zip ((List.range bills.length).map (St.G3 bills.length)),p.1∈bills/\∃ j,p.2=St.G3 bills.length j:=λp hp=>by
  refine⟨(vt hp).1,?_⟩;obtain⟨j,_,e⟩:=wg.mp (vt hp).2;exact⟨j,e.symm⟩
 obtain⟨S,q,G⟩:=IJ (n:=n+bills.length) (e:=e) (B:=B) hn he bills ((List.range bills.length).map (St.G3 bills.length)) ht.symm (λp hp=>by
  obtain⟨h1,j,h2⟩:=hz p hp;rw[ww,h2,St.GX,hl _ h1]) (λp hp=>by
  obtain⟨h1,j,h2⟩:=hz p hp;intro i;rw[St.Aj (hl _ h1),h2,St.Y3];split
  · exact hb _ h1 i
  · split<;>simp<;>rfl') (by rfl') hBe hbn (by rfl')
 have e0:=Oa bills.length 0 bills;rw[←w0D]at e0;rw[e0]at G;refine⟨S,?_,G⟩;have z:n4 1 [1] (n9 (fN 1)) (Tg.one 0) fYes (i7 true J1 (f8 (fN 1) (f8 (fN 0) fNil))) [.sh false (j8 k bills),.sh true (.int bills.length)]=some (.nw,LL ((List.range bills.length).map (St.G3 bills.length))):=by
  rw[o0 (e:=λ(k:Nat) => .int (0+(k:Int))) (h:=λk=>L (St.G3 bills.length k)) (xs:=List.range bills.length) (by simp[cOf,y13 bills.length (by rfl'),w8]) (λj _=>by
    have u:=CU bills.length j (by rfl');simp[cOf,u])]
  simp[LL]
 unfold A0 Q5;simp[cOf,z,q]
theorem Ao(S:aA)(n:Nat):A9 [LL S,.int n]=some (LL (St.bots n S)):=by
 have q:n4 1 [1] (iSeq (fN 0)) (Tg.one 0) (o9 (fOp opGe (i7 true r9 (f8 (fN 0) fNil)) (fN 1))) (fSl (fN 0) (K9 (fN 1)) B7) [.sh false (LL S),.sh false (.int n)]=some (.nw,.lst ((S.filter λr=>!decide (St.f9 r<n)).map λr=>L (r.drop n))) :=
  Fn (e:=L) (h:=λr=>L (r.drop n)) (p:=λr=>!decide (St.f9 r<n)) (xs:=S) (by simp[cOf]) (λr hr=>by
   by_cases h:St.f9 r<n
   · simp[cOf,D6,h]
   · simp[cOf,D6,h];rfl') (λr hr _=>by
   simp[cOf,Cq,L4])
 unfold A9 S4;simp[cOf,q,St.bots]
structure Hall(n:Nat)(bills:aA):Prop where
 n1:1<=n
 n6:n<=6
 m8:bills.length<=8
 wide:∀ r∈bills,r.length=n
 small:∀ r∈bills,∀ x∈r,x.natAbs<10 ^ 30
theorem Hall.lt{n:Nat}{bills:aA}(H:Hall n bills):∀ r∈bills,St.Lt (10 ^ 30) r:=λr hr=>St.DG (by decide) (H.small r hr)
theorem RG{n:Nat}{bills:aA}(H:Hall n bills):∃ S,N0 [j8 n bills]=some (LL S)/\St.Good n (10 ^ 30) bills S/\∀ r∈S,St.Lt (2 ^ 900) r:=by
 have m8:=H.m8;have n6:=H.n6;obtain⟨S,es,G⟩:=PR (n:=n) (e:=900) (B:=10 ^ 30) n bills (by rfl') (by rfl') H.wide H.lt (by decide) (by decide) (λk hk=>St.Yu k (by rfl')) (by rfl');have:=G.len;exact⟨S,es,G,λr hr=>(G.small H.lt (by decide) r hr).mono (St.Yu _ (by rfl'))⟩
theorem tag_lt{n:Nat}{bills:aA}(H:Hall n bills):∀ r∈St.P9 bills,St.Lt (10 ^ 30) r:=λr hr=>by
 obtain⟨b,hb,j,rfl⟩:=St.Fx _ hr;intro i;rw[St.Aj (H.wide b hb),St.Y3];split
 · exact H.lt b hb i
 · split<;>simp
theorem z09{n:Nat}{bills:aA}(H:Hall n bills):∃ S,A0 [j8 n bills]=some (LL S)/\St.Tag n bills S/\∀ r∈S,St.Lt (2 ^ 900) r:=by
 have m8:=H.m8;have n6:=H.n6;obtain⟨S,es,G⟩:=Z5 (n:=n) (e:=900) (B:=10 ^ 30) n bills (by rfl') (by rfl') H.wide H.lt (by decide) (by decide) (λk hk=>St.Yu k (by rfl'));have:=G.len;rw[St.Y4]at this;exact⟨S,es,G.tag H.wide,λr hr=>(G.small (tag_lt H) (by decide) r hr).mono (St.Yu _ (by rfl'))⟩
theorem hd_lt{n e:Nat}{S:aA}(A:St.Asc n 0 S)(h:∀ r∈S,St.Lt (2 ^ e) r):∀ r∈S,St.hd r<2 ^ e:=λr hr=>by
 have h1:=h r hr (St.f9 r);have h3:(St.hd r).natAbs<2 ^ e:=h1;have:((2 ^ e:Nat):Int)=(2:Int) ^ e:=by norm_cast
 rfl'
theorem RH{n e s:Nat}{S:aA}{v:aG}(A:St.Asc n 0 S)(h:∀ r∈S,St.Lt (2 ^ e) r)(he:e<=8990)(hv:v.length=n)(hs:St.Lt (2 ^ s) v)(h20:S.length<=20)(hsl:s<=1000000):
  (∀ r∈S,r.length=n/\St.f9 r<n/\0<St.hd r/\St.hd r<2 ^ 9000)/\St.LowB (s+20*(e+1)) v S/\2*(s+20*(e+1))<=134217728/\S.length<=1000/\St.Lt (2 ^ (s+20*(e+1))) (St.n8 v S):=by
 have hm:S.length*(e+1)<=20*(e+1):=wy _ h20;obtain⟨z1,z2⟩:=St.P0 (n:=n) (t:=0) (s:=s) (e:=e) (m:=s+20*(e+1)) (S:=S) (left:=v) (λr hr=>⟨(A.mem hr).1,(A.mem hr).2.2.2⟩) hv (λk hk=>by rfl') (λr hr _=>h r hr) hs (by rfl') (by rfl');exact⟨FN A (hd_lt A h) he,z2,by rfl',by rfl',z1.mono (wj (by decide) (by rfl'))⟩
theorem RI(n:Nat)(bills:aA)(one other uses:aG)(hn:n<=1000)(hm:bills.length<=1000)(h1:one.length=n)(hw:Wide n bills)(hl:bills.length=uses.length)(h:∀ r∈bills,∀ c∈uses,∀ x∈r,C9 c x=true):AZ [LL bills,L one,L other,L uses]=some (.bl (decide (addR one (mixR n bills uses)=other))):=by
 have e1:=CT uses uses.length;have e2:=FQ n bills uses hn hm hw hl h;have hml:(mixR n bills uses).length=n:=AQ hw;have e3:=Mj one (mixR n bills uses) 1 (by rfl') (by rfl') (λx _=>P7 (by decide));rw[z5E]at e3;have e4:=LM (addR one (mixR n bills uses)) other;unfold AZ Ht;simp[cOf,e1,hl,h1,e2,e3,e4]
theorem copies(bills:aA)(ρ:Rho)(F:FE)(f:Fl)(h:F ρ=some (f,LL bills)):n4 1 [] (iSeq F) (Tg.one 0) fYes (fBlt bLst (f8 (fN 0) fNil)) ρ=some (.nw,LL bills) :=
 o0 (e:=L) (h:=L) (xs:=bills) (by unfold iSeq;rw[h];rfl) (λx hx=>by simp[cOf])
theorem RJ(n:Nat)(hn:n<=1000)(ρ:Rho)(F:FE)(f:Fl)(h:F ρ=some (f,.int n)):n4 1 [] (n9 F) (Tg.one 0) fYes (fC (.int 0)) ρ=some (.nw,L (o6 n)):=by
 rw[o0 (e:=λ(k:Nat) => .int (0+(k:Int))) (h:=λ_ => .int 0) (xs:=List.range n) (by unfold n9;rw[h];simp[cOf,y13 n (by rfl'),w8]) (λx _=>by simp[cOf])];simp[L,o6,w0v]
theorem Hall.made{n:Nat}{bills:aA}(H:Hall n bills):W5 [.int n,LL bills]=some (j8 n bills):=RC n bills H.n1 H.n6 H.m8 H.wide H.small
theorem Ob:∀(R:aA) (c:aG) (k:Nat),St.mix R (sclR (-1) c) k = -(St.mix R c k)
 | [],c,k=>by simp[St.mix]
 | r::R,[],k=>by simp[St.mix,sclR]
 | r::R,x::c,k=>by
  have ih:=Ob R c k;show(-1*x)*St.at0 r k+St.mix R (sclR (-1) c) k = -(x*St.at0 r k+St.mix R c k);rw[ih,uU,Int.one_mul,uU];rfl'
theorem BO{n:Nat}{a b:aG}(h:a.length=n)(k:Nat):St.at0 (a++b) k=if k<n then St.at0 a k else St.at0 b (k-n):=St.Aj h k
theorem z1D{n:Nat}{bills U:aA}(t:St.Tag n bills U){u c:aG}(hu:u.length=n+bills.length)(hc:u.drop n=sclR (-1) c):Lat.Span (St.vecs U) (λk=>St.at0 u k)↔∀ k,k<n->St.at0 u k = -(St.mix bills c k):=by
 rw[t.span.iff,St.JJ t.wide hu,hc];constructor
 · intro h k hk;rw[h k hk,Ob]
 · intro h k hk;rw[h k hk,Ob]
theorem PU{n m:Nat}{back w:aG}(hb:back.length=n)(hw:w.length=n+m):(St.sub (back++o6 m) 1 w).drop n=sclR (-1) (w.drop n):=by
 have hv:(back++o6 m).length=n+m:=by rw[ww,hb,B9]
 refine St.ext0 (by rw[wY,St.N8 (by rfl'),v9,wY];rfl') λk=>?_;rw[St.E7,St.M7 (by rfl'),Al,St.E7,BO hb,if_neg (by rfl'),E5];rfl'
theorem z0a{n:Nat}{bills U:aA}(t:St.Tag n bills U){back:aG}(hb:back.length=n)(hz:(St.n8 (back++o6 bills.length) U).take n=o6 n):∀ k,k<n->St.at0 back k = -(St.mix bills ((St.n8 (back++o6 bills.length) U).drop n) k):=by
 have hv:(back++o6 bills.length).length=n+bills.length:=by rw[ww,hb,B9]
 have hw:=St.I0 t.asc hv;have sp:=St.F4 t.asc hv;generalize St.n8 (back++o6 bills.length) U=w at *;have hs:(St.sub (back++o6 bills.length) 1 w).length=n+bills.length:=by rw[St.N8 (by rfl')];exact hv
 have q:=(z1D t hs (PU hb hw)).mp (Lat.Span.congr (λk=>by rw[St.M7 (by rfl')];rfl') sp);intro k hk;have h1:=q k hk;have h2:St.at0 w k=0:=by
  have:=congrArg (λr=>St.at0 r k) hz;simp only[St.J4,if_pos hk,E5]at this;exact this
 rw[St.M7 (by rfl'),BO hb,if_pos hk,h2]at h1;rfl'
theorem z1E{n:Nat}{bills U:aA}(t:St.Tag n bills U){back:aG}(hb:back.length=n)(hs:Lat.Span (St.vecs bills) (λk => -(St.at0 back k))):(St.n8 (back++o6 bills.length) U).take n=o6 n:=by
 have hv:(back++o6 bills.length).length=n+bills.length:=by rw[ww,hb,B9]
 obtain⟨c,hc,ec⟩:=St.Ai hs;have hzl:(o6 n:aG).length=n:=B9;have hz:(o6 n++c).length=n+bills.length:=by rw[ww,hzl,hc]
 have hd:(St.sub (back++o6 bills.length) 1 (o6 n++c)).drop n=sclR (-1) c:=by
   rw[PU hb hz];congr 1;rw[w0m,hzl];simp[uN (show(o6 n).length<=n by rw[B9];exact wu n)]
 have hl:(St.sub (back++o6 bills.length) 1 (o6 n++c)).length=n+bills.length:=by rw[St.N8 (by rfl')];exact hv
 have sp:=(z1D t hl hd).mpr (λk hk=>by
   have:=ec k;rw[St.M7 (by rfl'),BO hb,if_pos hk,BO hzl,if_pos hk,E5];rfl')
 have e:=St.Ps t.asc hv hz (Lat.Span.congr (λk=>by rw[St.M7 (by rfl')];rfl') sp);have z:=(St.Cu (n:=n+bills.length) (t:=n) (S:=U) (left:=o6 n++c) (λr hr=>(t.asc.mem hr).1) hz (λk hk=>by rw[BO hzl,if_pos hk,E5])).1;rw[e];refine St.ext0 (by rw[vx,St.I0 t.asc hz,B9];rfl') λk=>?_;rw[St.J4,E5];split
 · exact z k ‹_›
 · rfl
theorem PV{n s e:Nat}{bills U:aA}(n6:n<=6)(m8:bills.length<=8)(eu:A0 [j8 n bills]=some (LL U))(t:St.Tag n bills U)(sU:∀ r∈U,St.Lt (2 ^ e) r)(he:e<=8990)(one other:aG)(h1:one.length=n)(h2:other.length=n)(s1:St.Lt (2 ^ s) one)(s2:St.Lt (2 ^ s) other)(hs:s<=100000):
   DR [j8 n bills,L one,L other]=some (if(St.n8 (sclR (-1) (subR other one)++o6 bills.length) U).take n=o6 n then L ((St.n8 (sclR (-1) (subR other one)++o6 bills.length) U).drop n) else .non):=by
 have hsb:(subR other one).length=n:=by rw[Fo (by rfl')];exact h2
 have ap:=PL n bills one other h1 h2;have sc:=J8 (subR other one) (-1) (λx _=>P7 (by decide));have hb:(sclR (-1) (subR other one)).length=n:=by rw[v9];exact hsb
 have sb:St.Lt (2 ^ (s+1)) (sclR (-1) (subR other one)):=λk=>by
   rw[Al,AU (by rfl'),vQ];have:=s1 k;have:=s2 k;rfl'
 generalize sclR (-1) (subR other one)=back at *;have hv:(back++o6 bills.length).length=n+bills.length:=by rw[ww,hb,B9]
 have sv:St.Lt (2 ^ (s+1)) (back++o6 bills.length):=λk=>by
   rw[BO hb];split
   · exact sb k
   · rw[E5];exact w1c (by decide)
 have full:=t.full;obtain⟨o1,o2,o3,o4,_⟩:=RH t.asc sU he hv sv (by rfl') (by rfl');have lw:=Z4 (L (back++o6 bills.length)) (back++o6 bills.length) U (.inl rfl) o3 o1 hv o2 o4;have no:=Z3 bills.length (by rfl');have nt:=z04 n bills (by rfl');have cat:u4 (L back) (L (o6 bills.length))=some (.nw,L (back++o6 bills.length)):=JA back (o6 bills.length) (by rw[hb,B9];rfl');generalize St.n8 (back++o6 bills.length) U=w at *;have ct:=Jz (w.map Dt.int) n;have cf:=Cq (w.map Dt.int) n;have ne:=LN (w.take n) (o6 n);have t1:newL ((w.map Dt.int).take n)=(.nw,L (w.take n)):=Y1 w n;have t2:newL ((w.map Dt.int).drop n)=(.nw,L (w.drop n)):=L4 w n;unfold DR Ho;by_cases h:w.take n=o6 n
 · rw[h]at ne t1;simp[cOf,ap,sc,no,cat,eu,lw,nt,ct,cf,t1,t2,ne,h]
 · rw[decide_eq_false h]at ne;simp[cOf,ap,sc,no,cat,eu,lw,nt,ct,cf,t1,t2,ne,h]
theorem PX{n s e:Nat}{bills U:aA}{one other:aG}(n6:n<=6)(m8:bills.length<=8)(wd:Wide n bills)(lt:∀ r∈bills,∀ x∈r,x.natAbs<2 ^ 900)(eu:A0 [j8 n bills]=some (LL U))(t:St.Tag n bills U)(sU:∀ r∈U,St.Lt (2 ^ e) r)(he:e<=8990)(l1:one.length=n)(l2:other.length=n)(s1:St.Lt (2 ^ s) one)(s2:St.Lt (2 ^ s) other)(hs:s<=100000):
   (∃ us,Hq [j8 n bills,L one,L other]=some (L us)/\AZ [LL bills,L one,L other,L us]=some (.bl true)/\Lat.Span (St.vecs bills) (λk=>St.at0 other k-St.at0 one k)) \/
   (Hq [j8 n bills,L one,L other]=some .non/\¬Lat.Span (St.vecs bills) (λk=>St.at0 other k-St.at0 one k)):=by
 have se:=PV (s:=s) n6 m8 eu t sU he one other l1 l2 s1 s2 hs;have hsb:(subR other one).length=n:=by rw[Fo (by rfl')];exact l2
 have hb:(sclR (-1) (subR other one)).length=n:=by rw[v9];exact hsb
 have hv:(sclR (-1) (subR other one)++o6 bills.length).length=n+bills.length:=by rw[ww,hb,B9]
 have hw:=St.I0 t.asc hv;have full:=t.full;have sv:St.Lt (2 ^ (s+1)) (sclR (-1) (subR other one)++o6 bills.length):=λk=>by
   rw[BO hb];split
   · rw[Al,AU (by rfl'),vQ];have:=s1 k;have:=s2 k;rfl'
   · rw[E5];exact w1c (by decide)
 obtain⟨_,_,_,_,o5⟩:=RH t.asc sU he hv sv (by rfl') (by rfl');have ld0:=λhz=>z0a t hb hz;have so:=λhs=>z1E t hb hs;have hk:∀ k,St.at0 (sclR (-1) (subR other one)) k = -(St.at0 other k-St.at0 one k):=λk=>by rw[Al,AU (by rfl')];rfl'
 generalize sclR (-1) (subR other one)=back at *;generalize St.n8 (back++o6 bills.length) U=w at *;by_cases hz:w.take n=o6 n
 · rw[if_pos hz]at se;have lu:(w.drop n).length=bills.length:=by rw[wY];rfl'
   have su:St.Lt (2 ^ (s+1+20*(e+1))) (w.drop n):=λk=>by rw[St.E7];exact o5 _
   have ld:=RI n bills one other (w.drop n) (by rfl') (by rfl') l1 wd lu.symm (λr hr c hc x hx=>J9 (R8 su c hc) (lt r hr x hx) (by rfl'));have hml:(mixR n bills (w.drop n)).length=n:=AQ wd;have sp:∀ k,k<n->St.at0 other k-St.at0 one k=St.mix bills (w.drop n) k:=λk hkn=>by
     have:=ld0 hz k hkn;rw[hk]at this;rfl'
   have ho:addR one (mixR n bills (w.drop n))=other:=St.ext0 (by rw[P8 (by rfl')];rfl') λk=>by
     rw[FG (by rfl'),Y5 wd];by_cases hkn:k<n
     · have:=sp k hkn;rfl'
     · rw[St.Fw wd k (by rfl'),St.B4 (by rfl'),St.B4 (by rfl')];rfl
   rw[decide_eq_true ho]at ld;refine .inl ⟨w.drop n,?_,ld,Lat.Span.congr (λk=>?_) (St.NH (w.drop n))⟩
   · generalize w.drop n=us at *;unfold Hq NT;simp[cOf,se]
   · by_cases hkn:k<n
     · exact(sp k hkn).symm
     · rw[St.Fw wd k (by rfl'),St.B4 (by rfl'),St.B4 (by rfl')];rfl
 · rw[if_neg hz]at se;refine .inr ⟨?_,λhs=>hz (so (Lat.Span.congr (λk=>by rw[hk];rfl') hs))⟩;unfold Hq NT;simp[cOf,se]
theorem YH(a p:Int)(hp:0<p):CG [.int a,.int p]=some (.int (a.fmod p)):=by
 unfold CG NP;simp[cOf,v8,show ¬p=0 by rfl',M8 hp]
def rstR(p:Int)(r:aG):aG:=r.map (·.fmod p)
theorem FU(p:Int)(r:aG):(rstR p r).length=r.length:=by simp[rstR]
theorem IT(p:Int)(r:aG)(k:Nat):St.at0 (rstR p r) k=St.at0 r k-p*(St.at0 r k).fdiv p:=by
 have e:St.at0 (rstR p r) k=(St.at0 r k).fmod p:=by
  unfold St.at0 rstR;by_cases h:k<r.length
  · simp[List.getD,wa h]
  · simp[List.getD,wJ (vG h)]
 rw[e,Int.fmod_def]
theorem RK{p:Int}(hp:0<p){r:aG}:∀ x∈rstR p r,0<=x/\x<p:=λx hx=>by
 obtain⟨y,_,rfl⟩:=wg.mp hx;exact⟨vk y hp,vD y hp⟩
theorem FV(r:aG)(p:Int)(hp:0<p):T9 [L r,.int p]=some (L (rstR p r)):=by
 unfold T9 NR;have q:n4 1 [1] (iSeq (fN 0)) (Tg.one 0) fYes (i7 true CG (f8 (fN 0) (f8 (fN 1) fNil))) [.sh false (L r),.sh false (.int p)]=some (.nw,L (rstR p r)):=by
  rw[o0 (e:=Dt.int) (h:=λx => .int (x.fmod p)) (xs:=r) (by simp[cOf]) (λx _=>by
   have:=YH x p hp;simp[cOf,this])]
  simp[rstR,L]
 simp[cOf,q]
theorem Hw(A:aA)(m:Nat)(h:∀ r∈A,r.length=m)(hm:m<=1000):U6 [LL A,.int m]=some (LL (St.trn m A)):=by
 unfold U6 JT
 have q:n4 1 [0] (n9 (fN 1)) (Tg.one 0) fYes (n4 1 [0] (iSeq (fN 1)) (Tg.one 0) fYes (fAt (fN 0) (fN 1))) [.sh false (LL A),.sh false (.int m)]=some (.nw,LL (St.trn m A)):=by
  rw[o0 (e:=λ(k:Nat) => .int (0+(k:Int))) (h:=λk=>L (A.map λr=>St.at0 r k)) (xs:=List.range m) (by simp[cOf,y13 m (by rfl'),w8]) (λk hk=>by
   have hk:=wQ.mp hk;have i:n4 1 [0] (iSeq (fN 1)) (Tg.one 0) fYes (fAt (fN 0) (fN 1)) [.sh false (.int (k:Int)),.sh false (LL A)]=some (.nw,L (A.map λr=>St.at0 r k)):=by
    rw[o0 (e:=L) (h:=λr => .int (St.at0 r k)) (xs:=A) (by simp[cOf]) (λr hr=>by
     have e:atI (r.map Dt.int) ((k:Nat):Int)=some (.int (St.at0 r k)):=by
      rw[Y0,L3 0 (by rw[h r hr];exact hk)];rfl
     simp[cOf,e])]
    simp[L]
   simp[cOf,i])]
  simp[St.trn,LL]
 simp[cOf,q]
abbrev SF:FS:=(sIf (fOr (o9 (fOp opNe (i7 true r9 (f8 (fN 2) fNil)) (fN 1))) (fTru (fBlt bAny (f8 (n4 1 [] (iSeq (fSl (fN 2) (K9 (fOp u4 (fN 1) (fC (.int 1)))) B7)) (Tg.one 0) fYes (fOp opNe (fN 0) (fC (.int 0)))) fNil)))) (sRet (fC (.bl false))) v4)
def Em(p:Nat×aG):Prop:=St.f9 p.2=p.1/\∀ x∈p.2.drop (p.1+1),x=0
theorem cut1{α:Type}(xs:List α)(j:Nat):cutD xs (some ((j:Int)+1)) none=xs.drop (j+1):=by
 have:=Cq xs (j+1)
 rwa [show(((j+1:Nat)):Int)=(j:Int)+1 by rfl']at this
theorem Kg(c0 c1 c2:Cell)(p:Nat×aG):(¬Em p->(Tg.put (Tg.many [1,2]) (.tup [.int p.1,L p.2]) [c0,c1,c2]).bind SF=some (.rt .nw (.bl false)))/\(Em p->(Tg.put (Tg.many [1,2]) (.tup [.int p.1,L p.2]) [c0,c1,c2]).bind SF=some (.nx [c0,.sh false (.int p.1),.sh false (L p.2)])):=by
 obtain⟨j,r⟩:=p;have cm:n4 1 [] (iSeq (fSl (fN 2) (K9 (fOp u4 (fN 1) (fC (.int 1)))) B7)) (Tg.one 0) fYes (fOp opNe (fN 0) (fC (.int 0))) [c0,.sh false (.int j),.sh false (L r)]=some (.nw,.lst ((r.drop (j+1)).map λx => .bl (!decide (x=0)))):=by
   rw[o0 (e:=Dt.int) (h:=λx => .bl (!decide (x=0))) (xs:=r.drop (j+1)) (by
    simp[cOf,cut1,L4,List.map_drop]) (λx _=>by simp[cOf,A8])]
 have e:=W1 (λx:Int=>!decide (x=0)) (r.drop (j+1));have q:Em (j,r)↔St.f9 r=j/\((r.drop (j+1)).map λx=>!decide (x=0)).any id=false:=by
   unfold Em;refine and_congr_right λ_=>?_;rw[List.any_map,w0L];simp
 generalize (r.drop (j+1)).map (λx=>Dt.bl (!decide (x=0)))=D at cm e;generalize (r.drop (j+1)).map (λx=>!decide (x=0))=bs at e q;rw[q];by_cases hh:St.f9 r=j
 · cases hb:bs.any id with
   | true=>exact⟨λ_=>by simp[cOf,D6,A8,hh,cm,bAny,e,hb],λh=>by cases h.2⟩
   | false=>exact⟨λh=>absurd ⟨hh,rfl⟩ h,λ_=>by simp[cOf,D6,A8,hh,cm,bAny,e,hb]⟩
 · exact⟨λ_=>by simp[cOf,D6,A8,show ¬((St.f9 r:Int)=(j:Int)) by rfl'],λh=>absurd h.1 hh⟩
theorem CV(A:aA):((∀ p∈G7 0 A,Em p)->O1 [LL A]=some (.bl true))/\((∃ p∈G7 0 A,¬Em p)->O1 [LL A]=some (.bl false)):=by
 have key:=Me (g:=Tg.many [1,2]) (F:=SF) (λp:Nat×aG => .tup [.int p.1,L p.2]) (λp=>¬Em p) (λj:Cell×Cell=>[.sh false (LL A),j.1,j.2]) .nw (.bl false) (G7 0 A) (.no,.no)
   (λp _ j hb=>(Kg _ _ _ p).1 hb) (λp _ j hb=>⟨(.sh false (.int p.1),.sh false (L p.2)),(Kg _ _ _ p).2 (Classical.not_not.mp hb)⟩)
 rw[←Bb]at key;constructor
 · intro h;obtain⟨j,e⟩:=key.2 λp hp (k:¬Em p)=>k (h p hp);unfold O1 BL;simp[cOf,e]
 · intro h;have e:=key.1 h;unfold O1 BL;simp[cOf,e]
theorem Kh(A W:aA):St.pair A W=(A.zip W).map λp=>p.1++p.2:=by
 unfold St.pair
 induction A generalizing W with
 | nil=>rfl
 | cons a A ih =>
  cases W with
  | nil=>rfl
  | cons b W=>rw[w0s,ue,wm,ih]
theorem EO{n e eh B:Nat}(hn:n<=20)(he:eh<=8990)(hee:eh<=e)(he3:e<=33000)(A W:aA)(hlt:A.length=W.length)(hl:∀ x∈St.pair A W,x.length=n)(hb:∀ x∈St.pair A W,St.Lt B x)(hB:0<B)(hBe:B<=2 ^ e)(hbn:∀ k,k<=A.length->St.bnd k B+1<=2 ^ e)
  (hH:∀ k S,k<=A.length->St.Good n B ((St.pair A W).take k) S->∀ r∈S,St.hd r<2 ^ eh) (h20:A.length<=20):∃ S,A3 [LL A,LL W]=some (LL S)/\St.Good n B (St.pair A W) S:=by
 have hlz:(St.pair A W).length=A.length:=St.Q3 hlt;obtain⟨S,q,G⟩:=CS (n:=n) (e:=e) (eh:=eh) (B:=B) L (λr => .inl rfl) hn he hee he3 (St.pair A W) (LL (St.pair A W)) (.inl rfl) hl hb hB hBe (λk hk=>hbn k (by rfl')) (λk S hk=>hH k S (by rfl')) (by rfl');refine⟨S,?_,G⟩;unfold A3 Q4;have z:n4 2 [] (iZip (fN 0) (fN 1)) (Tg.many [0,1]) fYes (fOp u4 (fBlt bLst (f8 (fN 0) fNil)) (fBlt bLst (f8 (fN 1) fNil))) [.sh false (LL A),.sh false (LL W)]=some (.nw,LL (St.pair A W)):=by
  rw[o0 (e:=λp:aG×aG => .tup [L p.1,L p.2]) (h:=λp=>L (p.1++p.2)) (xs:=A.zip W) (by simp[cOf,hlt,X9]) (λp hp=>by
   have h1:=hl (p.1++p.2) (by rw[Kh];exact wg.mpr ⟨p,hp,rfl⟩);have c:=JA p.1 p.2 (by simp at h1;rfl');simp[cOf,c])]
  rw[Kh];simp[LL]
 simp[cOf,z,q]
theorem W8:∀{j:Nat} {A:aA} {p:Nat×aG},p∈G7 j A↔∃ i,i<A.length/\p=(j+i,A.getD i [])
 | j,[],p=>by simp[G7]
 | j,r::A,p=>by
  rw[G7,wq,W8];constructor
  · rintro(rfl|⟨i,hi,rfl⟩)
    · exact⟨0,by simp,rfl⟩
    · exact⟨i+1,by simpa using hi,by rw[show j+1+i=j+(i+1) by rfl'];rfl⟩
  · rintro⟨i,hi,rfl⟩;cases i with
    | zero=>exact .inl rfl
    | succ i=>exact .inr ⟨i,by simpa using hi,by rw[show j+1+i=j+(i+1) by rfl'];rfl⟩
theorem Hx{r:Nat}{A:aA}(q:St.Sq r A):(∀ p∈G7 0 A,Em p)↔St.Clean r A:=by
 constructor
 · intro h i hi k hn;have:=(h (0+i,A.getD i []) (W8.mpr ⟨i,by rw[q.len];exact hi,rfl⟩)).2;rcases ud hn with x|x
   · exact q.low x
   · by_cases hk:k<r
     · have hl:(A.getD i []).length=r:=q.rows _ (St.F5 (by rw[q.len];exact hi));refine this (St.ent A i k) (uq (i:=k-(0+i+1)) ?_);show((A.getD i []).drop (0+i+1))[k-(0+i+1)]?=_;rw[uG,show 0+i+1+(k-(0+i+1))=k by rfl',wa (show k<(A.getD i []).length by rw[hl];exact hk)];have e:St.ent A i k=(A.getD i []).getD k 0:=rfl;rw[e];simp[List.getD,wa (show k<((A[i]?).getD []).length by have:=hl;simp only[List.getD]at this;rw[this];exact hk)]
     · exact q.far (by rfl')
 · intro c p hp;obtain⟨i,hi,rfl⟩:=W8.mp hp;rw[q.len]at hi;refine⟨by show St.f9 (A.getD i [])=0+i;rw[q.head hi];rfl',λx hx=>?_⟩;obtain⟨j,hj,rfl⟩:=wH hx;rw[List.getElem_drop];have:=c i hi (0+i+1+j) (by rfl');unfold St.ent St.at0 at this;rw[wY]at hj;have hj:0+i+1+j<(A.getD i []).length:=by have hj:j<(A.getD i []).length-(0+i+1):=hj;rfl'
   rw[List.getD,wa hj]at this;exact this
theorem bnd6(k:Nat)(h:k<=6):St.bnd k (2 ^ 5461)+1<=2 ^ 32900:=by
 have h1:=St.Cv (r:=k) (s:=6) (B:=2 ^ 5461) h (wE _) (by decide);have h2:St.bnd 6 (2 ^ 5461)<=2 ^ 32826:=by
  unfold St.bnd;have a:2*6*2 ^ 5461<=2 ^ 5465:=by
   rw[show(5465:Nat)=4+5461 from rfl,vp];exact wy _ (by decide)
  have b:=uB a 6;rw[←Nat.pow_mul]at b;have c:(2:Nat) ^ 32826=2 ^ (5465*6)*2 ^ (6*6):=by rw[←vp]
  rw[c];exact wy _ b
 have h3:(2:Nat) ^ 32826<2 ^ 32900:=ut (by decide) (by decide);rfl'
structure Mb(r n:Nat)(w:Int):Prop where
 r6:r<=6
 n6:n<=6
 wp:0<w
 wb:w<2 ^ 5400
theorem Mb.lt{r n:Nat}{w x:Int}(b:Mb r n w)(h0:0<=x)(h1:x<=w):x.natAbs<2 ^ 5461:=by
 have:=b.wb;have h:(2:Nat) ^ 5400<=2 ^ 5461:=wj (by decide) (by decide);have c:((2 ^ 5400:Nat):Int)=(2:Int) ^ 5400:=by norm_cast
 rfl'
theorem Mb.hd{r n:Nat}{w x:Int}(b:Mb r n w)(h:x∣w):x<2 ^ 5400:=by
 have:=vR b.wp h;have:=b.wb;rfl'
abbrev GC:FT:=fNot (fTru (i7 true O1 (f8 (fN 4) fNil)))
abbrev GF:FS:=(sSeq (sSet [] 6 (i7 true U6 (f8 (i7 true J7 (f8 (i7 true U6 (f8 (fN 4) (f8 (fN 3) fNil))) fNil)) (f8 (fN 3) fNil))))
 (sSeq (sSet [] 7 (i7 true A3 (f8 (fN 6) (f8 (fN 5) fNil))))
 (sSeq (sSet [] 4 (n4 1 [3] (iSeq (fN 7)) (Tg.one 0) fYes (fSl (fN 0) B7 (K9 (fN 1)))))
 (sSet [] 5 (n4 1 [3,2] (iSeq (fN 7)) (Tg.one 0) fYes (i7 true T9 (f8 (fSl (fN 0) (K9 (fN 1)) B7) (f8 (fN 2) fNil))))))))
structure Mw(r n:Nat)(w:Int)(G K A W:aA):Prop where
 m:St.Mst r n w G K A W
 wb:∀ x∈W,St.Lt (2 ^ 5461) x
theorem RL{r n:Nat}{w:Int}{G K A W:aA}(b:Mb r n w)(I:Mw r n w G K A W)(c0 c1 c6 c7:Cell)(f2 f3 f4 f5:Bool):
   ∃ T A' W' f4' f5' c6' c7',GF [c0,c1,.sh f2 (.int w),.sh f3 (.int r),.sh f4 (LL A),.sh f5 (LL W),c6,c7]=some (.nx [c0,c1,.sh f2 (.int w),.sh f3 (.int r),.sh f4' (LL A'),.sh f5' (LL W'),c6',c7'])/\Mw r n w G K A' W'/\St.Sq r T/\Lat.SameSpan (St.vecs T) (St.vecs (St.trn r A))/\Lat.SameSpan (St.vecs A') (St.vecs (St.trn r T)):=by
 have r6:=b.r6;have n6:=b.n6;have q:=I.m.sq;have wC:=I.m.whole;have eA:=λi k=>q.entryC wC b.wp i k;have tl:(St.trn r A).length=r:=St.D4 _ _;have tr:∀ x∈St.trn r A,x.length=r:=λx hx=>by rw[St.V6 hx,q.len]
 have B1:=q.below wC;have mem_lt:∀{P:aA} {E:Nat},(∀ i k,(St.ent P i k).natAbs<E)->∀ x∈P,St.Lt E x:=λ{P E} h x hx k=>by
   obtain⟨i,hi,rfl⟩:=wH hx;have:=h i k;unfold St.ent at this
   rwa [show P.getD i []=P[i] by simp[List.getD,wa hi]]at this
 have t1:=Hw A r q.rows (by rfl');obtain⟨T,e1,G1⟩:=CS (n:=r) (e:=32900) (eh:=5400) (B:=2 ^ 5461) L (λr => .inl rfl) (by rfl') (by decide) (by decide) (by decide) (St.trn r A) (LL (St.trn r A)) (.inl rfl) tr
   (mem_lt λi k=>by rw[St.J0 q.rows];exact b.lt (eA k i).1 (eA k i).2) (wE _) (wj (by decide) (by decide)) (λk hk=>bnd6 k (by rfl'))
   (λk S hk G x hx=>b.hd (B1.heads (by rfl') G.asc G.span hx).2) (by rfl')
 obtain⟨l1,_⟩:=G1.sq B1;have sT:St.Sq r T:=⟨G1.asc,G1.form,l1⟩;have wT:St.Q2 r w T:=λi hi=>G1.span.iff.mpr (wC i hi);have eT:=λi k=>sT.entry wT b.wp i k;have t2:=Hw T r sT.rows (by rfl');have wT2:=sT.comm wT;have B2:=sT.below_pair wT2 I.m.wl I.m.wr;obtain⟨S,e2,G2⟩:=EO (n:=r+n) (e:=32900) (eh:=5400) (B:=2 ^ 5461) (by rfl') (by decide) (by decide) (by decide) (St.trn r T) W (by rw[St.D4,I.m.wl]) B2.rows
   (λx hx k=>by
     obtain⟨i,hi,rfl⟩:=wH hx;have hi':i<r:=by rw[B2.len]at hi;exact hi
     have e:St.at0 ((St.pair (St.trn r T) W)[i]) k=St.ent (St.pair (St.trn r T) W) i k:=by unfold St.ent;simp[List.getD,wa hi]
     rw[e,St.Cz (n:=n) (r:=r) (λx hx=>by rw[St.V6 hx,sT.len]) (by rw[St.D4];exact hi') (by rw[I.m.wl];exact hi')];split
     · rw[St.J0 sT.rows];exact b.lt (eT k i).1 (eT k i).2
     · exact I.wb _ (St.F5 (by rw[I.m.wl];exact hi')) _)
   (wE _) (wj (by decide) (by decide)) (λk hk=>bnd6 k (by rw[St.D4]at hk;rfl'))
   (λk S hk G x hx=>b.hd (B2.heads (by rw[St.D4]at hk;rfl') G.asc G.span hx).2) (by rw[St.D4];rfl')
 obtain⟨l2,h2⟩:=G2.sq B2;have M':=I.m.step sT G1.span G2.asc G2.form l2 h2 G2.span;have hs:=St.DI (r:=r) G2.span;rw[St.DJ (λx hx=>by rw[St.V6 hx,sT.len]) (by rw[St.D4,I.m.wl])]at hs;have len:∀ x∈S,x.length=r+n:=λx hx=>(G2.asc.mem hx).1;have k3:∀ d0 d1:Cell,n4 1 [3] (iSeq (fN 7)) (Tg.one 0) fYes (fSl (fN 0) B7 (K9 (fN 1))) [d0,d1,.sh f2 (.int w),.sh f3 (.int r),.sh f4 (LL A),.sh f5 (LL W),.sh true (LL (St.trn r T)),.sh true (LL S)]=some (.nw,LL (S.map (·.take r))):=λd0 d1=>by
   rw[o0 (e:=L) (h:=λx=>L (x.take r)) (xs:=S) (by simp[cOf]) (λx hx=>by simp[cOf,Jz,Y1])];simp[LL]
 have k4:∀ d0 d1:Cell,n4 1 [3,2] (iSeq (fN 7)) (Tg.one 0) fYes (i7 true T9 (f8 (fSl (fN 0) (K9 (fN 1)) B7) (f8 (fN 2) fNil))) [d0,d1,.sh f2 (.int w),.sh f3 (.int r),.sh true (LL (S.map (·.take r))),.sh f5 (LL W),.sh true (LL (St.trn r T)),.sh true (LL S)]=some (.nw,LL (S.map λx=>rstR w (x.drop r))):=λd0 d1=>by
   rw[o0 (e:=L) (h:=λx=>L (rstR w (x.drop r))) (xs:=S) (by simp[cOf]) (λx hx=>by
     have:=FV (x.drop r) w b.wp;simp[cOf,Cq,L4,this])]
   simp[LL]
 refine⟨T,S.map (·.take r),S.map λx=>rstR w (x.drop r),true,true,.sh true (LL (St.trn r T)),.sh true (LL S),?_,⟨?_,?_⟩,sT,G1.span,hs⟩
 · refine run (ρ':=[c0,c1,.sh f2 (.int w),.sh f3 (.int r),.sh f4 (LL A),.sh f5 (LL W),.sh true (LL (St.trn r T)),c7]) ?_ (run (ρ':=[c0,c1,.sh f2 (.int w),.sh f3 (.int r),.sh f4 (LL A),.sh f5 (LL W),.sh true (LL (St.trn r T)),.sh true (LL S)]) ?_ (run (ρ':=[c0,c1,.sh f2 (.int w),.sh f3 (.int r),.sh true (LL (S.map (·.take r))),.sh f5 (LL W),.sh true (LL (St.trn r T)),.sh true (LL S)]) ?_ ?_))
   · simp[cOf,t1,e1,t2]
   · simp[cOf,e2]
   · simp[cOf,k3]
   · simp[cOf,k4]
 · refine M'.rest (W':=S.map λx=>rstR w (x.drop r)) (by rw[wv,l2]) (λx hx=>?_) (λi k=>(St.ent (S.map (·.drop r)) i k).fdiv w) λi k hi=>?_
   · obtain⟨y,hy,rfl⟩:=wg.mp hx;rw[FU,wY,len y hy];rfl'
   · have hi:i<S.length:=by rfl'
     have x1:St.ent (S.map λx=>rstR w (x.drop r)) i k=St.at0 (rstR w ((S.getD i []).drop r)) k:=by unfold St.ent;simp[List.getD,wa hi]
     have x2:St.ent (S.map (·.drop r)) i k=St.at0 ((S.getD i []).drop r) k:=by unfold St.ent;simp[List.getD,wa hi]
     rw[x1,x2,IT]
 · intro x hx k;obtain⟨y,hy,rfl⟩:=wg.mp hx;by_cases hk:k<(rstR w (y.drop r)).length
   · have:=RK b.wp (r:=y.drop r) (St.at0 (rstR w (y.drop r)) k) (by unfold St.at0;rw[List.getD,wa hk];exact vn _);exact b.lt this.1 (by rfl')
   · rw[St.B4 (by rfl')];exact wE _
theorem RM{r n:Nat}{w:Int}{G K:List (List Int)}(b:Mb r n w)(c0 c1:Cell)(f2 f3:Bool):∀(d t:Nat),t+d=r→∀(a:Nat) (A W:List (List Int)) (f4 f5:Bool) (c6 c7:Cell),Mw r n w G K A W→St.Clean t A→(t<r→St.ent A t t=(a:Int)) →
  ∃ k A' W' f4' f5' c6' c7',F0 GC GF k [c0,c1,.sh f2 (.int w),.sh f3 (.int r),.sh f4 (LL A),.sh f5 (LL W),c6,c7]=some (.nx [c0,c1,.sh f2 (.int w),.sh f3 (.int r),.sh f4' (LL A'),.sh f5' (LL W'),c6',c7'])/\Mw r n w G K A' W'/\St.Clean r A':=by
 intro d
 induction d with
 | zero =>
  intro t ht a A W f4 f5 c6 c7 I c _;have hc:St.Clean r A:=by rw[←ht];exact c
  have:=(CV A).1 ((Hx I.m.sq).mpr hc);refine⟨1,A,W,f4,f5,c6,c7,?_,I,hc⟩;have hc:GC [c0,c1,.sh f2 (.int w),.sh f3 (.int r),.sh f4 (LL A),.sh f5 (LL W),c6,c7]=some false:=by simp[cOf,this]
  rw[F0,hc];rfl
 | succ d ihd =>
  intro t ht a
  induction a using ug with
  | ind a iha =>
   intro A W f4 f5 c6 c7 I c ha;have htr:t<r:=by rfl'
   by_cases hc:St.Clean r A
   · have:=(CV A).1 ((Hx I.m.sq).mpr hc);refine⟨1,A,W,f4,f5,c6,c7,?_,I,hc⟩;have hc:GC [c0,c1,.sh f2 (.int w),.sh f3 (.int r),.sh f4 (LL A),.sh f5 (LL W),c6,c7]=some false:=by simp[cOf,this]
     rw[F0,hc];rfl
   · have no:∃ p∈G7 0 A,¬Em p:=Classical.byContradiction fun k=>hc ((Hx I.m.sq).mp fun p hp=>Classical.byContradiction fun q=>k ⟨p,hp,q⟩)
     have:=(CV A).2 no;have hl:GC [c0,c1,.sh f2 (.int w),.sh f3 (.int r),.sh f4 (LL A),.sh f5 (LL W),c6,c7]=some true:=by simp[cOf,this]
     obtain⟨T,A',W',f4',f5',c6',c7',e,I',sT,s1,s2⟩:=RL b I c0 c1 c6 c7 f2 f3 f4 f5;obtain⟨cl,alt⟩:=St.Pu I.m.sq sT I'.m.sq s1 s2 c htr
     have fin:(∃ k A'' W'' f4'' f5'' c6'' c7'',F0 GC GF k [c0,c1,.sh f2 (.int w),.sh f3 (.int r),.sh f4' (LL A'),.sh f5' (LL W'),c6',c7']=some (.nx [c0,c1,.sh f2 (.int w),.sh f3 (.int r),.sh f4'' (LL A''),.sh f5'' (LL W''),c6'',c7''])∧Mw r n w G K A'' W''∧St.Clean r A''):=by
      rcases alt with h|h
      · by_cases ht2:t+1<r
        · have p:=I'.m.sq.pos ht2;exact ihd (t+1) (by rfl') (St.ent A' (t+1) (t+1)).toNat A' W' f4' f5' c6' c7' I' h λ_=>by rfl'
        · exact ihd (t+1) (by rfl') 0 A' W' f4' f5' c6' c7' I' h λh=>absurd h ht2
      · have p:=I'.m.sq.pos htr;have ha:=ha htr;exact iha (St.ent A' t t).toNat (by rfl') A' W' f4' f5' c6' c7' I' cl λ_=>by rfl'
     obtain⟨k,A2,W2,f42,f52,c62,c72,e2,I2,h2⟩:=fin;refine⟨k+1,A2,W2,f42,f52,c62,c72,?_,I2,h2⟩;rw[F0,hl,v5,if_pos rfl,e];exact e2
def MD(M:St.Meas):Dt := .lst (M.map λx => .tup [L x.1,.int x.2])
def N7(A W:aA):St.Meas:=(G7 0 W).map λp=>(p.2,St.ent A p.1 p.1)
theorem Hy:∀(j:Nat) (A:aA),(G7 j A).length=A.length
 | j,[]=>rfl
 | j,r::A=>by rw[G7,wn,wn,Hy]
theorem Hz:∀(j:Nat) (A:aA) (i:Nat),i<A.length->(G7 j A)[i]?=some (j+i,A.getD i [])
 | j,r::A,0,_=>rfl
 | j,r::A,i+1,h=>by
  rw[G7,List.getElem?_cons_succ,Hz (j+1) A i (by simpa using h),show j+1+i=j+(i+1) by rfl'];rfl
theorem Ki(A W:aA){i:Nat}(h:i<W.length):St.mw (N7 A W) i=W.getD i []/\St.mp (N7 A W) i=St.ent A i i:=by
 unfold St.mw St.mp N7;rw[List.getD,wF,Hz 0 W i h,vX];exact⟨rfl,rfl⟩
theorem Od{r:aG}{k:Nat}(h:k<r.length):atI (r.map Dt.int) (k:Int)=some (.int (St.at0 r k)):=by
 rw[Y0,L3 0 h];rfl
theorem RN{r n:Nat}{w:Int}{G K A W:aA}(b:Mb r n w)(I:Mw r n w G K A W):∃ A' W',DQ [LL A,LL W,.int w]=some (MD (N7 A' W'))/\Mw r n w G K A' W'/\St.Clean r A':=by
 have al:=I.m.sq.len;obtain⟨k,A',W',f4,f5,c6,c7,e,I',hc⟩:=RM b (.sh false (LL A)) (.sh false (LL W)) false true r 0 (by rfl') (St.ent A 0 0).toNat A W false false .no .no I (λi hi=>by rfl') λh=>by have:=I.m.sq.pos h;rfl'
 have e:=DA e;refine⟨A',W',?_,I',hc⟩;have cm:∀ d0 d1 d2 d3 d6 d7:Cell,∃ f,n4 2 [4] (X7 (fN 5)) (Tg.many [0,1]) fYes (fTup (f8 (fN 1) (f8 (fAt (fAt (fN 2) (fN 0)) (fN 0)) fNil))) [d0,d1,d2,d3,.sh f4 (LL A'),.sh f5 (LL W'),d6,d7]=some (f,MD (N7 A' W')):=λd0 d1 d2 d3 d6 d7=>by
  have key:=Jw (nt:=2) (js:=[4]) (Fi:=X7 (fN 5)) (g:=Tg.many [0,1]) (Fe:=fTup (f8 (fN 1) (f8 (fAt (fAt (fN 2) (fN 0)) (fN 0)) fNil))) (ρ:=[d0,d1,d2,d3,.sh f4 (LL A'),.sh f5 (LL W'),d6,d7]) (e:=λp:Nat×aG => .tup [.int p.1,L p.2]) (h:=λp=>(.sh,.tup [L p.2,.int (St.ent A' p.1 p.1)])) (xs:=G7 0 W') (by simp[cOf,Bb]) (λp hp=>by
   obtain⟨i,hi,rfl⟩:=W8.mp hp;rw[I'.m.wl]at hi;rw[vX];have h1:=getD_L A' (k:=i) (by rw[I'.m.sq.len];rfl');have h2:=Od (r:=A'.getD i []) (k:=i) (by rw[I'.m.sq.rows _ (St.F5 (by rw[I'.m.sq.len];rfl'))];rfl');have x:St.ent A' i i=St.at0 (A'.getD i []) i:=rfl;rw[x];generalize A'.getD i []=ra at h1 h2 ⊢;generalize W'.getD i []=rb;simp[cOf,h1,h2];rfl)
  have x:MD (N7 A' W') = .lst ((G7 0 W').map λp => .tup [L p.2,.int (St.ent A' p.1 p.1)]):=by
   unfold MD N7;rw[wV];rfl
  rw[x];exact⟨_,key⟩
 obtain⟨f,cm⟩:=cm (.sh false (LL A)) (.sh false (LL W)) (.sh false (.int w)) (.sh true (.int r)) c6 c7;have q:AV [.sh false (LL A),.sh false (LL W),.sh false (.int w),.no,.no,.no,.no,.no]=some (.rt f (MD (N7 A' W'))):=by
  unfold AV;refine run (ρ':=[.sh false (LL A),.sh false (LL W),.sh false (.int w),.sh true (.int r),.no,.no,.no,.no]) (by simp[cOf,al]) (run (ρ':=[.sh false (LL A),.sh false (LL W),.sh false (.int w),.sh true (.int r),.sh false (LL A),.no,.no,.no]) (by simp[cOf];rfl) (run (ρ':=[.sh false (LL A),.sh false (LL W),.sh false (.int w),.sh true (.int r),.sh false (LL A),.sh false (LL W),.no,.no]) (by simp[cOf];rfl) (run e ?_)));unfold sRet;rw[cm];rfl
 unfold DQ cOf;rw[if_pos (show[LL A,LL W,Dt.int w].length=3 from rfl)];show(AV [.sh false (LL A),.sh false (LL W),.sh false (.int w),.no,.no,.no,.no,.no]).bind _=_;rw[q];rfl
theorem z0b{n:Nat}(w1 w2:aG)(a b:Int)(h1:w1.length=n)(h2:w2.length=n)(ha:0<a)(hb:0<b)(ba:a<2 ^ 5400)(bb:b<2 ^ 5400)(l1:St.Lt (2 ^ 5461) w1)(l2:St.Lt (2 ^ 5461) w2):
  ∃ g x y a' b' lc,Y8 [.tup [L w1,.int a],.tup [L w2,.int b]]=some (.tup [.tup [L (rstR g (addR w1 w2)),.int g],.tup [L (rstR lc (addR (sclR (-y*b') w1) (sclR (x*a') w2))),.int lc]])/\St.Bz g x y a b a' b'/\lc=a'*b/\0<lc/\g∣a:=by
 have cast:((2 ^ 5400:Nat):Int)=(2:Int) ^ 5400:=by norm_cast
 have a1:a.natAbs<2 ^ 5400:=by rfl'
 have a2:b.natAbs<2 ^ 5400:=by rfl'
 obtain⟨x,y,eb,exy,bx,bY⟩:=Mg a b 5400 (by decide) a1 a2;have g0:0<ui a b:=w01 _ (by rfl');have d1:(ui a b:Int)∣a:=w17 _ _;have d2:(ui a b:Int)∣b:=w0U _ _;generalize eg:(ui a b:Int)=g at *;have g0:0<g:=by rfl'
 have z:=St.Bz.of (f1:=x) (f2:=y) g0 d1 d2 (by rw[wM x,wM y];exact exy);have p2:2 ^ 5403=8*2 ^ 5400:=by rw[show(5403:Nat)=3+5400 from rfl,vp]
 have x1:x.natAbs<2 ^ 5403:=by rfl'
 have y1:y.natAbs<2 ^ 5403:=by rfl'
 have gle:g<=a:=vR ha d1;have g9:g<2 ^ 9000:=by
  have h9:(2:Nat) ^ 5400<=2 ^ 9000:=wj (by decide) (by decide);have:((2 ^ 9000:Nat):Int)=(2:Int) ^ 9000:=by norm_cast
  rfl'
 have dv1:P4 a g=true:=Ba g0 g9;have dv2:P4 b g=true:=Ba g0 g9;have f1:a.fdiv g=a / g:=w05 _ (by rfl');have f2:b.fdiv g=b / g:=w05 _ (by rfl');have k1:(a / g).natAbs<2 ^ 5400:=by rw[←f1];have:=St.AR a g0;rfl'
 have k2:(b / g).natAbs<2 ^ 5400:=by rw[←f2];have:=St.AR b g0;rfl'
 have ap:0<a / g:=Int.ediv_pos_of_pos_of_dvd ha (by rfl') d1;have lp:0<a / g*b:=w1d ap hb;refine⟨g,x,y,a / g,b / g,a / g*b,?_,z,rfl,lp,d1⟩;have m1:C9 (a / g) b=true:=R6 k1 a2 (by decide);have m2:C9 (-y) (b / g)=true:=R6 (by rw[uP];exact y1) k2 (by decide);have m3:C9 x (a / g)=true:=R6 x1 k1 (by decide);have s1:(-y*(b / g)).natAbs<2 ^ (5403+5400):=by
  rw[wZ,vp,uP];exact uw y1 k2
 have s2:(x*(a / g)).natAbs<2 ^ (5403+5400):=by
  rw[wZ,vp];exact uw x1 k1
 have e1:=J8 w1 (-y*(b / g)) (DU s1 l1 (by decide));have e2:=J8 w2 (x*(a / g)) (DU s2 l2 (by decide));have e3:=FL (sclR (-y*(b / g)) w1) (sclR (x*(a / g)) w2) (by rw[v9,v9,h1,h2]);have e4:=FL w1 w2 (by rw[h1,h2]);have e5:=FV (addR w1 w2) g g0;have e6:=FV (addR (sclR (-y*(b / g)) w1) (sclR (x*(a / g)) w2)) (a / g*b) lp;have eb:CD [.int a,.int b]=some (.tup [.int g,.int x,.int y]):=eb;generalize addR (sclR (-y*(b / g)) w1) (sclR (x*(a / g)) w2)=u at *;generalize sclR (-y*(b / g)) w1=u1 at *;generalize sclR (x*(a / g)) w2=u2 at *;generalize addR w1 w2=u3 at *;have q:CJ [.sh false (.tup [L w1,.int a]),.sh false (.tup [L w2,.int b]),.no,.no,.no,.no,.no]=some (.rt .nw (.tup [.tup [L (rstR g u3),.int g],.tup [L (rstR (a / g*b) u),.int (a / g*b)]])):=by
  unfold CJ;refine run (by simp[cOf,eb];rfl) ?_;refine run (by simp[cOf];rfl) ?_;refine run (by simp[cOf,dv1,f1,m1];rfl) ?_;refine run (by simp[cOf,e4];rfl) ?_;refine run (by simp[cOf,dv1,dv2,f1,f2,m2,m3,e1,e2,e3];rfl) ?_;simp[cOf,e5,e6]
 unfold Y8 cOf;rw[if_pos (show[Dt.tup [L w1,.int a],.tup [L w2,.int b]].length=2 from rfl)];show(CJ [.sh false (.tup [L w1,.int a]),.sh false (.tup [L w2,.int b]),.no,.no,.no,.no,.no]).bind _=_;rw[q];rfl
theorem CW{γ:Type}{g:Tg}{F:FS}(R:γ->Rho)(P:Nat->γ->Prop):∀(n k:Nat) (j:γ),P k j->(∀ i j,k<=i->i<k+n->P i j->∃ j',(g.put (.int (i:Int)) (R j)).bind F=some (.nx (R j'))/\P (i+1) j')->∃ j',forF g F (K2 (k:Int) n) (R j)=some (.nx (R j'))/\P (k+n) j'
 | 0,k,j,p,_=>⟨j,rfl,p⟩
 | n+1,k,j,p,h=>by
  obtain⟨j1,h1,p1⟩:=h k j (wu _) (by rfl') p;obtain⟨j2,h2,p2⟩:=CW R P n (k+1) j1 p1 λi j hi hl=>h i j (by rfl') (by rfl');refine⟨j2,?_,by rw[show k+(n+1)=k+1+n by rfl'];exact p2⟩;rw[w8,uM,wm,E4,show Dt.int ((k:Int)+((0:Nat):Int)) = .int (k:Int) by simp,h1,wV];rw[←h2,w8];show forF g F _ (R j1)=forF g F _ (R j1);congr 1;apply uA;intro i _;show Dt.int ((k:Int)+((i+1:Nat):Int))=Dt.int (((k+1:Nat):Int)+(i:Int));congr 1;rfl'
structure Cs(n r:Nat)(w:Int)(G:aA)(K0:St.Meas)(t s:Nat)(M:St.Meas):Prop where
 ms:St.Ms n G (M++K0)
 ch:St.Chn w t s M
 len:M.length=r
 lt:∀ x∈M,St.Lt (2 ^ 5461) x.1
theorem RO{p:Int}(hp:0<p)(hb:p<2 ^ 5400)(r:aG):St.Lt (2 ^ 5461) (rstR p r):=λk=>by
 have c:((2 ^ 5400:Nat):Int)=(2:Int) ^ 5400:=by norm_cast
 have h:(2:Nat) ^ 5400<=2 ^ 5461:=wj (by decide) (by decide);by_cases hk:k<(rstR p r).length
 · have:=RK hp (r:=r) (St.at0 (rstR p r) k) (by unfold St.at0;rw[List.getD,wa hk];exact vn _);rfl'
 · rw[St.B4 (by rfl')];exact wE _
abbrev KF:FS:=(sSeq (U1 4 (i7 true Y8 (f8 (fAt (fN 1) (fN 2)) (f8 (fAt (fN 1) (fN 3)) fNil))))
 (sSeq (sPut 1 (fN 2) (fAt (fN 4) (fC (.int 0))))
 (sPut 1 (fN 3) (fAt (fN 4) (fC (.int 1))))))
abbrev tD(x:aG×Int):Dt := .tup [L x.1,.int x.2]
theorem z0c{n r:Nat}{w:Int}{G:aA}{K0:St.Meas}{t s:Nat}{M:St.Meas}(b:Mb r n w)(I:Cs n r w G K0 t s M)(hts:t<s)(hs:s<r)(c0 c4:Cell)(f:Bool):
   ∃ M' c4' f',KF [c0,.ow f (M.map tD),.sh false (.int t),.sh false (.int s),c4]=some (.nx [c0,.ow f' (M'.map tD),.sh false (.int t),.sh false (.int s),c4'])/\Cs n r w G K0 t (s+1) M':=by
 have lM:=I.len;have get:∀ i,i<r->M[i]?=some (St.mw M i,St.mp M i):=λi hi=>by
   unfold St.mw St.mp;rw[List.getD,wa (show i<M.length by rfl')];rfl
 have mem:∀ i,i<r->(St.mw M i,St.mp M i)∈M:=λi hi=>uq (get i hi);have rows:∀ i,i<r->(St.mw M i).length=n:=λi hi=>I.ms.rows _ (wo.mpr (.inl (mem i hi)));have bd:∀ i,i<r->St.mp M i<2 ^ 5400:=λi hi=>b.hd (I.ch.whole i (by rfl'));obtain⟨g,x,y,a',b',lc,e,z,hlc,lp,gd⟩:=z0b (n:=n) (St.mw M t) (St.mw M s) (St.mp M t) (St.mp M s) (rows t (by rfl')) (rows s hs) (I.ch.pos t (by rfl')) (I.ch.pos s (by rfl')) (bd t (by rfl')) (bd s hs) (I.lt _ (mem t (by rfl'))) (I.lt _ (mem s hs));have ch':=I.ch.link (u:=rstR g (addR (St.mw M t) (St.mw M s))) (l:=rstR lc (addR (sclR (-y*b') (St.mw M t)) (sclR (x*a') (St.mw M s)))) hts (by rfl') z hlc;have lu:(rstR g (addR (St.mw M t) (St.mw M s))).length=n:=by rw[FU,P8 (by rw[rows t (by rfl'),rows s hs]),rows t (by rfl')]
 have ll:(rstR lc (addR (sclR (-y*b') (St.mw M t)) (sclR (x*a') (St.mw M s)))).length=n:=by rw[FU,P8 (by rw[v9,v9,rows t (by rfl'),rows s hs]),v9,rows t (by rfl')]
 have ms':=St.z5B (u:=rstR g (addR (St.mw M t) (St.mw M s))) (l:=rstR lc (addR (sclR (-y*b') (St.mw M t)) (sclR (x*a') (St.mw M s)))) I.ms hlc (by rfl') (by rfl') (by rfl') z lu ll
   (λk=>by rw[IT,FG (by rw[rows t (by rfl'),rows s hs])]) (λk=>by rw[IT,FG (by rw[v9,v9,rows t (by rfl'),rows s hs]),Al,Al,uU])
 have gb:g<2 ^ 5400:=by have:=vR (I.ch.pos t (by rfl')) gd;have:=bd t (by rfl');rfl'
 have lb:lc<2 ^ 5400:=b.hd (by
   have:=ch'.whole s (by simp;rfl');unfold St.mp at this;rw[St.JN (by rfl') (by rfl') (by rfl'),if_pos rfl]at this;exact this)
 have u2:=RO z.gp gb (addR (St.mw M t) (St.mw M s));have l2:=RO lp lb (addR (sclR (-y*b') (St.mw M t)) (sclR (x*a') (St.mw M s)));generalize rstR g (addR (St.mw M t) (St.mw M s))=u at *;generalize rstR lc (addR (sclR (-y*b') (St.mw M t)) (sclR (x*a') (St.mw M s)))=l at *;have at1:atI (M.map tD) (t:Int)=some (tD (St.mw M t,St.mp M t)):=Bn (by rw[wF,get t (by rfl')];rfl);have at2:atI (M.map tD) (s:Int)=some (tD (St.mw M s,St.mp M s)):=Bn (by rw[wF,get s hs];rfl);have mlen:(M.map tD).length=r:=by rw[wv,lM]
 have st:((M.set t (u,g)).set s (l,lc)).map tD=((M.map tD).set t (tD (u,g))).set s (tD (l,lc)):=by rw[List.map_set,List.map_set]
 generalize M.map tD=D at *;have x1:ixN D.length (t:Int)=some t:=YC (by rfl');have x2:ixN D.length (s:Int)=some s:=YC (by rfl');have e1:U1 4 (i7 true Y8 (f8 (fAt (fN 1) (fN 2)) (f8 (fAt (fN 1) (fN 3)) fNil))) [c0,.ow f D,.sh false (.int t),.sh false (.int s),c4]=some (.nx [c0,.ow f D,.sh false (.int t),.sh false (.int s),.sh true (.tup [tD (u,g),tD (l,lc)])]):=by
   have e:Y8 [tD (St.mw M t,St.mp M t),tD (St.mw M s,St.mp M s)]=some (.tup [tD (u,g),tD (l,lc)]):=e;generalize tD (St.mw M t,St.mp M t)=y1 at *;generalize tD (St.mw M s,St.mp M s)=y2 at *;have sn:∀(f:Fl) (d:Dt),(nrm f d).2=d:=λ_ _=>rfl;simp[cOf,at1,at2,sn,e]
 have e2:∃ f1,sPut 1 (fN 2) (fAt (fN 4) (fC (.int 0))) [c0,.ow f D,.sh false (.int t),.sh false (.int s),.sh true (.tup [tD (u,g),tD (l,lc)])]=some (.nx [c0,.ow f1 (D.set t (tD (u,g))),.sh false (.int t),.sh false (.int s),.sh true (.tup [tD (u,g),tD (l,lc)])]):=by
   generalize tD (u,g)=y1;generalize tD (l,lc)=y2;have sn:∀(f:Fl) (d:Dt),(nrm f d).2=d:=λ_ _=>rfl;refine⟨f&&(nrm (if y1.flat=true/\y2.flat=true then Fl.nw else Fl.fr).item y1).1.isFr,?_⟩;simp[cOf,x1,sn]
 obtain⟨f1,e2⟩:=e2;have e3:∃ f2,sPut 1 (fN 3) (fAt (fN 4) (fC (.int 1))) [c0,.ow f1 (D.set t (tD (u,g))),.sh false (.int t),.sh false (.int s),.sh true (.tup [tD (u,g),tD (l,lc)])]=some (.nx [c0,.ow f2 ((D.set t (tD (u,g))).set s (tD (l,lc))),.sh false (.int t),.sh false (.int s),.sh true (.tup [tD (u,g),tD (l,lc)])]):=by
   have x2:ixN (D.set t (tD (u,g))).length (s:Int)=some s:=by rw[vv];exact x2
   generalize D.set t (tD (u,g))=E at *;generalize tD (u,g)=y1;generalize tD (l,lc)=y2;have sn:∀(f:Fl) (d:Dt),(nrm f d).2=d:=λ_ _=>rfl;refine⟨f1&&(nrm (if y1.flat=true/\y2.flat=true then Fl.nw else Fl.fr).item y2).1.isFr,?_⟩;simp[cOf,x2,sn]
 obtain⟨f2,e3⟩:=e3;refine⟨(M.set t (u,g)).set s (l,lc),.sh true (.tup [tD (u,g),tD (l,lc)]),f2,run e1 (run e2 (by rw[st];exact e3)),⟨ms',ch',by simp[lM],λx hx=>?_⟩⟩;rcases vV hx with hx|rfl
 · rcases vV hx with hx|rfl
   · exact I.lt x hx
   · exact u2
 · exact l2
theorem RP{n r:Nat}{w:Int}{G:aA}{K0:St.Meas}{t:Nat}{M:St.Meas}(b:Mb r n w)(I:Cs n r w G K0 t (t+1) M)(ht:t<r)(c0 c3 c4:Cell)(f:Bool):
  ∃ M' c3' c4' f',forF (Tg.one 3) KF (K2 ((t+1:Nat):Int) (r-(t+1))) [c0,.ow f (M.map tD),.sh false (.int t),c3,c4]=some (.nx [c0,.ow f' (M'.map tD),.sh false (.int t),c3',c4'])/\Cs n r w G K0 (t+1) (t+2) M':=by
 obtain⟨j,e,p⟩:=CW (g:=Tg.one 3) (F:=KF) (λj:St.Meas×Cell×Cell×Bool=>[c0,.ow j.2.2.2 (j.1.map tD),.sh false (.int t),j.2.1,j.2.2.1]) (λs j=>Cs n r w G K0 t s j.1) (r-(t+1)) (t+1) (M,c3,c4,f) I λs j h1 h2 p=>by
  obtain⟨M',c4',f',e,p'⟩:=z0c b p (by rfl') (by rfl') c0 j.2.2.1 j.2.2.2;exact⟨(M',.sh false (.int s),c4',f'),e,p'⟩
 exact⟨j.1,j.2.1,j.2.2.1,j.2.2.2,e,⟨p.ms,p.ch.next (by rw[p.len];rfl'),p.len,p.lt⟩⟩
theorem ch_own(M:St.Meas):∃ f,sOwn 1 (fBlt bLst (f8 (fN 0) fNil)) [.sh false (MD M),.no,.no,.no,.no]=some (.nx [.sh false (MD M),.ow f (M.map tD),.no,.no,.no]):=by
 cases M with
 | nil=>exact⟨true,by simp[cOf,MD]⟩
 | cons x M=>exact⟨false,by simp[cOf,MD,newL,lfl,Dt.flat,E8]⟩
abbrev RA:FI:=n9 (fBlt bLen (f8 (fN 1) fNil))
abbrev RB:FI:=IL (fOp u4 (fN 2) (fC (.int 1))) (fBlt bLen (f8 (fN 1) fNil))
theorem ch_ra(c0:Cell)(D:List Dt)(f:Bool)(h:D.length<=1000):RA [c0,.ow f D,.no,.no,.no]=some (K2 0 D.length):=by
 have ok2:X5 (D.length:Int)=true:=BD (by rfl');cases f<;>simp[cOf,ok2]
theorem ch_rb(c0 d3 d4:Cell)(D:List Dt)(f:Bool)(t:Nat)(h:D.length<=1000)(ht:t<=1000):RB [c0,.ow f D,.sh false (.int t),d3,d4]=some (K2 ((t+1:Nat):Int) (D.length-(t+1))):=by
 have ok1:X5 ((t:Int)+1)=true:=by have:=BD (n:=t+1) (by rfl');rwa [show((t+1:Nat):Int)=(t:Int)+1 by rfl']at this
 have ok2:X5 (D.length:Int)=true:=BD (by rfl');have rg:((D.length:Int)-((t:Int)+1)).toNat=D.length-(t+1):=by rfl'
 have h1:fOp u4 (fN 2) (fC (.int 1)) [c0,.ow f D,.sh false (.int t),d3,d4]=some (.nw,.int ((t:Int)+1)):=by simp[cOf]
 have h2:fBlt bLen (f8 (fN 1) fNil) [c0,.ow f D,.sh false (.int t),d3,d4]=some (.nw,.int (D.length:Int)):=by cases f<;>simp[cOf]
 rw[show((t+1:Nat):Int)=(t:Int)+1 by rfl'];unfold RB IL;rw[h1,v5,h2,v5];have i1:intD ((Fl.nw,Dt.int ((t:Int)+1)):Dv).2=some ((t:Int)+1):=rfl;have i2:intD ((Fl.nw,Dt.int (D.length:Int)):Dv).2=some (D.length:Int):=rfl;rw[i1,v5,i2,v5,ok1,ok2,rg];rfl
theorem z5I{n r:Nat}{w:Int}{G:aA}{K0:St.Meas}{M:St.Meas}{t:Nat}(b:Mb r n w)(I:Cs n r w G K0 t (t+1) M)(ht:t<r)(c0 d2 d3 d4:Cell)(f:Bool):
  ∃ M' c3' c4' f',(Tg.put (Tg.one 2) (.int t) [c0,.ow f (M.map tD),d2,d3,d4]).bind (Ia RB (Tg.one 3) KF)=some (.nx [c0,.ow f' (M'.map tD),.sh false (.int t),c3',c4'])/\Cs n r w G K0 (t+1) (t+2) M':=by
 have r6:=b.r6;obtain⟨M',c3',c4',f',e,p'⟩:=RP b I ht c0 d3 d4 f;refine⟨M',c3',c4',f',?_,p'⟩;have pl:(M.map tD).length=r:=by rw[wv,I.len]
 have it:=ch_rb c0 d3 d4 (M.map tD) f t (by rfl') (by rfl');rw[pl]at it;have pt:Tg.put (Tg.one 2) (.int t) [c0,.ow f (M.map tD),d2,d3,d4]=some [c0,.ow f (M.map tD),.sh false (.int t),d3,d4]:=rfl;rw[pt,v5,z1b,it,v5];exact e
theorem z5J{n r:Nat}{w:Int}{G:aA}{K0:St.Meas}{M:St.Meas}(b:Mb r n w)(I:Cs n r w G K0 0 1 M)(c0:Cell)(f:Bool):∃ M' f' c2 c3 c4,Ia RA (Tg.one 2) (Ia RB (Tg.one 3) KF) [c0,.ow f (M.map tD),.no,.no,.no]=some (.nx [c0,.ow f' (M'.map tD),c2,c3,c4])/\Cs n r w G K0 r (r+1) M':=by
 have r6:=b.r6;generalize hF:Ia RB (Tg.one 3) KF=F;obtain⟨j,e,p⟩:=CW (g:=Tg.one 2) (F:=F) (λj:St.Meas×Cell×Cell×Cell×Bool=>[c0,.ow j.2.2.2.2 (j.1.map tD),j.2.1,j.2.2.1,j.2.2.2.1]) (λs j=>Cs n r w G K0 s (s+1) j.1) r 0 (M,.no,.no,.no,f) I λt j h1 h2 p=>by
  obtain⟨M',c3',c4',f',e,p'⟩:=z5I b p (by rfl') c0 j.2.1 j.2.2.1 j.2.2.2.1 j.2.2.2.2;rw[hF]at e;exact⟨(M',.sh false (.int t),c3',c4',f'),e,p'⟩
 have pl:(M.map tD).length=r:=by rw[wv,I.len]
 have it:=ch_ra c0 (M.map tD) f (by rfl');rw[pl]at it;refine⟨j.1,j.2.2.2.2,j.2.1,j.2.2.1,j.2.2.2.1,?_,by rw[vX]at p;exact p⟩;rw[z1b,it,v5];exact e
theorem z5K(M1:St.Meas)(pos:∀ x∈M1,0<x.2)(c0 c2 c3 c4:Cell)(f1:Bool):n4 2 [] (iSeq (fN 1)) (Tg.many [0,1]) fYes (fTup (f8 (i7 true T9 (f8 (fN 0) (f8 (fN 1) fNil))) (f8 (fN 1) fNil))) [c0,.ow f1 (M1.map tD),c2,c3,c4]=some (.nw,MD (M1.map λx=>(rstR x.2 x.1,x.2))):=by
 rw[o0 (e:=tD) (h:=λx=>tD (rstR x.2 x.1,x.2)) (xs:=M1) (by cases f1<;>simp[cOf]) (λx hx=>by
  have:=FV x.1 x.2 (pos x hx);simp[cOf,tD,this])]
 unfold MD;rw[wV];rfl
theorem z5L{n r:Nat}{w:Int}{G:aA}{K0 M1:St.Meas}(b:Mb r n w)(p:Cs n r w G K0 r (r+1) M1)(pos:∀ x∈M1,0<x.2):Cs n r w G K0 r (r+1) (M1.map λx=>(rstR x.2 x.1,x.2)):=by
 have get:∀ i,i<r->M1[i]?=some (St.mw M1 i,St.mp M1 i):=λi hi=>by
   have hi:i<M1.length:=by rw[p.len];exact hi
   unfold St.mw St.mp;rw[List.getD,wa hi];rfl
 have gm:∀ i,i<r->St.mp (M1.map λx=>(rstR x.2 x.1,x.2)) i=St.mp M1 i/\St.mw (M1.map λx=>(rstR x.2 x.1,x.2)) i=rstR (St.mp M1 i) (St.mw M1 i):=λi hi=>by
   have e:=get i hi;unfold St.mp St.mw at e ⊢;rw[List.getD,wF,e];exact⟨rfl,rfl⟩
 have lm:(M1.map λx=>(rstR x.2 x.1,x.2)).length=r:=by rw[wv,p.len]
 have pl:=p.len;refine⟨p.ms.rest (λx hx=>?_) (by rw[ww,ww,lm,pl]) (λi hi=>?_) (λi hi v=>?_),⟨λi hi=>?_,λi hi=>?_,λi j h1 h2 h3=>?_,λj h1 h2 h3=>?_⟩,lm,λx hx=>?_⟩
 · rcases wo.mp hx with hx|hx
   · obtain⟨y,hy,rfl⟩:=wg.mp hx;show(rstR y.2 y.1).length=n;rw[FU];exact p.ms.rows y (wo.mpr (.inl hy))
   · exact p.ms.rows x (wo.mpr (.inr hx))
 · by_cases h:i<r
   · rw[(St.V2 (by rfl')).1,(St.V2 (by rfl')).1,(gm i h).1]
   · unfold St.mp;rw[St.Ak,St.Ak,lm,pl,if_neg h,if_neg h]
 · by_cases h:i<r
   · rw[(St.V2 (by rfl')).1,(St.V2 (by rfl')).2,(St.V2 (by rfl')).2,(gm i h).2];exact St.z5A (q:=λk=>(St.at0 (St.mw M1 i) k).fdiv (St.mp M1 i)) (λk=>IT _ _ k) v
   · unfold St.mw;rw[St.Ak,St.Ak,lm,pl,if_neg h,if_neg h];exact⟨0,by rfl'⟩
 · rw[(gm i (by rfl')).1];exact p.ch.pos i (by rfl')
 · rw[(gm i (by rfl')).1];exact p.ch.whole i (by rfl')
 · rw[(gm i (by rfl')).1,(gm j (by rfl')).1];exact p.ch.all i j h1 h2 (by rfl')
 · rfl'
 · obtain⟨y,hy,rfl⟩:=wg.mp hx;obtain⟨i,hi,rfl⟩:=wH hy;have w1:=p.ch.whole i hi;unfold St.mp at w1;rw[List.getD,wa hi]at w1;exact RO (pos _ hy) (b.hd w1) _
theorem RQ{n r:Nat}{w:Int}{G:aA}{K0:St.Meas}{M:St.Meas}(b:Mb r n w)(I:Cs n r w G K0 0 1 M):
   ∃ M',W7 [MD M]=some (MD M')/\Cs n r w G K0 r (r+1) M'/\∀ x∈M',∀ y∈x.1,0<=y/\y<x.2:=by
 obtain⟨f,own⟩:=ch_own M;obtain⟨M1,f1,c2,c3,c4,e1,p⟩:=z5J b I (.sh false (MD M)) f;have pos:∀ x∈M1,0<x.2:=λx hx=>by
   obtain⟨i,hi,rfl⟩:=wH hx;have:=p.ch.pos i hi;unfold St.mp at this;rw[List.getD,wa hi]at this;exact this
 have cm:=z5K M1 pos (.sh false (MD M)) c2 c3 c4 f1;have cr:=z5L b p pos;refine⟨M1.map λx=>(rstR x.2 x.1,x.2),?_,cr,λx hx=>?_⟩
 · generalize M1.map (λx=>(rstR x.2 x.1,x.2))=M2 at *;generalize M1.map tD=D1 at *;generalize M.map tD=D at *;have q:AW [.sh false (MD M),.no,.no,.no,.no]=some (.rt .nw (MD M2)):=by
    unfold AW;refine run own (run e1 ?_);unfold sRet;rw[cm];rfl
   unfold W7 cOf;rw[if_pos (show[MD M].length=1 from rfl)];show(AW [.sh false (MD M),.no,.no,.no,.no]).bind _=_;rw[q];rfl
 · obtain⟨y,hy,rfl⟩:=wg.mp hx;exact RK (pos y hy)
theorem bnd899(k:Nat)(h:k<=8):St.bnd k (10 ^ 30)+1<=2 ^ 899:=by
 have:=St.Cv (B:=10 ^ 30) h (by decide) (by decide);have e:St.bnd 8 (10 ^ 30)+1<=2 ^ 899:=by unfold St.bnd;decide
 rfl'
theorem Oe(k:Nat)(h:k<=6):St.bnd k (2 ^ 900)+1<=2 ^ 5461:=by
 have h1:=St.Cv (r:=k) (s:=6) (B:=2 ^ 900) h (wE _) (by decide);have h2:St.bnd 6 (2 ^ 900)<=2 ^ 5460:=by
  unfold St.bnd;have a:2*6*2 ^ 900<=2 ^ 904:=by
   rw[show(904:Nat)=4+900 from rfl,vp];exact wy _ (by decide)
  have b:=uB a 6;rw[←Nat.pow_mul]at b;have c:(2:Nat) ^ 5460=2 ^ (904*6)*2 ^ (6*6):=by rw[←vp]
  rw[c];exact wy _ b
 have h3:(2:Nat) ^ 5460<2 ^ 5461:=ut (by decide) (by decide);rfl'
def YI(xs:aG):Int:=xs.foldl (λt x=>t*x) 1
theorem RR{e:Nat}(xs:aG)(h:∀ x∈xs,x.natAbs<2 ^ e)(he:e*(xs.length+1)<=1000000):DP [L xs]=some (.int (YI xs)):=by
 have key:∀(ys:aG) (t:Int) (k:Nat) (c0 c2:Cell) (f:Bool),(∀ x∈ys,x.natAbs<2 ^ e)->t.natAbs<2 ^ k->k+e*(ys.length+1)<=2000000->∃ f' c2',forF (Tg.one 2) (sSet [] 1 (fOp C3 (fN 1) (fN 2))) (ys.map Dt.int) [c0,.sh f (.int t),c2]=some (.nx [c0,.sh f' (.int (ys.foldl (λt x=>t*x) t)),c2']):=by
  intro ys
  induction ys with
  | nil=>intro t k c0 c2 f _ _ _;exact⟨f,c2,rfl⟩
  | cons y ys ih =>
   intro t k c0 c2 f hy ht hk;have e1:e*(ys.length+1+1)=e*(ys.length+1)+e:=Nat.mul_succ _ _;rw[wn,e1]at hk;have m:C9 t y=true:=R6 ht (hy y we) (by rfl');have b:(t*y).natAbs<2 ^ (k+e):=by rw[wZ,vp];exact uw ht (hy y we)
   obtain⟨f',c2',q⟩:=ih (t*y) (k+e) c0 (.sh false (.int y)) true (λx hx=>hy x (wc _ hx)) b (by rfl');refine⟨f',c2',?_⟩;rw[wm,E4,w0u,←q];have s:(Tg.put (Tg.one 2) (.int y) [c0,.sh f (.int t),c2]).bind (sSet [] 1 (fOp C3 (fN 1) (fN 2)))=some (.nx [c0,.sh true (.int (t*y)),.sh false (.int y)]):=by
    simp[cOf,m]
   rw[s];rfl
 obtain⟨f',c2',q⟩:=key xs 1 1 (.sh false (L xs)) .no true h (by decide) (by rfl');unfold DP Hj;have q:forF (Tg.one 2) (sSet [] 1 (fOp C3 (fN 1) (fN 2))) (xs.map Dt.int) [.sh false (L xs),.sh true (.int 1),.no]=some (.nx [.sh false (L xs),.sh f' (.int (YI xs)),c2']):=q;simp[cOf,q]
theorem z1F(A:aA)(r:Nat):YI ((List.range r).map λi=>St.ent A i i)=St.pr A r:=by
 unfold YI
 induction r with
 | zero=>rfl
 | succ r ih=>rw[uE,vm,w0V,ih];rfl
theorem Kj(P:aA){n:Nat}(h:P.length=n):St.pair P (St.units n)=St.P9 P:=by
 have e0:=Oa P.length 0 P;rw[←w0D]at e0;rw[Kh];unfold St.units;rw[←h];exact e0
structure Mz(n r:Nat)(G:aA)(M:St.Meas):Prop where
 ms:St.Ms n G M
 len:M.length=n
 rn:r<=n
 pos:∀ i,i<r->0<St.mp M i
 dvd:∀ i j,i<j->j<r->St.mp M i∣St.mp M j
 zero:∀ i,r<=i->i<n->St.mp M i=0
 big:∀ x∈M,x.2<2 ^ 5400/\∀ y∈x.1,y.natAbs<2 ^ 5461
theorem Og{n:Nat}{bills G:aA}(n6:n<=6)(es:N0 [j8 n bills]=some (LL G))(Ga:St.Asc n 0 G)(g899:∀ x∈G,St.Lt (2 ^ 899) x):∃ M,L6 [j8 n bills]=some (MD M)/\Mz n G.length G M:=by
 have gl:=St.T8 Ga (wK _);generalize hr:G.length=r at *;have rn:r<=n:=by rfl'
 have gr:∀ x∈G,x.length=n:=λx hx=>(Ga.mem hx).1;have t1:=Hw G n gr (by rfl');have pl:(St.trn n G).length=n:=St.D4 _ _;have tr:∀ x∈St.trn n G,x.length=r:=λx hx=>by rw[St.V6 hx,hr]
 have ent_lt:∀ i k,(St.ent G i k).natAbs<2 ^ 899:=λi k=>by
   by_cases hi:i<G.length
   · exact g899 _ (St.F5 hi) k
   · rw[St.C2 (by rfl')];exact wE _
 have p899:(2:Nat) ^ 899<=2 ^ 900:=wj (by decide) (by decide);have plt:∀ x∈St.pair (St.trn n G) (St.units n),St.Lt (2 ^ 900) x:=λx hx k=>by
   obtain⟨i,hi,rfl⟩:=wH hx;have hi':i<n:=by rw[St.Q3 (by rw[pl,St.G5]),pl]at hi;exact hi
   have e:St.at0 ((St.pair (St.trn n G) (St.units n))[i]) k=St.ent (St.pair (St.trn n G) (St.units n)) i k:=by unfold St.ent;simp[List.getD,wa hi]
   rw[e,St.Cz (n:=n) (r:=r) tr (by rw[pl];exact hi') (by rw[St.G5];exact hi')];split
   · rw[St.J0 gr];have:=ent_lt k i;rfl'
   · rw[St.Hb hi'];have:(1:Nat)<2 ^ 900:=w06 (by decide);split<;>simp<;>rfl'
 obtain⟨S,e2,G2⟩:=EO (n:=r+n) (e:=5461) (eh:=5461) (B:=2 ^ 900) (by rfl') (by decide) (wu _) (by decide) (St.trn n G) (St.units n) (by rw[pl,St.G5]) (St.Md tr (St.z01 n)) plt (wE _) (wj (by decide) (by decide)) (λk hk=>Oe k (by rfl'))
   (λk S hk G0 x hx=>by
     have q:=G0.small (λr hr=>plt r (vY hr)) (wE _) x hx (St.f9 x);have l:=G0.len;have b:=Oe S.length (by rw[vx]at l;rfl');have q:(St.hd x).natAbs<St.bnd S.length (2 ^ 900)+1:=q;have c2:((2 ^ 5461:Nat):Int)=(2:Int) ^ 5461:=by norm_cast
     rfl') (by rfl')
 have sl:S.length=n:=by
   have:=G2.full (by rw[Kj _ pl];exact St.JI tr);rw[this,St.Q3 (by rw[pl,St.G5]),pl]
 have s5461:∀ x∈S,St.Lt (2 ^ 5461) x:=λx hx=>(G2.small plt (wE _) x hx).mono (Oe _ (by rfl'));obtain⟨W,tk,eW,bl,m0,te,_⟩:=St.start Ga hr G2.asc G2.form sl G2.span;have sq:=m0.sq;have wp:0<St.pr (St.tops r S) r:=St.Rw λi hi=>sq.pos hi;have hs:=St.DI (r:=r) G2.span;rw[St.DJ tr (by rw[pl,St.G5])]at hs;have wb:St.pr (St.tops r S) r<=2 ^ (899*r):=St.PC Ga hr sq (λx hx=>by
   have:=hs.iff.mpr (St.r8 hx);refine Lat.Span.trans (λv hv=>?_) this;obtain⟨y,hy,rfl⟩:=wg.mp hv;obtain⟨z,hz,rfl⟩:=wg.mp hy;exact Lat.Span.congr (λk=>by simp only[St.vec];rw[St.J4]) (St.LY (n:=r) G2.asc (St.r8 hz))) (hd_lt Ga g899)
 have b:Mb r n (St.pr (St.tops r S) r):=⟨by rfl',n6,wp,by
   have h1:(2:Nat) ^ (899*r)<=2 ^ 5394:=wj (by decide) (by rfl');have h2:(2:Nat) ^ 5394<2 ^ 5400:=ut (by decide) (by decide);have c1:((2 ^ (899*r):Nat):Int)=(2:Int) ^ (899*r):=by norm_cast
   have c2:((2 ^ 5400:Nat):Int)=(2:Int) ^ 5400:=by norm_cast
   rfl'⟩
 generalize hw:St.pr (St.tops r S) r=w at *;have wl:=m0.wl;have mw0:Mw r n w G (St.bots r S) (St.tops r S) W:=⟨m0,λx hx k=>by
   rw[eW]at hx;obtain⟨y,hy,rfl⟩:=wg.mp hx;rw[St.E7];exact s5461 y (vY hy) _⟩
 obtain⟨A',W',e3,I',hc⟩:=RN b mw0;have br:∀ x∈St.bots r S,x.length=n:=λx hx=>by
   unfold St.bots at hx;obtain⟨y,hy,rfl⟩:=wg.mp hx;rw[wY,(G2.asc.mem (wL.mp hy).1).1];rfl'
 have dl:(N7 A' W').length=r:=by unfold N7;rw[wv,Hy,I'.m.wl]
 have kl:((St.bots r S).map λx=>(x,(0:Int))).length=n-r:=by rw[wv,bl]
 have k0:∀ j,j<n-r->((St.bots r S).map λx=>(x,(0:Int))).getD j ([],0)=((St.bots r S).getD j [],0):=λj hj=>by
   simp[List.getD,wF,wa (show j<(St.bots r S).length by rfl')]
 have ms0:St.Ms n G (N7 A' W'++(St.bots r S).map λx=>(x,(0:Int))):=I'.m.meas hc br _ (by rw[ww,dl,kl,bl])
   (λi hi=>by
     have:=Ki A' W' (i:=i) (by rw[I'.m.wl];exact hi);rw[(St.V2 (by rfl')).1,(St.V2 (by rfl')).2];exact this)
   (λj hj=>by
     unfold St.mw St.mp;rw[St.Ak,dl,if_neg (by rfl'),show r+j-r=j by rfl',k0 j (by rfl')];exact⟨rfl,rfl⟩)
 have cs:Cs n r w G ((St.bots r S).map λx=>(x,(0:Int))) 0 1 (N7 A' W'):=⟨ms0,St.Chn.first (λi hi=>by
     rw[(Ki A' W' (i:=i) (by rw[I'.m.wl];rfl')).2];exact I'.m.sq.pos (by rfl')) (λi hi=>by
     rw[(Ki A' W' (i:=i) (by rw[I'.m.wl];rfl')).2];exact I'.m.sq.whole_col I'.m.whole (by rfl')),dl,λx hx=>by
     unfold N7 at hx;obtain⟨q,hq,rfl⟩:=wg.mp hx;obtain⟨i,hi,rfl⟩:=W8.mp hq;exact I'.wb _ (St.F5 hi)⟩
 obtain⟨M',e4,c',lt'⟩:=RQ b cs;have e5:=Ao S r;refine⟨M'++(St.bots r S).map λx=>(x,(0:Int)),?_,⟨c'.ms,by rw[ww,c'.len,kl];rfl',rn,λi hi=>?_,λi j h1 h2=>?_,λi h1 h2=>?_,λx hx=>?_⟩⟩
 · have u1:∀ d0 d2 d3 d4 d5 d6 d7:Cell,∀ f1,n4 1 [1] (n9 (fN 1)) (Tg.one 0) fYes (i7 true J1 (f8 (fN 1) (f8 (fN 0) fNil))) [d0,.sh f1 (.int n),d2,d3,d4,d5,d6,d7]=some (.nw,LL (St.units n)):=λd0 d2 d3 d4 d5 d6 d7 f1=>by
     rw[o0 (e:=λ(k:Nat) => .int (0+(k:Int))) (h:=λk=>L (St.G3 n k)) (xs:=List.range n) (by simp[cOf,y13 n (by rfl'),w8]) (λj _=>by
      have u:=CU n j (by rfl');simp[cOf,u])]
     simp[LL,St.units]
   have ntk:newL ((S.map L).take r)=newL ((S.take r).map L):=by rw[w0h]
   have c1:∀ d0 d1 d2 d5 d6 d7:Cell,∀ f3 f4,n4 1 [3] (iSeq (fSl (fN 4) B7 (K9 (fN 3)))) (Tg.one 0) fYes (fSl (fN 0) B7 (K9 (fN 1))) [d0,d1,d2,.sh f3 (.int r),.sh f4 (LL S),d5,d6,d7]=some (.nw,LL (St.tops r S)):=λd0 d1 d2 d5 d6 d7 f3 f4=>by
     rw[te,o0 (e:=L) (h:=λx=>L (x.take r)) (xs:=S.take r) (by cases f4<;>simp[cOf,Jz,newL,w0h]) (λx hx=>by simp[cOf,Jz,Y1])];unfold LL;rw[wV];rfl
   have c2:∀ d0 d1 d2 d5 d6 d7:Cell,∀ f3 f4,n4 1 [3] (iSeq (fSl (fN 4) B7 (K9 (fN 3)))) (Tg.one 0) fYes (fSl (fN 0) (K9 (fN 1)) B7) [d0,d1,d2,.sh f3 (.int r),.sh f4 (LL S),d5,d6,d7]=some (.nw,LL W):=λd0 d1 d2 d5 d6 d7 f3 f4=>by
     rw[eW,o0 (e:=L) (h:=λx=>L (x.drop r)) (xs:=S.take r) (by cases f4<;>simp[cOf,Jz,newL,w0h]) (λx hx=>by simp[cOf,Cq,L4])];unfold LL;rw[wV];rfl
   have tl:=sq.len;have c3:∀ d0 d1 d2 d3 d4 d6 d7:Cell,∀ f5,n4 2 [] (X7 (fN 5)) (Tg.many [0,1]) fYes (fAt (fN 1) (fN 0)) [d0,d1,d2,d3,d4,.sh f5 (LL (St.tops r S)),d6,d7]=some (.nw,L ((List.range r).map λi=>St.ent (St.tops r S) i i)):=λd0 d1 d2 d3 d4 d6 d7 f5=>by
     rw[o0 (e:=λp:Nat×aG => .tup [.int p.1,L p.2]) (h:=λp => .int (St.ent (St.tops r S) p.1 p.1)) (xs:=G7 0 (St.tops r S)) (by simp[cOf,Bb]) (λp hp=>by
      obtain⟨i,hi,rfl⟩:=W8.mp hp;rw[vX];have h2:=Od (r:=(St.tops r S).getD i []) (k:=i) (by rw[sq.rows _ (St.F5 hi)];rfl');have x:St.ent (St.tops r S) i i=St.at0 ((St.tops r S).getD i []) i:=rfl;rw[x];generalize (St.tops r S).getD i []=ra at h2 ⊢;simp[cOf,h2])]
     have x:(G7 0 (St.tops r S)).map (λp=>Dt.int (St.ent (St.tops r S) p.1 p.1))=((List.range r).map λi=>St.ent (St.tops r S) i i).map Dt.int:=by
      refine List.ext_getElem? λi=>?_;rw[wF,wF,wF];by_cases hi:i<r
      · rw[Hz 0 _ i (by rfl'),w00 hi,vX];rfl
      · rw[wJ (by rw[Hy];rfl'),wJ (by simp;rfl')];rfl
     rw[x]
   have pe:=RR (e:=5400) ((List.range r).map λi=>St.ent (St.tops r S) i i) (λx hx=>by
     obtain⟨i,hi,rfl⟩:=wg.mp hx;have hi:=wQ.mp hi;have h1:=b.hd (sq.whole_col m0.whole hi);have h2:=sq.pos hi;have c2:((2 ^ 5400:Nat):Int)=(2:Int) ^ 5400:=by norm_cast
     rfl') (by rw[wv,vM];have:=b.r6;rfl')
   rw[z1F,hw]at pe;have k1:∀ d0 d1 d2 d5 d6 d7:Cell,∀ f3 f4,∃ fl,n4 1 [] (iSeq (i7 true A9 (f8 (fN 4) (f8 (fN 3) fNil)))) (Tg.one 0) fYes (fTup (f8 (fN 0) (f8 (fC (.int 0)) fNil))) [d0,d1,d2,.sh f3 (.int r),.sh f4 (LL S),d5,d6,d7]=some (fl,MD ((St.bots r S).map λx=>(x,(0:Int)))):=λd0 d1 d2 d5 d6 d7 f3 f4=>by
     have key:=Jw (nt:=1) (js:=[]) (Fi:=iSeq (i7 true A9 (f8 (fN 4) (f8 (fN 3) fNil)))) (g:=Tg.one 0) (Fe:=fTup (f8 (fN 0) (f8 (fC (.int 0)) fNil))) (ρ:=[d0,d1,d2,.sh f3 (.int r),.sh f4 (LL S),d5,d6,d7]) (e:=L) (h:=λx=>(.sh,.tup [L x,.int 0])) (xs:=St.bots r S) (by simp[cOf,e5]) (λx hx=>by simp[cOf];rfl);have x:MD ((St.bots r S).map λx=>(x,(0:Int))) = .lst ((St.bots r S).map λx => .tup [L x,.int 0]):=by
      unfold MD;rw[wV];rfl
     rw[x];exact⟨_,key⟩
   have cat:∀ fa fb,∃ fl,fOp u4 (λ_=>some (fa,MD M')) (λ_=>some (fb,MD ((St.bots r S).map λx=>(x,(0:Int))))) []=some (fl,MD (M'++(St.bots r S).map λx=>(x,(0:Int)))):=λfa fb=>by
     have l1:(M'.map λx=>Dt.tup [L x.1,.int x.2]).length<=6:=by rw[wv,c'.len];exact b.r6
     have l2:(((St.bots r S).map λx=>(x,(0:Int))).map λx=>Dt.tup [L x.1,.int x.2]).length<=6:=by rw[wv,kl];rfl'
     have x:MD (M'++(St.bots r S).map λx=>(x,(0:Int))) = .lst ((M'.map λx=>Dt.tup [L x.1,.int x.2])++(((St.bots r S).map λx=>(x,(0:Int))).map λx=>Dt.tup [L x.1,.int x.2])):=by unfold MD;rw[vm]
     rw[x];unfold MD;generalize M'.map (λx=>Dt.tup [L x.1,.int x.2])=D1 at *;generalize ((St.bots r S).map λx=>(x,(0:Int))).map (λx=>Dt.tup [L x.1,.int x.2])=D2 at *;have y:u4 (.lst D1) (.lst D2)=Cj (.lst D1) (.lst D2):=rfl;refine⟨lfl (D1++D2),?_⟩;show u4 (.lst D1) (.lst D2)=_;rw[y,Cj,if_pos (by rfl')];rfl
   have fin:∀ d0 d1 d2 d5 d6:Cell,∀ f3 f4 f7,∃ fl,fOp u4 (i7 true W7 (f8 (fN 7) fNil)) (n4 1 [] (iSeq (i7 true A9 (f8 (fN 4) (f8 (fN 3) fNil)))) (Tg.one 0) fYes (fTup (f8 (fN 0) (f8 (fC (.int 0)) fNil)))) [d0,d1,d2,.sh f3 (.int r),.sh f4 (LL S),d5,d6,.sh f7 (MD (N7 A' W'))]=some (fl,MD (M'++(St.bots r S).map λx=>(x,(0:Int)))):=λd0 d1 d2 d5 d6 f3 f4 f7=>by
     obtain⟨fb,k1⟩:=k1 d0 d1 d2 d5 d6 (.sh f7 (MD (N7 A' W'))) f3 f4;have k2:∃ fa,i7 true W7 (f8 (fN 7) fNil) [d0,d1,d2,.sh f3 (.int r),.sh f4 (LL S),d5,d6,.sh f7 (MD (N7 A' W'))]=some (fa,MD M'):=by
      generalize MD (N7 A' W')=Y at *;generalize MD M'=Z at *;have sn:∀(f:Fl) (d:Dt),(nrm f d).2=d:=λ_ _=>rfl;refine⟨(nrm .nw Z).1,?_⟩;simp[cOf,sn,e4]
     obtain⟨fa,k2⟩:=k2;obtain⟨fl,q⟩:=cat fa fb;refine⟨fl,?_⟩;unfold fOp at q ⊢;rw[k1,k2];exact q
   obtain⟨fl,fin⟩:=fin (.sh false (j8 n bills)) (.sh true (.int n)) (.sh true (LL G)) (.sh true (LL (St.tops r S))) (.sh true (.int w)) true true false;have q:Y9 [.sh false (j8 n bills),.no,.no,.no,.no,.no,.no,.no]=some (.rt fl (MD (M'++(St.bots r S).map λx=>(x,(0:Int))))):=by
     unfold Y9;refine run (by simp[cOf];rfl) ?_;refine run (by simp[cOf,es];rfl) ?_;refine run (by simp[cOf,hr];rfl) ?_;refine run (ρ':=[.sh false (j8 n bills),.sh true (.int n),.sh true (LL G),.sh true (.int r),.sh true (LL S),.no,.no,.no]) (by
      have:=u1 (.sh false (j8 n bills)) (.sh true (LL G)) (.sh true (.int r)) .no .no .no .no true;simp[cOf,t1,this,e2]) ?_
     refine run (ρ':=[.sh false (j8 n bills),.sh true (.int n),.sh true (LL G),.sh true (.int r),.sh true (LL S),.sh true (LL (St.tops r S)),.no,.no]) (by
      have:=c1 (.sh false (j8 n bills)) (.sh true (.int n)) (.sh true (LL G)) .no .no .no true true;simp[cOf,this]) ?_
     refine run (ρ':=[.sh false (j8 n bills),.sh true (.int n),.sh true (LL G),.sh true (.int r),.sh true (LL S),.sh true (LL (St.tops r S)),.sh true (.int w),.no]) (by
      have:=c3 (.sh false (j8 n bills)) (.sh true (.int n)) (.sh true (LL G)) (.sh true (.int r)) (.sh true (LL S)) .no .no true;generalize (List.range r).map (λi=>St.ent (St.tops r S) i i)=xs at *;simp[cOf,this,pe]) ?_
     refine run (ρ':=[.sh false (j8 n bills),.sh true (.int n),.sh true (LL G),.sh true (.int r),.sh true (LL S),.sh true (LL (St.tops r S)),.sh true (.int w),.sh false (MD (N7 A' W'))]) (by
      have:=c2 (.sh false (j8 n bills)) (.sh true (.int n)) (.sh true (LL G)) (.sh true (LL (St.tops r S))) (.sh true (.int w)) .no true true;have nf:∀ f,nrm f (MD (N7 A' W'))=(f,MD (N7 A' W')):=λf=>rfl;generalize MD (N7 A' W')=Y at *;simp[cOf,this,e3,nf]
      try rfl) ?_
     unfold sRet;rw[fin];rfl
   unfold L6 cOf;rw[if_pos (show[j8 n bills].length=1 from rfl)];show(Y9 [.sh false (j8 n bills),.no,.no,.no,.no,.no,.no,.no]).bind _=_;rw[q];rfl
 · rw[(St.V2 (by rw[c'.len];exact hi)).1];exact c'.ch.pos i (by rw[c'.len];exact hi)
 · rw[(St.V2 (by rw[c'.len];rfl')).1,(St.V2 (by rw[c'.len];rfl')).1];exact c'.ch.all i j (by rfl') h1 (by rw[c'.len];rfl')
 · unfold St.mp;rw[St.Ak,c'.len,if_neg (by rfl'),k0 _ (by rfl')]
 · rcases wo.mp hx with hx|hx
   · obtain⟨i,hi,rfl⟩:=wH hx;have w1:=c'.ch.whole i hi;unfold St.mp at w1;rw[List.getD,wa hi]at w1;have h1:=b.hd w1;refine⟨h1,λy hy=>?_⟩;have h2:=lt' _ hx y hy;have h3:(2:Nat) ^ 5400<=2 ^ 5461:=wj (by decide) (by decide);have c2:((2 ^ 5400:Nat):Int)=(2:Int) ^ 5400:=by norm_cast
     have h1:M'[i].2<2 ^ 5400:=h1;rfl'
   · obtain⟨z,hz,rfl⟩:=wg.mp hx;refine⟨Int.pow_pos (by decide),λy hy=>?_⟩;unfold St.bots at hz;obtain⟨u,hu,rfl⟩:=wg.mp hz;obtain⟨k,hk⟩:=PH hy;rw[←hk];show(St.at0 (u.drop r) k).natAbs<_;rw[St.E7];exact s5461 u (wL.mp hu).1 _
theorem z0d{n:Nat}{bills:aA}{M:St.Meas}(h:L6 [j8 n bills]=some (MD M)):Q7 [j8 n bills]=some (MD (M.filter λx=>!decide (x.2=1))):=by
 have key:∃ f,n4 2 [] (iSeq (i7 false L6 (f8 (fN 0) fNil))) (Tg.many [0,1]) (o9 (fOp opNe (fN 1) (fC (.int 1)))) (fTup (f8 (fN 0) (f8 (fN 1) fNil))) [.sh false (j8 n bills)]=some (f,MD (M.filter λx=>!decide (x.2=1))):=by
  unfold n4;have nf:nrm .sh (MD M)=(.sh,MD M):=rfl;have it:iSeq (i7 false L6 (f8 (fN 0) fNil)) [.sh false (j8 n bills)]=some (M.map tD):=by
   have e:seqD (MD M)=some (M.map tD):=rfl;generalize MD M=Y at *;simp[cOf,h,nf,e]
  rw[it,v5,BB tD (λx=>(.sh,tD x)) (λx=>!decide (x.2=1)) M (λx _=>by simp[cOf,tD,A8]) (λx _ _=>by simp[cOf,tD];rfl),v5,Co];exact⟨_,rfl⟩
 obtain⟨f,key⟩:=key;have q:CL [.sh false (j8 n bills)]=some (.rt f (MD (M.filter λx=>!decide (x.2=1)))):=by
  unfold CL sRet;rw[key];rfl
 unfold Q7 cOf;rw[if_pos (show[j8 n bills].length=1 from rfl)];show(CL [.sh false (j8 n bills)]).bind _=_;rw[q];rfl
def dotL(w r:aG):Int:=(List.range r.length).foldl (λt k=>t+St.at0 w k*St.at0 r k) 0
theorem IU(w r:aG):dotL w r=St.dt r.length w (St.vec r):=by
 unfold dotL St.dt;have key:∀(n:Nat) (f:Nat->Int) (t:Int),(List.range n).foldl (λt k=>t+f k) t=t+St.sm n f:=by
  intro n
  induction n with
  | zero=>intro f t;simp[St.sm]
  | succ n ih =>
   intro f t;rw[uM,w0u,w1m,St.sm];have:=ih (λk=>f (k+1)) (t+f 0);rw[this];rfl'
 rw[key r.length (λk=>St.at0 w k*St.at0 r k) 0,w0r]
theorem Kk{e:Nat}(w r:aG)(h:w.length=r.length)(h1:∀ x∈w,x.natAbs<2 ^ e)(h2:∀ x∈r,x.natAbs<2 ^ e)(he:e<=60000000)(hr:r.length<=1000):S7 [L w,L r]=some (.int (dotL w r)):=by
 obtain⟨j,q⟩:=Rs (g:=Tg.one 3) (F:=sSet [] 2 (fOp u4 (fN 2) (fOp C3 (fAt (fN 0) (fN 3)) (fAt (fN 1) (fN 3))))) (R:=λi (c:Cell)=>[.sh false (L w),.sh false (L r),.sh true (.int ((List.range i).foldl (λt k=>t+St.at0 w k*St.at0 r k) 0)),c]) r.length .no (λi c hi=>⟨.sh false (.int i),by
  have a1:=Od (r:=w) (k:=i) (by rfl');have a2:=Od (r:=r) (k:=i) hi;have m:C9 (St.at0 w i) (St.at0 r i)=true:=R6 (St.DG (wE e) h1 i) (St.DG (wE e) h2 i) (by rfl');rw[uE,w0V];generalize (List.range i).foldl (λt k=>t+St.at0 w k*St.at0 r k) 0=t;simp[cOf,a1,a2,m]⟩)
 unfold S7 Hr;have q:forF (Tg.one 3) (sSet [] 2 (fOp u4 (fN 2) (fOp C3 (fAt (fN 0) (fN 3)) (fAt (fN 1) (fN 3))))) (K2 0 r.length) [.sh false (L w),.sh false (L r),.sh true (.int 0),.no]=some (.nx [.sh false (L w),.sh false (L r),.sh true (.int (dotL w r)),j]):=q;simp[cOf,y13 r.length (by rfl'),q]
def okS(d:aG)(x:aG×Int):Bool:=if x.2=0 then decide (dotL x.1 d=0) else decide ((dotL x.1 d).fmod x.2=0)
theorem Oh{d:aG}{x:aG×Int}:okS d x=true↔x.2∣dotL x.1 d:=by
 unfold okS;by_cases h:x.2=0
 · rw[if_pos h,h,decide_eq_true_iff];exact w0T.symm
 · rw[if_neg h,decide_eq_true_iff];exact⟨uH,w0n⟩
theorem z1G{n r:Nat}{G bills:aA}{M:St.Meas}{d:aG}(Z:Mz n r G M)(hs:Lat.SameSpan (St.vecs G) (St.vecs bills))(hd:d.length=n):
   ((M.filter λx=>!decide (x.2=1)).all (okS d)=true)↔Lat.Span (St.vecs bills) (λk=>St.at0 d k):=by
 rw[←hs.iff,Z.ms.ker _ (λk hk=>St.B4 (by rfl')),uu];constructor
 · intro h i hi;have m:(St.mw M i,St.mp M i)∈M:=by
     unfold St.mw St.mp;rw[List.getD,wa hi];exact vn hi
   by_cases h1:St.mp M i=1
   · rw[h1];exact Int.one_dvd _
   · have:=Oh.mp (h _ (wL.mpr ⟨m,by simp[h1]⟩));rw[IU,hd]at this;exact this
 · intro h x hx;obtain⟨i,hi,rfl⟩:=wH (wL.mp hx).1;have:=h i hi;unfold St.mw St.mp at this;rw[List.getD,wa hi]at this;refine Oh.mpr ?_;rw[IU,hd];exact this
theorem z1H(a:Int):CG [.int a,.int 0]=some (.int a):=by
 unfold CG NP;simp[cOf,v8]
theorem z5M(w r:aG)(h:r.length=w.length):((r.zip w).map λp=>p.1*p.2).sum=dotL w r:=by
 rw[IU];unfold St.dt
 induction r generalizing w with
 | nil=>cases w with
  | nil=>rfl
  | cons x w=>cases h
 | cons y r ih=>cases w with
  | nil=>cases h
  | cons x w =>
   rw[ue,wm,List.sum_cons,wn,St.sm,ih w (by simpa using h),wM];rfl
theorem RS{e:Nat}(dd:Dt)(r w:aG)(hdd:RowD dd r)(h:r.length=w.length)(h1:∀ x∈w,x.natAbs<2 ^ e)(h2:∀ x∈r,x.natAbs<2 ^ e)(he:e<=60000000):DL [dd,L w]=some (.int (dotL w r)):=by
 have q:n4 2 [] (iZip (fN 0) (fN 1)) (Tg.many [0,1]) fYes (fOp C3 (fN 0) (fN 1)) [.sh false dd,.sh false (L w)]=some (.nw,.lst ((r.zip w).map λp => .int (p.1*p.2))):=by
  rw[o0 (e:=λp:Int×Int => .tup [.int p.1,.int p.2]) (h:=λp => .int (p.1*p.2)) (xs:=r.zip w) (by rcases hdd with rfl|rfl<;>simp[cOf,h,X9]) (λp hp=>by
   have m:C9 p.1 p.2=true:=R6 (h2 _ (vt hp).1) (h1 _ (vt hp).2) (by rfl');simp[cOf,m])]
 have e2:Bv ((r.zip w).map λp=>Dt.int (p.1*p.2))=some ((r.zip w).map λp=>p.1*p.2):=by
  have:=Ic ((r.zip w).map λp=>p.1*p.2);rw[wV]at this;exact this
 have s:=z5M w r h;unfold DL Hd;generalize (r.zip w).map (λp=>Dt.int (p.1*p.2))=D at *;generalize (r.zip w).map (λp=>p.1*p.2)=D2 at *;rcases hdd with rfl|rfl<;>simp[cOf,q,bSum,e2,s]
def mdS(d:aG)(x:aG×Int):aG×Int:=(x.1,if x.2=0 then((dotL x.1 d).natAbs:Int)+1 else x.2)
theorem z5N{e:Nat}{dd:Dt}{d:aG}{x:aG×Int}(hdd:RowD dd d)(h:d.length=x.1.length)(h1:∀ y∈x.1,y.natAbs<2 ^ e)(h2:∀ y∈d,y.natAbs<2 ^ e)(he:e<=60000000)(hp:0<=x.2):
   CM [dd,tD x]=some (.int (if x.2=0 then dotL x.1 d else(dotL x.1 d).fmod x.2)):=by
 obtain⟨w,p⟩:=x;have e1:=RS dd d w hdd h h1 h2 he;have sn:∀(f:Fl) (d:Dt),(nrm f d).2=d:=λ_ _=>rfl;clear hdd;unfold CM Ry tD;by_cases hp0:p=0
 · subst hp0;have:=z1H (dotL w d);simp[cOf,sn,e1,this]
 · have:=YH (dotL w d) p (by dsimp only at hp;rfl');simp[cOf,sn,e1,this,hp0]
theorem PY(d:aG)(x:aG×Int):G6 [tD x,.int (if x.2=0 then dotL x.1 d else(dotL x.1 d).fmod x.2)]=some (tD (mdS d x)):=by
 obtain⟨w,p⟩:=x;unfold G6 S5 tD mdS;by_cases hp0:p=0
 · subst hp0;simp[cOf,v8,bAbs];split<;>rfl'
 · simp[cOf,v8,hp0]
abbrev DF:FS:=(sSeq (sSet [] 5 (i7 true CM (f8 (fN 3) (f8 (fN 4) fNil))))
 (sIf (o9 (fOp opNe (fN 5) (fC (.int 0)))) (sRet (i7 false G6 (f8 (fN 4) (f8 (fN 5) fNil)))) v4))
theorem PZ{d:aG}(c0 c1 c2:Cell):∀(Q:St.Meas) (c4 c5:Cell),(∀ x∈Q,CM [L d,tD x]=some (.int (if x.2=0 then dotL x.1 d else(dotL x.1 d).fmod x.2))) ->
  (Q.all (okS d)=true/\∃ c4' c5',forF (Tg.one 4) DF (Q.map tD) [c0,c1,c2,.sh true (L d),c4,c5]=some (.nx [c0,c1,c2,.sh true (L d),c4',c5'])) \/
  (Q.all (okS d)=false/\∃ x∈Q,¬okS d x=true/\∃ f,forF (Tg.one 4) DF (Q.map tD) [c0,c1,c2,.sh true (L d),c4,c5]=some (.rt f (tD (mdS d x))))
 | [],c4,c5,_ => .inl ⟨rfl,c4,c5,rfl⟩
 | x::Q,c4,c5,h=>by
  have e1:=h x we;have e2:=PY d x;have hok:okS d x=decide ((if x.2=0 then dotL x.1 d else(dotL x.1 d).fmod x.2)=0):=by unfold okS;split<;>rfl
  rw[wm,E4,List.all_cons];have sn:∀(f:Fl) (d:Dt),(nrm f d).2=d:=λ_ _=>rfl;generalize (if x.2=0 then dotL x.1 d else(dotL x.1 d).fmod x.2)=v at *;by_cases hv:v=0
  · have ok:okS d x=true:=by rw[hok,decide_eq_true hv]
    have st:(Tg.put (Tg.one 4) (tD x) [c0,c1,c2,.sh true (L d),c4,c5]).bind DF=some (.nx [c0,c1,c2,.sh true (L d),.sh false (tD x),.sh true (.int v)]):=by
      generalize tD x=X at *;simp[cOf,sn,e1,A8,hv]
    rw[st,ok,w0H];rcases PZ c0 c1 c2 Q (.sh false (tD x)) (.sh true (.int v)) (λy hy=>h y (wc _ hy)) with⟨a,c4',c5',q⟩|⟨a,y,hy,ny,f,q⟩
    · exact .inl ⟨a,c4',c5',q⟩
    · exact .inr ⟨a,y,wc _ hy,ny,f,q⟩
  · have no:okS d x=false:=by rw[hok,decide_eq_false hv]
    have st:∃ f,(Tg.put (Tg.one 4) (tD x) [c0,c1,c2,.sh true (L d),c4,c5]).bind DF=some (.rt f (tD (mdS d x))):=by
      generalize tD (mdS d x)=Y at *;generalize tD x=X at *;refine⟨(nrm .sh Y).1,?_⟩;simp[cOf,sn,e1,e2,A8,hv]
    obtain⟨f,st⟩:=st;rw[st,no];exact .inr ⟨rfl,x,we,by rw[no];exact wN,f,rfl⟩
theorem Oi{n:Nat}{bills:aA}{Q:St.Meas}{one other:aG}(ec:Q7 [j8 n bills]=some (MD Q))(h1:one.length=n)(h2:other.length=n)(ht:∀ x∈Q,CM [L (subR other one),tD x]=some (.int (if x.2=0 then dotL x.1 (subR other one) else(dotL x.1 (subR other one)).fmod x.2))):
   (Q.all (okS (subR other one))=true/\Z0 [j8 n bills,L one,L other]=some .non)\/(Q.all (okS (subR other one))=false/\∃ x∈Q,¬okS (subR other one) x=true/\Z0 [j8 n bills,L one,L other]=some (tD (mdS (subR other one) x))):=by
 have ap:=PL n bills one other h1 h2;generalize subR other one=d at *;have e0:sSet [] 3 (i7 true DO (f8 (fN 0) (f8 (fN 1) (f8 (fN 2) fNil)))) [.sh false (j8 n bills),.sh false (L one),.sh false (L other),.no,.no,.no]=some (.nx [.sh false (j8 n bills),.sh false (L one),.sh false (L other),.sh true (L d),.no,.no]):=by simp[cOf,ap]
 have it:iSeq (i7 false Q7 (f8 (fN 0) fNil)) [.sh false (j8 n bills),.sh false (L one),.sh false (L other),.sh true (L d),.no,.no]=some (Q.map tD):=by
   have nf:nrm .sh (MD Q)=(.sh,MD Q):=rfl;have e:seqD (MD Q)=some (Q.map tD):=rfl;generalize MD Q=Y at *;simp[cOf,ec,nf,e]
 have fin:∀ o,forF (Tg.one 4) DF (Q.map tD) [.sh false (j8 n bills),.sh false (L one),.sh false (L other),.sh true (L d),.no,.no]=some o->sFor [] (iSeq (i7 false Q7 (f8 (fN 0) fNil))) (Tg.one 4) DF [.sh false (j8 n bills),.sh false (L one),.sh false (L other),.sh true (L d),.no,.no]=some o:=λo h=>by
   show(iSeq (i7 false Q7 (f8 (fN 0) fNil)) [.sh false (j8 n bills),.sh false (L one),.sh false (L other),.sh true (L d),.no,.no]).bind _=_;rw[it];exact h
 have out:∀ f v,AY [.sh false (j8 n bills),.sh false (L one),.sh false (L other),.no,.no,.no]=some (.rt f v)->Z0 [j8 n bills,L one,L other]=some v:=λf v q=>by
   unfold Z0 cOf;rw[if_pos (show[j8 n bills,L one,L other].length=3 from rfl)];show(AY [.sh false (j8 n bills),.sh false (L one),.sh false (L other),.no,.no,.no]).bind _=_;rw[q];rfl
 rcases PZ (.sh false (j8 n bills)) (.sh false (L one)) (.sh false (L other)) Q .no .no ht with⟨a,c4,c5,q⟩|⟨a,x,hx,nx,f,q⟩
 · refine .inl ⟨a,out .nw .non ?_⟩;unfold AY;refine run e0 (run (fin _ q) ?_);simp[cOf]
 · refine .inr ⟨a,x,hx,nx,out f _ ?_⟩;unfold AY;refine run e0 ?_;show(sFor [] (iSeq (i7 false Q7 (f8 (fN 0) fNil))) (Tg.one 4) DF [.sh false (j8 n bills),.sh false (L one),.sh false (L other),.sh true (L d),.no,.no]).bind (seqO _)=_;rw[fin _ q];rfl
theorem Oj{n:Nat}{bills:aA}{one other d w:aG}{m:Int}(n6:n<=6)(wd:Wide n bills)(lt:∀ r∈bills,∀ x∈r,x.natAbs<2 ^ 900)(h1:one.length=n)(h2:other.length=n)(hd:addR other (sclR (-1) one)=d)(hw:w.length=n)(hm:2<=m)(b1:∀ x∈w,x.natAbs<2 ^ 5461)(b2:∀ x∈d,x.natAbs<2 ^ 5461)
  (ev:∀ b∈bills,(dotL w b).fmod m=0) (od:¬(dotL w d).fmod m=0):Z2 [LL bills,L one,L other,tD (w,m)]=some (.bl true):=by
 have p1:=Mj other one (-1) (by rfl') (by rfl') (λx _=>P7 (by decide));have hdl:d.length=n:=by rw[←hd,P8 (by rw[v9];rfl')];exact h2
 rw[hd]at p1;have hv:=Kk (e:=5461) w d (by rw[hw,hdl]) b1 b2 (by decide) (by rfl');have ir:=CT w n;rw[hw,decide_eq_true rfl]at ir;have iw:N1 [.int m]=some (.bl true):=by unfold N1 DS;simp[cOf]
 obtain⟨j,q⟩:=DC (g:=Tg.one 4) (F:=(sIf (o9 (fOp opNe (fOp E3 (i7 true S7 (f8 (fAt (fN 3) (fC (.int 0))) (f8 (fN 4) fNil))) (fAt (fN 3) (fC (.int 1)))) (fC (.int 0)))) (sRet (fC (.bl false))) v4)) (e:=L) (R:=λ(_:Unit) (c:Cell)=>[.sh false (LL bills),.sh false (L one),.sh false (L other),.sh false (tD (w,m)),c]) (step:=λ_ _=>()) bills () .no
  (fun _ b c hb=>⟨.sh false (L b),by
   have e:=Kk (e:=5461) w b (by rw[hw,wd b hb]) b1 (λx hx=>wB (lt b hb x hx) (wj (by decide) (by decide))) (by decide) (by rw[wd b hb];rfl');have z:=ev b hb;unfold tD;simp[cOf,e,M8 (show 0<m by rfl'),z,A8]⟩)
 unfold Z2 EJ;have q:forF (Tg.one 4) (sIf (o9 (fOp opNe (fOp E3 (i7 true S7 (f8 (fAt (fN 3) (fC (.int 0))) (f8 (fN 4) fNil))) (fAt (fN 3) (fC (.int 1)))) (fC (.int 0)))) (sRet (fC (.bl false))) v4) (bills.map L) [.sh false (LL bills),.sh false (L one),.sh false (L other),.sh false (.tup [L w,.int m]),.no]=some (.nx [.sh false (LL bills),.sh false (L one),.sh false (L other),.sh false (.tup [L w,.int m]),j]):=q;unfold tD;simp[cOf,h1,ir,iw,show ¬m<2 by rfl',q,p1,hv,M8 (show 0<m by rfl'),A8,od]
theorem z1I{n:Nat}{S:aA}{M:St.Meas}(Z:Mz n S.length S M):∀ x∈M,0<=x.2:=λx hx=>by
 obtain⟨i,hi,rfl⟩:=wH hx;have e:M[i].2=St.mp M i:=by unfold St.mp;rw[List.getD,wa hi];rfl
 rw[e];by_cases q:i<S.length
 · have:=Z.pos i q;rfl'
 · rw[Z.zero i (by rfl') (by rw[←Z.len];exact hi)];rfl'
theorem z5O{n:Nat}{bills S:aA}{M:St.Meas}(wd:∀ b∈bills,b.length=n)(hs:Lat.SameSpan (St.vecs S) (St.vecs bills))(Z:Mz n S.length S M):∀ x∈M,∀ bl∈bills,x.2∣dotL x.1 bl:=λx hx bl hb=>by
 obtain⟨i,hi,rfl⟩:=wH hx;have sp:Lat.Span (St.vecs S) (λk=>St.at0 bl k):=hs.iff.mpr (St.r8 hb);have:=(Z.ms.ker _ (λk hk=>St.B4 (by rw[wd bl hb];exact hk))).mp sp i hi;unfold St.mw St.mp at this;rw[List.getD,wa hi]at this;rw[IU,wd bl hb];exact this
theorem z1J{n:Nat}{one other:aG}(l1:one.length=n)(l2:other.length=n):addR other (sclR (-1) one)=subR other one:=St.ext0 (by rw[P8 (by rw[v9];rfl'),Fo (by rfl')]) λk=>by rw[FG (by rw[v9];rfl'),Al,AU (by rfl')];rfl'
theorem z5P{n:Nat}{bills S:aA}{M:St.Meas}{one other:aG}(n6:n<=6)(wd:Wide n bills)(lt:∀ r∈bills,∀ x∈r,x.natAbs<2 ^ 900)(span:Lat.SameSpan (St.vecs S) (St.vecs bills))(em:L6 [j8 n bills]=some (MD M))(Z:Mz n S.length S M)(l1:one.length=n)(l2:other.length=n)(sb:St.Lt (2 ^ 5461) (subR other one))(sp:¬Lat.Span (St.vecs bills) (λk=>St.at0 other k-St.at0 one k)):
   ∃ Y,Z0 [j8 n bills,L one,L other]=some Y/\Z2 [LL bills,L one,L other,Y]=some (.bl true)/\AJ Y .non=some (.nw,.bl false)/\∀ f,nrm f Y=(f,Y):=by
 have ec:=z0d em;have hsl:(subR other one).length=n:=by rw[Fo (by rfl')];exact l2
 have ae:=z1G Z span hsl;have hsp:(λk=>St.at0 (subR other one) k)=λk=>St.at0 other k-St.at0 one k:=funext λk=>AU (by rfl') k;rw[hsp]at ae;have hrow:∀ x∈M.filter (λx=>!decide (x.2=1)),x∈M/\x.2≠1:=λx hx=>by
   obtain⟨hm,h1⟩:=wL.mp hx;exact⟨hm,by simpa using h1⟩
 have sbt:=R8 sb;have ht:∀ x∈M.filter (λx=>!decide (x.2=1)),CM [L (subR other one),tD x]=some (.int (if x.2=0 then dotL x.1 (subR other one) else(dotL x.1 (subR other one)).fmod x.2)):=λx hx =>
   z5N (e:=5461) (.inl rfl) (by rw[Z.ms.rows x (hrow x hx).1,hsl]) (Z.big x (hrow x hx).1).2 sbt (by decide) (z1I Z x (hrow x hx).1)
 rcases Oi ec l1 l2 ht with⟨a,_⟩|⟨a,x,hx,nx,dn⟩
 · exact absurd (ae.mp a) sp
 · have hm:=(hrow x hx).1;have h1:=(hrow x hx).2;have h0:=z1I Z x hm;have hno:¬x.2∣dotL x.1 (subR other one):=λq=>nx (Oh.mpr q);refine⟨_,dn,?_,rfl,λf=>rfl⟩;unfold mdS;refine Oj n6 wd lt l1 l2 (z1J l1 l2) (Z.ms.rows x hm) ?_ (Z.big x hm).2 sbt (λbl hbl=>?_) ?_
   · split
     · rename_i h0;rw[h0]at hno;have:dotL x.1 (subR other one)≠0:=λq=>hno (by rw[q];exact w0S 0);rfl'
     · rfl'
   · have:=z5O wd span Z x hm bl hbl;split
     · rename_i h0;rw[h0]at this;rw[w0T.mp this];simp
     · exact w0n this
   · split
     · rename_i h0;rw[h0]at hno;intro q;have q:=uH q;have nz:dotL x.1 (subR other one)≠0:=λq=>hno (by rw[q];exact w0S 0);have:=Int.natAbs_dvd_natAbs.mpr q;have:=Nat.le_of_dvd (by rfl') this;rfl'
     · exact λq=>hno (uH q)
theorem Ol(n:Nat)(a b:aA):An [j8 n a,j8 n b]=some .non:=by
 unfold An CN;simp[cOf,A8]
theorem z0e(a b:aA)(h:a.length+b.length<=1000):NG (TTu a) (TTu b)=some (.nw,TTu (a++b)):=by
 have e1:(a.map T).length+(b.map T).length<=1000000:=by simp;rfl'
 show(if(a.map T).length+(b.map T).length<=1000000 then some (if E8 (a.map T++b.map T) then Fl.nw else .sh,Dt.tup (a.map T++b.map T)) else none)=_;rw[if_pos e1,←vm];have f:E8 ((a++b).map T)=true:=by
  generalize a++b=c
  induction c with
  | nil=>rfl
  | cons x c ih=>simp[E8,ih,T,Dt.flat]
 rw[f];rfl
theorem RT{n:Nat}{O T J:aA}(h:O.length+T.length<=1000)(q:J7 [TTu (O++T)]=some (LL J)):N6 [j8 n O,j8 n T]=some (j8 n J):=by
 have nl:=Ol n O T;have ct:=z0e O T h;have hby:=EL n J;unfold N6 JV;simp[cOf,nl,ct,q,hby]
theorem Kl{n e B:Nat}{O T:aA}(n6:n<=6)(wO:Wide n O)(wT:Wide n T)(bO:∀ r∈O,St.Lt B r)(bT:∀ r∈T,St.Lt B r)(hB:0<B)(hBe:B<=2 ^ e)(he:e<=8990)(l:O.length+T.length<=20)(hb:∀ k,k<=O.length+T.length->St.bnd k B+1<=2 ^ e):∃ J,N6 [j8 n O,j8 n T]=some (j8 n J)/\St.Good n B (O++T) J:=by
 obtain⟨J,q,G⟩:=EN (n:=n) (e:=e) (B:=B) L2.T (λr => .inr rfl) (by rfl') he (O++T) (TTu (O++T)) (.inr rfl) (λr hr=>(wo.mp hr).elim (wO r) (wT r)) (λr hr=>(wo.mp hr).elim (bO r) (bT r)) hB hBe (λk hk=>hb k (by simpa using hk)) (by simpa using l);exact⟨J,RT (by rfl') q,G⟩
theorem z1K(a b:aA)(h:a.length+b.length<=1000):∃ f,u4 (LL a) (LL b)=some (f,LL (a++b)):=by
 have e1:(a.map L).length+(b.map L).length<=1000000:=by simp;rfl'
 have:u4 (.lst (a.map L)) (.lst (b.map L))=Cj (.lst (a.map L)) (.lst (b.map L)):=rfl;show ∃ f,u4 (.lst (a.map L)) (.lst (b.map L))=_;rw[this];unfold Cj;simp only[if_pos e1,←vm];exact⟨_,rfl⟩
structure Hs(n:Nat)(bills S:aA):Prop where
 n1:1<=n
 n6:n<=6
 m8:bills.length<=8
 wide:Wide n bills
 lt:∀ r∈bills,∀ x∈r,x.natAbs<2 ^ 900
 es:N0 [j8 n bills]=some (LL S)
 asc:St.Asc n 0 S
 form:Lat.Form 0 (St.z9 S)
 span:Lat.SameSpan (St.vecs S) (St.vecs bills)
 sS:∀ r∈S,St.Lt (2 ^ 899) r
 us:∃ U,A0 [j8 n bills]=some (LL U)/\St.Tag n bills U/\∀ r∈U,St.Lt (2 ^ 8990) r
theorem Hall.hs{n:Nat}{bills:aA}(H:Hall n bills):∃ S,Hs n bills S/\St.Good n (10 ^ 30) bills S:=by
 obtain⟨S,es,G,_⟩:=RG H;obtain⟨U,eu,t,sU⟩:=z09 H;have n6:=H.n6;have gl:=St.T8 G.asc (wK _);exact⟨S,⟨H.n1,n6,H.m8,H.wide,λr hr x hx=>uL (lt30 (H.small r hr x hx)) (ut (by decide) (by decide)),es,G.asc,G.form,G.span,λx hx=>(G.small H.lt (by decide) x hx).mono (bnd899 _ (by rfl')),U,eu,t,λr hr=>(sU r hr).mono (wj (by decide) (by decide))⟩,G⟩
theorem S9{k j B e:Nat}(h:k<=j)(hj:0<j)(hB:0<B)(he:St.bnd j B+1<=2 ^ e):St.bnd k B+1<=2 ^ e:=by
 have m:=St.Cv (B:=B) h (by rfl') (by rfl');rfl'
theorem z1L{n s j e:Nat}{J:aA}(n1:1<=n)(n6:n<=6)(A:St.Asc n 0 J)(F:Lat.Form 0 (St.z9 J))(b:∀ r∈J,St.Lt (2 ^ s) r)(l:J.length<=j)(hj:0<j)(j6:j<=6)(s0:0<s)(hs:s<=899)(he:e<=8990)(hse:s<=e)(hb:St.bnd j (2 ^ s)+1<=2 ^ e):Hs n J J:=by
 have w:∀ r∈J,r.length=n:=λr hr=>(A.mem hr).1;have s1:1<2 ^ s:=w06 (by rfl');obtain⟨S,es,G⟩:=PR (n:=n) (e:=e) (B:=2 ^ s) n J (by rfl') he w b (wE _) (wj (by decide) hse) (λk hk=>S9 (by rfl') hj (wE _) hb) (by rfl');have e1:S=J:=St.LW G.asc G.form A F G.span;subst e1;obtain⟨U,eu,GU⟩:=Z5 (n:=n) (e:=e) (B:=2 ^ s) n S (by rfl') he w b s1 (wj (by decide) hse) (λk hk=>S9 (by rfl') hj (wE _) hb);have tl:∀ r∈St.P9 S,St.Lt (2 ^ s) r:=λr hr=>by
  obtain⟨b',hb',j,rfl⟩:=St.Fx _ hr;intro i;rw[St.Aj (w b' hb'),St.Y3];split
  · exact b b' hb' i
  · split<;>simp<;>rfl'
 have ul:=GU.len;rw[St.Y4]at ul;exact⟨n1,n6,by rfl',w,λr hr x hx=>wB (R8 (b r hr) x hx) (wj (by decide) (by rfl')),es,A,F,Lat.SameSpan.refl,λr hr=>(b r hr).mono (wj (by decide) hs),U,eu,GU.tag w,λr hr=>(GU.small tl (wE _) r hr).mono (wG (S9 (by rfl') hj (wE _) hb) (wj (by decide) he))⟩
theorem Om{n:Nat}{bills S:aA}{one other:aG}(h:Hs n bills S)(l1:one.length=n)(l2:other.length=n)(s1:St.Lt (2 ^ 5400) one)(s2:St.Lt (2 ^ 5400) other):
   (Lat.Span (St.vecs bills) (λk=>St.at0 other k-St.at0 one k)->F8 [j8 n bills,LL bills,L one,L other]=some (.bl true))/\(¬Lat.Span (St.vecs bills) (λk=>St.at0 other k-St.at0 one k)->F8 [j8 n bills,LL bills,L one,L other]=some (.bl false)):=by
 obtain⟨U,eu,t,sU⟩:=h.us;have pl:=PX (s:=5400) h.n6 h.m8 h.wide h.lt eu t sU (by decide) l1 l2 s1 s2 (by decide);have sn:∀(f:Fl) (d:Dt),(nrm f d).2=d:=λ_ _=>rfl;constructor
 · intro sp;rcases pl with⟨us,pl,ld,_⟩|⟨_,no⟩
   · have i3:Jk (L us) .non=some (.nw,.bl true):=rfl;have n2:bInt [.bl true]=some (.nw,.int 1):=rfl;have n7:atI [Dt.non,Dt.bl true] 1=some (.bl true):=rfl;generalize j8 n bills=hd at *;unfold F8 FJ;simp[cOf,sn,pl,i3,ld,n2,n7]
   · exact absurd sp no
 · intro sp;rcases pl with⟨_,_,_,q⟩|⟨pl,_⟩
   · exact absurd q sp
   · obtain⟨M,em,Z⟩:=Og h.n6 h.es h.asc h.sS;have sb:St.Lt (2 ^ 5461) (subR other one):=(show St.Lt (2 ^ (5400+1)) (subR other one)from λk=>by
      rw[AU (by rfl'),vQ];have:=s1 k;have:=s2 k;rfl').mono (wj (by decide) (by decide))
     obtain⟨Y,dn,dd,i5,nf⟩:=z5P h.n6 h.wide h.lt h.span em Z l1 l2 sb sp;have i4:Jk .non .non=some (.nw,.bl false):=rfl;generalize j8 n bills=hd at *;refine V5 (f := .nw) rfl ?_ rfl;unfold FJ;refine run (by simp[cOf,sn,pl];rfl) ?_;refine run (by simp[cOf,i4];rfl) ?_;refine run (ρ':=[.sh false hd,.sh false (LL bills),.sh false (L one),.sh false (L other),.sh true .non,.sh false Y]) (by simp[cOf,sn,dn,nf];rfl) ?_;refine run (by simp[cOf,sn,i5,dd];rfl) ?_;simp[cOf]
theorem Mk:∀(k:Nat) (rows:aA),oksN (k+1) (rows.map T)=true
 | k,[]=>rfl
 | k,r::rows=>by rw[wm,oksN,Mk k rows,Dt.okN,O7];rfl
theorem Qb:∀ rows:aA,pys (rows.map T)=rows.map λr => .tuple (r.map PyData.int)
 | []=>rfl
 | r::rows=>by rw[wm,pys,Qb rows,Dt.py,U4];rfl
theorem Il:∀ a:aA,PyData.eqvAll (a.map λr => .tuple (r.map PyData.int)) (a.map λr => .tuple (r.map PyData.int))=true
 | []=>by simp[PyData.eqvAll]
 | n::ns=>by
  rw[wm,PyData.eqvAll,Il ns,PyData.eqv,O8,decide_eq_true rfl];rfl
theorem Ml(n:Int)(J:aA):opNe (j8 n J) (j8 n J)=some (.nw,.bl false):=by
 have ok:(j8 n J).okN 8=true:=by
  show oksN 7 [.int n,TTu J]=true;rw[oksN,oksN,oksN];show(true&&(oksN 6 (J.map T)&&true))=true;rw[Mk];rfl
 have eq:eqD (j8 n J) (j8 n J)=true:=by
  unfold eqD;show PyData.eqv (.tuple (pys [.int n,TTu J])) (.tuple (pys [.int n,TTu J]))=true;rw[PyData.eqv,pys,pys,pys];show PyData.eqvAll [.int n,.tuple (pys (J.map T))] [.int n,.tuple (pys (J.map T))]=true;rw[Qb];simp[PyData.eqvAll,PyData.eqv,Il]
 unfold opNe;rw[ok,eq];rfl
theorem CY(R:aA):S8 [LL R]=some (LL R):=by
 have cp:=copies R [.sh false (LL R)] (fN 0) .sh (by simp[cOf]);unfold S8 EK;simp[cOf,cp]
theorem Mm(n:Nat)(rows:aA)(cs:aG)(d:Dt)(hd:RowD d cs)(hn:n<=1000)(hw:Wide n rows)(hl:rows.length=cs.length)(h:∀ r∈rows,∀ c∈cs,∀ x∈r,C9 c x=true):DM [LL rows,d,.int n]=some (L (mixR n rows cs)):=by
 unfold DM NN;have z:=Z3 n hn;obtain⟨hl2,j,q⟩:=EA (g:=Tg.many [4,5]) (F:=sSet [] 3 (i7 true V7 (f8 (fN 3) (f8 (i7 true D9 (f8 (fN 4) (f8 (fN 5) fNil))) fNil))))
   (e:=λp:aG×Int => .tup [L p.1,.int p.2]) (R:=λ(t:aG) (j:Cell×Cell)=>[.sh false (LL rows),.sh false d,.sh false (.int n),.sh true (L t),j.1,j.2]) (step:=λt p=>addR t (sclR p.2 p.1)) (P:=λt=>t.length=n) (rows.zip cs) (o6 n) (.no,.no) B9
   (fun b p j hp hb=>by
    have h1:=hw _ (vt hp).1;have e1:=J8 p.1 p.2 (λx hx=>h _ (vt hp).1 _ (vt hp).2 x hx);have e2:=FL b (sclR p.2 p.1) (by rw[v9,hb,h1]);refine⟨by rw[P8 (by rw[v9,hb,h1])];exact hb,(.sh false (L p.1),.sh false (.int p.2)),?_⟩;simp[cOf,Tg.put,P6,e1,e2])
 have q2:forF (Tg.many [4,5]) (sSet [] 3 (i7 true V7 (f8 (fN 3) (f8 (i7 true D9 (f8 (fN 4) (f8 (fN 5) fNil))) fNil)))) (zipD (rows.map L) (cs.map .int)) [.sh false (LL rows),.sh false d,.sh false (.int n),.sh true (L (o6 n)),.no,.no]=some (.nx [.sh false (LL rows),.sh false d,.sh false (.int n),.sh true (L (mixR n rows cs)),j.1,j.2]):=by
   rw[X9];exact q
 rcases hd with rfl|rfl
 · simp[cOf,z,iZip,hl,q2]
 · simp[cOf,z,iZip,hl,q2]
theorem En{n m:Nat}{X Y table:aA}(hl:table.length=n)(hw:Wide m table):Q6 [j8 n X,LL table,j8 m Y]=some .non:=by
 have q:n4 1 [2] (iSeq (fN 1)) (Tg.one 0) fYes (i7 true Y6 (f8 (fN 0) (f8 (fAt (fN 1) (fC (.int 0))) fNil))) [.sh false (j8 n X),.sh false (LL table),.sh false (j8 m Y)]=some (.nw,.lst (table.map λ_ => .bl true)) :=
  o0 (e:=L) (h:=λ_ => .bl true) (xs:=table) (by simp[cOf]) (λr hr=>by
   have e:=DT r m;rw[decide_eq_true (by rw[hw r hr])]at e;simp[cOf,e])
 have it:BM [j8 n X,LL table,j8 m Y]=some (.bl true):=by
  unfold BM EH;simp[cOf,hl,A8,q,bAll,W1 (λ_=>true) table]
 unfold Q6 BN;simp[cOf,it]
theorem RU(n:Nat)(b:aG)(h:b.length=n):C5 [.int n,L b]=some .non:=by
 have e:=DT b n;rw[decide_eq_true (by rw[h])]at e;unfold C5 M9;simp[cOf,e]
theorem RV{n m:Nat}{table:aA}{b:aG}(hm:m<=1000)(hl:table.length=n)(hw:Wide m table)(hb:b.length=n)(h:∀ r∈table,∀ c∈b,∀ x∈r,C9 c x=true):AX [LL table,L b,.int m]=some (L (mixR m table b)):=by
 have e1:=RU n b hb;have e2:=Mm m table b (L b) (.inl rfl) hm hw (by rfl') h;unfold AX Hn;simp[cOf,hl,e1,e2]
theorem z1M{n m e:Nat}{O T ST table:aA}(m6:m<=6)(wO:Wide n O)(bO:∀ r∈O,St.Lt (2 ^ 100) r)(hT:Hs m T ST)(hl:table.length=n)(hw:Wide m table)(b4:∀ r∈table,St.Lt 31 r)(n6:n<=6):IR [j8 n O,LL table,j8 m T]=some (.bl (O.all λr=>decide (St.n8 (mixR m table r) ST=o6 m))):=by
 have nt:=En (X:=O) (Y:=T) hl hw;have es:=hT.es;have ng:=Z3 m (by rfl');have cm:n4 1 [1,2,3] (iSeq (fAt (fN 0) (fC (.int 1)))) (Tg.one 0) fYes (fOp opEq (i7 true C0 (f8 (i7 true DM (f8 (fN 1) (f8 (fN 0) (f8 (fAt (fN 2) (fC (.int 0))) fNil)))) (f8 (fN 3) fNil))) (i7 true J5 (f8 (fAt (fN 2) (fC (.int 0))) fNil))) [.sh false (j8 n O),.sh false (LL table),.sh false (j8 m T),.sh true (LL ST)]=some (.nw,.lst (O.map λr => .bl (decide (St.n8 (mixR m table r) ST=o6 m)))):=by
  rw[o0 (e:=L2.T) (h:=λr => .bl (decide (St.n8 (mixR m table r) ST=o6 m))) (xs:=O) (by simp[cOf]) (λr hr=>by
   have lr:=wO r hr;have mx:=Mm m table r (L2.T r) (.inr rfl) (by rfl') hw (by rfl') (λt ht c hc x hx=>J9 (R8 (bO r hr) c hc) (show x.natAbs<2 ^ 5 from uL (R8 (b4 t ht) x hx) (by decide)) (by decide));have ml:(mixR m table r).length=m:=AQ hw;have sm:St.Lt (2 ^ 200) (mixR m table r):=λk=>by
    rw[Y5 hw];have q:=St.BG (N:=2 ^ 100) (B:=31) (R:=table) (cs:=r) b4 (λc hc=>vw (R8 (bO r hr) c hc)) k;have:table.length*(2 ^ 100*31)<=6*(2 ^ 100*31):=wy _ (by rfl');have:6*(2 ^ 100*31)<2 ^ 200:=by decide
    rfl'
   have aT:=St.T8 hT.asc (wK _);obtain⟨o1,o2,o3,o4,_⟩:=RH hT.asc hT.sS (by decide) ml sm (by rfl') (by decide);have lo:=Z4 (L (mixR m table r)) (mixR m table r) ST (.inl rfl) o3 o1 ml o2 o4;have oe:=LM (St.n8 (mixR m table r) ST) (o6 m);simp[cOf,mx,lo,ng,oe])]
 have al:bAll [.lst (O.map λr => .bl (decide (St.n8 (mixR m table r) ST=o6 m)))]=some (.nw,.bl (O.all λr=>decide (St.n8 (mixR m table r) ST=o6 m))):=by
  simp[bAll,W1 (λr=>decide (St.n8 (mixR m table r) ST=o6 m)) O]
 unfold IR NS;simp[cOf,nt,es,cm,al]
theorem RW{n m w e j:Nat}{O T ST table:aA}(n6:n<=6)(m6:m<=6)(eT:N0 [j8 m T]=some (LL ST))(aT:St.Asc m 0 ST)(hl:table.length=n)(hw:Wide m table)(bt:∀ r∈table,St.Lt (2 ^ w) r)(bT:∀ r∈ST,St.Lt (2 ^ w) r)(w0:0<w)(lj:n+ST.length<=j)(j0:0<j)(j20:j<=12)(hwe:w<=e)(he:e<=8990)(hb:St.bnd j (2 ^ w)+1<=2 ^ e):
   ∃ P,CK [j8 n O,LL table,j8 m T]=some (j8 n P)/\St.Asc n 0 P/\Lat.Form 0 (St.z9 P)/\(∀ r∈P,St.Lt (2 ^ e) r)/\∀ b:aG,b.length=n->(Lat.Span (St.vecs P) (λk=>St.at0 b k)↔Lat.Span (St.vecs ST) (St.mix table b)):=by
 have wT:∀ r∈ST,r.length=m:=λr hr=>(aT.mem hr).1;have one2:1<2 ^ w:=w06 (by rfl');have hp:St.pair (table++ST) (St.units n++ST.map λ_=>o6 n)=St.Ih table ST:=by
   unfold St.Ih St.pair;rw[List.zipWith_append (by rw[hl,St.G5])];congr 1
   · exact Kj table hl
   · rw[hl];clear lj bT aT eT wT
     induction ST with
     | nil=>rfl
     | cons a S ih=>rw[wm,w0s,ih];rfl
 have rows:∀ x∈St.Ih table ST,x.length=m+n/\St.Lt (2 ^ w) x:=λx hx=>by
   unfold St.Ih at hx;rcases wo.mp hx with h|h
   · obtain⟨r,hr,j,rfl⟩:=St.Fx _ h;refine⟨by rw[ww,hw r hr,St.GX,hl],λk=>?_⟩;rw[St.Fz (hw r hr),St.Y3];split
     · exact bt r hr k
     · split<;>simp<;>rfl'
   · obtain⟨r,hr,rfl⟩:=wg.mp h;refine⟨by rw[ww,wT r hr,vA,hl],λk=>?_⟩;rw[St.Fz (wT r hr)];split
     · exact bT r hr k
     · rw[St.Yw];rfl'
 have bm:∀ k,k<=n+ST.length->St.bnd k (2 ^ w)+1<=2 ^ e:=λk hk=>S9 (show k<=j by rfl') j0 (wE _) hb;obtain⟨U,eU,G⟩:=EO (n:=m+n) (e:=e) (eh:=e) (B:=2 ^ w) (by rfl') he (wu _) (by rfl') (table++ST) (St.units n++ST.map λ_=>o6 n) (by simp[St.G5,hl]) (λx hx=>(rows x (by rw[←hp];exact hx)).1) (λx hx=>(rows x (by rw[←hp];exact hx)).2) (wE _) (wj (by decide) hwe) (λk hk=>bm k (by simpa[hl]using hk))
   (λk S hk G r hr=>by
     have q:=G.small (λr hr=>(rows r (by rw[←hp];exact vY hr)).2) (wE _) r hr (St.f9 r);have l:=G.len;have b:=bm S.length (by rw[vx]at l;simp[hl]at hk;rfl');have q:(St.hd r).natAbs<St.bnd S.length (2 ^ w)+1:=q;have c2:((2 ^ e:Nat):Int)=(2:Int) ^ e:=by norm_cast
     rfl') (by simp[hl];rfl')
 rw[hp]at G;have lU:U.length<=n+ST.length:=by have:=G.len;unfold St.Ih at this;rw[ww,St.Y4,wv,hl]at this;exact this
 have sU:=G.small (λr hr=>(rows r hr).2) (wE _);refine⟨St.bots m U,?_,St.Pq G.asc rfl,St.ZU G.asc G.form rfl,λr hr=>?_,λb hb=>St.ZZ hw wT (by rfl') (by rw[hl];exact G.asc) G.span⟩
 · have nt:=En (X:=O) (Y:=T) hl hw;obtain⟨f1,k1⟩:=z1K table ST (by rfl');obtain⟨f2,k2⟩:=z1K (St.units n) (ST.map λ_=>o6 n) (by rw[St.G5,wv];rfl');have tg:=Ao U m;have hby:=EL n (St.bots m U);have ng:=Z3 n (by rfl');have u1:n4 1 [0] (n9 (fAt (fN 0) (fC (.int 0)))) (Tg.one 0) fYes (i7 true J1 (f8 (fAt (fN 1) (fC (.int 0))) (f8 (fN 0) fNil))) [.sh false (j8 n O),.sh false (LL table),.sh false (j8 m T),.sh true (LL ST),.no,.no]=some (.nw,LL (St.units n)):=by
     rw[o0 (e:=λ(k:Nat) => .int (0+(k:Int))) (h:=λk=>L (St.G3 n k)) (xs:=List.range n) (by simp[cOf,y13 n (by rfl'),w8]) (λj _=>by
       have u:=CU n j (by rfl');simp[cOf,u])]
     simp[LL,St.units]
   have cm:n4 1 [0] (iSeq (fN 3)) (Tg.one 0) fYes (i7 true J5 (f8 (fAt (fN 1) (fC (.int 0))) fNil)) [.sh false (j8 n O),.sh false (LL table),.sh false (j8 m T),.sh true (LL ST),.sh true (LL (St.units n)),.no]=some (.nw,LL (ST.map λ_=>o6 n)):=by
     rw[o0 (e:=L) (h:=λ_=>L (o6 n)) (xs:=ST) (by simp[cOf]) (λr hr=>by simp[cOf,ng])];simp[LL]
   refine V5 (f := .nw) rfl ?_ rfl;unfold JU;refine run (by simp[cOf,nt];rfl) ?_;refine run (by simp[cOf,eT];rfl) ?_;refine run (by simp[cOf,u1];rfl) ?_;refine run (ρ':=[.sh false (j8 n O),.sh false (LL table),.sh false (j8 m T),.sh true (LL ST),.sh true (LL (St.units n)),.sh true (LL U)]) (by
     generalize ST.map (λ_=>o6 n)=Z at *;generalize St.units n=V at *;have k1:u4 (.lst (table.map L)) (.lst (ST.map L))=some (f1,LL (table++ST)):=k1;have k2:u4 (.lst (V.map L)) (.lst (Z.map L))=some (f2,LL (V++Z)):=k2;simp[cOf,k1,cm,k2,eU]) ?_
   generalize St.bots m U=M at *;simp[cOf,tg,hby]
 · obtain⟨u,hu,rfl⟩:=wg.mp hr;have hu:=(wL.mp hu).1;intro k;have:=(sU u hu).mono (bm U.length lU) (m+k);have e:St.at0 (u.drop m) k=St.at0 u (m+k):=by simp[St.at0,List.getD]
   show(St.at0 (u.drop m) k).natAbs<_;rw[e];exact this
theorem RX{n m:Nat}{O T ST table:aA}(m6:m<=6)(n6:n<=6)(wO:Wide n O)(bO:∀ r∈O,St.Lt (2 ^ 100) r)(hT:Hs m T ST)(hl:table.length=n)(hw:Wide m table)(b4:∀ r∈table,St.Lt 31 r):Hv [j8 m T,LL T,LL table,LL O]=some (.bl (O.all λr=>decide (St.n8 (mixR m table r) ST=o6 m))):=by
 have one:∀ r∈O,Q8 [.int m,LL table,L r]=some (L (mixR m table r))/\F8 [j8 m T,LL T,L (o6 m),L (mixR m table r)]=some (.bl (decide (St.n8 (mixR m table r) ST=o6 m))):=λr hr=>by
  have lr:=wO r hr;have ml:(mixR m table r).length=m:=AQ hw;have sm:St.Lt (2 ^ 200) (mixR m table r):=λk=>by
    rw[Y5 hw];have q:=St.BG (N:=2 ^ 100) (B:=31) (R:=table) (cs:=r) b4 (λc hc=>vw (R8 (bO r hr) c hc)) k;have:table.length*(2 ^ 100*31)<=6*(2 ^ 100*31):=wy _ (by rfl');have:6*(2 ^ 100*31)<2 ^ 200:=by decide
    rfl'
  refine⟨FQ m table r (by rfl') (by rfl') hw (by rfl') (λt ht c hc x hx=>J9 (R8 (bO r hr) c hc) (show x.natAbs<2 ^ 5 from uL (R8 (b4 t ht) x hx) (by decide)) (by decide)),?_⟩;obtain⟨p1,p2⟩:=Om (one:=o6 m) (other:=mixR m table r) hT B9 ml (λk=>by rw[E5];exact wE _) (sm.mono (wj (by decide) (by decide)));have ln:St.n8 (mixR m table r) ST=o6 m↔Lat.Span (St.vecs T) (λk=>St.at0 (mixR m table r) k-St.at0 (o6 m) k):=by
    have e:(λk=>St.at0 (mixR m table r) k-St.at0 (o6 m) k)=λk=>St.at0 (mixR m table r) k:=funext λk=>by rw[E5];rfl'
    rw[e,Ii,St.Lk hT.asc ml];exact hT.span.iff
  by_cases h:St.n8 (mixR m table r) ST=o6 m
  · rw[decide_eq_true h];exact p1 (ln.mp h)
  · rw[decide_eq_false h];exact p2 λz=>h (ln.mpr z)
 have ib:∀ c:Bool,AJ (.bl c) .non=some (.nw,.bl false):=λc=>rfl;have lp:∀(R:aA) (a:Bool) (c6 c7:Cell),(∀ r∈R,r∈O)->∃ c6' c7',forF (Tg.one 6) (sSeq (sSet [] 7 (i7 true F8 (f8 (fN 0) (f8 (fN 1) (f8 (fN 5) (f8 (i7 true Q8 (f8 (fAt (fN 0) (fC (.int 0))) (f8 (fN 2) (f8 (fN 6) fNil)))) fNil))))))
 (sSeq (sIf (o9 (fOp AJ (fN 7) (fC .non))) (sRet (fC .non)) v4)
 (sSet [] 4 (vAnd (fN 4) (fN 7))))) (R.map L) [.sh false (j8 m T),.sh false (LL T),.sh false (LL table),.sh false (LL O),.sh true (.bl a),.sh true (L (o6 m)),c6,c7]=some (.nx [.sh false (j8 m T),.sh false (LL T),.sh false (LL table),.sh false (LL O),.sh true (.bl (a&&R.all fun r=>decide (St.n8 (mixR m table r) ST=o6 m))),.sh true (L (o6 m)),c6',c7']):=by
  intro R
  induction R with
  | nil=>intro a c6 c7 _;exact⟨c6,c7,by rw[List.all_nil,Bool.and_true];rfl⟩
  | cons r R ih =>
    intro a c6 c7 hR;obtain⟨s1,s2⟩:=one r (hR r we);obtain⟨c6',c7',q⟩:=ih (a&&decide (St.n8 (mixR m table r) ST=o6 m)) (.sh false (L r)) (.sh true (.bl (decide (St.n8 (mixR m table r) ST=o6 m)))) (λx hx=>hR x (wc _ hx));refine⟨c6',c7',?_⟩;rw[wm,E4,List.all_cons,←Bool.and_assoc,←q];generalize decide (St.n8 (mixR m table r) ST=o6 m)=v at *;generalize mixR m table r=mx at *;generalize o6 m=z at *;have sn:∀(f:Fl) (d:Dt),(nrm f d).2=d:=λ_ _=>rfl;have st:((Tg.one 6).put (L r) [.sh false (j8 m T),.sh false (LL T),.sh false (LL table),.sh false (LL O),.sh true (.bl a),.sh true (L z),c6,c7]).bind (sSeq (sSet [] 7 (i7 true F8 (f8 (fN 0) (f8 (fN 1) (f8 (fN 5) (f8 (i7 true Q8 (f8 (fAt (fN 0) (fC (.int 0))) (f8 (fN 2) (f8 (fN 6) fNil)))) fNil))))))
 (sSeq (sIf (o9 (fOp AJ (fN 7) (fC .non))) (sRet (fC .non)) v4)
 (sSet [] 4 (vAnd (fN 4) (fN 7)))))=some (.nx [.sh false (j8 m T),.sh false (LL T),.sh false (LL table),.sh false (LL O),.sh true (.bl (a&&v)),.sh true (L z),.sh false (L r),.sh true (.bl v)]):=by
     show(sSeq _ _) [.sh false (j8 m T),.sh false (LL T),.sh false (LL table),.sh false (LL O),.sh true (.bl a),.sh true (L z),.sh false (L r),c7]=_;refine run (by simp[cOf,s1,s2];rfl) ?_;refine run (by simp[cOf,ib];rfl) ?_;cases a<;>simp[cOf]
    rw[st];rfl
 obtain⟨c6,c7,q⟩:=lp O true .no .no λ_ h=>h;have zc:=RJ m (by rfl') [.sh false (j8 m T),.sh false (LL T),.sh false (LL table),.sh false (LL O),.sh true (.bl true),.no,.no,.no] (fAt (fN 0) (fC (.int 0))) .nw (by simp[cOf]);rw[w0H]at q;refine V5 (f := .nw) rfl ?_ rfl;unfold Hu;refine run (by simp[cOf];rfl) ?_;refine run (by simp[cOf,zc];rfl) ?_;refine run (by show(iSeq (fN 3) _).bind _=_;exact q) ?_;simp[cOf]
def Two(n:Nat)(O:aA)(m:Nat)(T:aA):Prop:=m<=3/\((n<=2/\m<=2/\O.length<=2/\T.length<=2)\/((∀ r∈O,St.Lt 31 r)/\(∀ r∈T,St.Lt 31 r)/\(O.length<=3\/n<=3)))
theorem RY(ns:aG)(a:Int)(k:Nat)(m:Int)(h0:0<=m)(h:m<2):St.Lt 31 (L1 ns a k m):=λi=>by
 by_cases hi:i<k
 · have e:St.at0 (L1 ns a k m) i=Cp (A1 ns (a+(i:Int))) m:=by unfold L1 St.at0;simp[List.getD,hi]
   rw[e];rcases(show m=0\/m=1 by rfl')with h|h
   · have:=Pj (A1 ns (a+(i:Int))) m h;rfl'
   · have:=ZO (A1 ns (a+(i:Int))) m h;rfl'
 · rw[St.B4 (by rw[AO];rfl')];decide
theorem Qc(ns:aG)(a m:Int)(k n:Nat)(h1:1<=k)(h6:k<=6)(hn:n<=8):Hall k ((List.range n).map λ(j:Nat)=>L1 ns (a+(k:Int)*(j:Int)) k m) :=
 ⟨h1,h6,by simp;omega,fun r hr=>by
  obtain⟨j,_,rfl⟩:=wg.mp hr;exact AO _ _ _ _,λr hr=>by
  obtain⟨j,_,rfl⟩:=wg.mp hr;exact Jy _ _ _ _⟩
theorem YJ(ns:List Int)(m a:Int)(k n:Nat)(h0:0≤m)(h3:m<3)(hk:k≤100)(hn:n≤100)(ha:0≤a)(js:List Nat)(Fi:FI)(ρ:Rho)(f2 f3:Bool)(hi:Fi ρ=some (K2 0 n))(hs:sigD 1 js ρ=[.no,.sh false (.scr ns),.sh f2 (.int k),.sh f3 (.int m)]):
    n4 1 js Fi (Tg.one 0) fYes (i7 true K6 (f8 (fN 1) (f8 (fOp u4 (fC (.int a)) (fOp C3 (fN 2) (fN 0))) (f8 (fN 2) (f8 (fN 3) fNil))))) ρ=some (.nw,LL ((List.range n).map λ(j:Nat)=>L1 ns (a+(k:Int)*(j:Int)) k m)):=by
  rw[o0 (e:=λ(j:Nat) => .int (0+(j:Int))) (h:=λ(j:Nat)=>L (L1 ns (a+(k:Int)*(j:Int)) k m)) (xs:=List.range n) (by rw[hi,w8])
    (λj hj=>by
      have hj:=wQ.mp hj
      have hm:C9 (k:Int) (j:Int)=true:=Ah (by                       have:(j:Int).natAbs=j:=by omega
                                                                    rfl')
      have hp:(0:Int)<=a+(k:Int)*(j:Int):=by have:=w0z (show(0:Int)<=k by rfl') (show(0:Int)<=j by rfl');rfl'
      have e:=FK ns (a+(k:Int)*(j:Int)) k m hp (by rfl') h0 h3;rw[hs];simp[cOf,hm,e])]
  simp[LL]
theorem z1N(ns:List Int):∃(n:Nat) (O:List (List Int)) (m:Nat) (T:List (List Int)),NW [.scr ns]=some (.tup [.int n,LL O,.int m,LL T])∧Hall n O∧Hall m T∧Two n O m T:=by
 have c0:=E2 ns 0 (by decide);have c1:=E2 ns 1 (by decide);have c2:=E2 ns 2 (by decide);have c3:=E2 ns 3 (by decide);have c4:=E2 ns 4 (by decide);have c6:=E2 ns 6 (by decide);have c7:=E2 ns 7 (by decide);have r0:=D5 (A1 ns 0) (show(0:Int)<3 by decide);have r1:=D5 (A1 ns 1) (show(0:Int)<4 by decide);have r2:=D5 (A1 ns 2) (show(0:Int)<5 by decide);have r3:=D5 (A1 ns 3) (show(0:Int)<4 by decide);have r6:=D5 (A1 ns 6) (show(0:Int)<3 by decide);have mo2:∀ c:Int,Ac c 2=true:=λc=>M8 (by decide);have mo3:∀ c:Int,Ac c 3=true:=λc=>M8 (by decide);have mo4:∀ c:Int,Ac c 4=true:=λc=>M8 (by decide);have mo5:∀ c:Int,Ac c 5=true:=λc=>M8 (by decide);have mo7:∀ c:Int,Ac c 7=true:=λc=>M8 (by decide);have lk:∃ m0:Int,atI [Dt.int 0,Dt.int 0,Dt.int 0,Dt.int 1,Dt.int 2] ((A1 ns 2).fmod 5)=some (.int m0)/\0<=m0/\m0<3:=by
  have hr2:(A1 ns 2).fmod 5=0\/(A1 ns 2).fmod 5=1\/(A1 ns 2).fmod 5=2\/(A1 ns 2).fmod 5=3\/(A1 ns 2).fmod 5=4:=by omega +splitDisjunctions
  rcases hr2 with h2|h2|h2|h2|h2<;>rw[h2]
  · exact⟨0,rfl,by decide⟩
  · exact⟨0,rfl,by decide⟩
  · exact⟨0,rfl,by decide⟩
  · exact⟨1,rfl,by decide⟩
  · exact⟨2,rfl,by decide⟩
 obtain⟨m0,lk,l0,l3⟩:=lk;have fin:∀(m k v n u:Int) (f1 f2 f3 f4 f5:Bool),0<=m->m<3->1<=k->k<=6->1<=v->v<=3->0<=n->n<=8->0<=u->u<=8->(k<=2/\v<=2/\n<=2/\u<=2)\/(m<2/\(n<=3\/k<=3))->∃(n':Nat) (O:aA) (m':Nat) (T:aA),(sSeq (sSet [] 6 (n4 1 [0,2,1] (n9 (fN 4)) (Tg.one 0) fYes (i7 true K6 (f8 (fN 1) (f8 (fOp u4 (fC (.int 8)) (fOp C3 (fN 2) (fN 0))) (f8 (fN 2) (f8 (fN 3) fNil)))))))
 (sSeq (sSet [] 7 (n4 1 [0,3,1] (n9 (fN 5)) (Tg.one 0) fYes (i7 true K6 (f8 (fN 1) (f8 (fOp u4 (fC (.int 27)) (fOp C3 (fN 2) (fN 0))) (f8 (fN 2) (f8 (fN 3) fNil)))))))
 (sRet (fTup (f8 (fN 2) (f8 (fN 6) (f8 (fN 3) (f8 (fN 7) fNil)))))))) [.sh false (.scr ns),.sh f1 (.int m),.sh f2 (.int k),.sh f3 (.int v),.sh f4 (.int n),.sh f5 (.int u),.no,.no]=some (.rt .fr (.tup [.int n',LL O,.int m',LL T]))∧Hall n' O∧Hall m' T∧Two n' O m' T:=by
  intro m k v n u f1 f2 f3 f4 f5 a1 a2 a3 a4 v1 v3 a5 a6 a7 a8 a9;obtain⟨k,rfl⟩:=uc (show 0<=k by rfl');obtain⟨v,rfl⟩:=uc (show 0<=v by rfl');obtain⟨n,rfl⟩:=uc a5;obtain⟨u,rfl⟩:=uc a7;refine⟨k,_,v,_,?_,Qc ns 8 m k n (by rfl') (by rfl') (by rfl'),Qc ns 27 m v u (by rfl') (by rfl') (by rfl'),?_⟩
  rotate_left
  · unfold Two;simp only[wv,vM];refine⟨by rfl',?_⟩;rcases a9 with h|⟨h,g⟩
    · exact .inl (by rfl')
    · refine .inr ⟨λr hr=>?_,λr hr=>?_,by rfl'⟩
      · obtain⟨j,_,rfl⟩:=wg.mp hr;exact RY _ _ _ _ a1 h
      · obtain⟨j,_,rfl⟩:=wg.mp hr;exact RY _ _ _ _ a1 h
  have e1:=YJ ns m 8 k n a1 a2 (by rfl') (by rfl') (by decide) [0,2,1] (n9 (fN 4)) [.sh false (.scr ns),.sh f1 (.int m),.sh f2 (.int k),.sh f3 (.int v),.sh f4 (.int n),.sh f5 (.int u),.no,.no] false false (by simp[cOf,y13 n (by rfl')]) rfl;generalize (List.range n).map (λ(j:Nat)=>L1 ns (8+(k:Int)*(j:Int)) k m)=O at *;refine run (by simp[cOf,e1];rfl) ?_;have e2:=YJ ns m 27 v u a1 a2 (by rfl') (by rfl') (by decide) [0,3,1] (n9 (fN 5)) [.sh false (.scr ns),.sh f1 (.int m),.sh f2 (.int k),.sh f3 (.int v),.sh f4 (.int n),.sh f5 (.int u),.sh true (LL O),.no] false false (by simp[cOf,y13 u (by rfl')]) rfl;generalize (List.range u).map (λ(j:Nat)=>L1 ns (27+(v:Int)*(j:Int)) v m)=T at *;refine run (by simp[cOf,e2];rfl) ?_;simp[cOf,LL]
 have key:∃(n':Nat) (O:aA) (m':Nat) (T:aA),IS [.sh false (.scr ns),.no,.no,.no,.no,.no,.no,.no]=some (.rt .fr (.tup [.int n',LL O,.int m',LL T]))/\Hall n' O/\Hall m' T/\Two n' O m' T:=by
  have r02:=D5 (1+(A1 ns 0).fmod 3) (show(0:Int)<2 by decide);have r62:=D5 (1+(A1 ns 6).fmod 3) (show(0:Int)<2 by decide);have r13:=D5 ((A1 ns 1).fmod 4) (show(0:Int)<3 by decide);have r33:=D5 ((A1 ns 3).fmod 4) (show(0:Int)<3 by decide);have st:∀(F:FS) (ρ ρ':List Cell) (G:FS) (P:Nat->aA->Nat->aA->Prop),F ρ=some (.nx ρ')->(∃(n':Nat) (O:aA) (m':Nat) (T:aA),G ρ'=some (.rt .fr (.tup [.int n',LL O,.int m',LL T]))/\P n' O m' T)->∃(n':Nat) (O:aA) (m':Nat) (T:aA),sSeq F G ρ=some (.rt .fr (.tup [.int n',LL O,.int m',LL T]))/\P n' O m' T:=by
    rintro F ρ ρ' G P h ⟨n',O,m',T,e,p⟩;exact⟨n',O,m',T,run h e,p⟩
  have b1:bInt [.bl true]=some (.nw,.int 1):=rfl;have b0:bInt [.bl false]=some (.nw,.int 0):=rfl;have m51:C9 5 1=true:=Ah (by decide);have m50:C9 5 0=true:=Ah (by decide);unfold IS;refine st _ _ _ _ _ (by simp[cOf,c2,lk,mo5];rfl) ?_;refine st _ _ _ _ _ (by simp[cOf,c0,mo3];rfl) ?_;refine st _ _ _ _ _ (by simp[cOf,c6,mo3];rfl) ?_;have go:∀ m k:Int,0<=m->m<3->1<=k->k<=6->(k<=3\/m=0)->∃(n':Nat) (O:aA) (m':Nat) (T:aA),(sSeq (sSet [] 4 (fOp E3 (i7 true u9 (f8 (fN 0) (f8 (fC (.int 1)) fNil))) (fC (.int 4))))
 (sSeq (sSet [] 5 (fOp E3 (i7 true u9 (f8 (fN 0) (f8 (fC (.int 3)) fNil))) (fC (.int 4))))
 (sSeq (sIf (fAnd (o9 (fOp opEq (fN 1) (fC (.int 0)))) (o9 (fOp opEq (fOp E3 (i7 true u9 (f8 (fN 0) (f8 (fC (.int 7)) fNil))) (fC (.int 3))) (fC (.int 1))))) (sSeq (sSet [] 4 (fOp u4 (fN 4) (fOp C3 (fC (.int 5)) (fBlt bInt (f8 (fOp opLt (fN 2) (fC (.int 4))) fNil)))))
 (sSet [] 5 (fOp u4 (fN 5) (fC (.int 5))))) v4)
 (sSeq (sIf (o9 (fOp opEq (fN 1) (fC (.int 2)))) (sSeq (sSet [] 2 (fOp u4 (fC (.int 1)) (fOp E3 (fN 2) (fC (.int 2)))))
 (sSeq (sSet [] 3 (fOp u4 (fC (.int 1)) (fOp E3 (fN 3) (fC (.int 2)))))
 (sSeq (sSet [] 4 (fOp E3 (fN 4) (fC (.int 3))))
 (sSet [] 5 (fOp E3 (fN 5) (fC (.int 3))))))) v4)
 (sSeq (sSet [] 6 (n4 1 [0,2,1] (n9 (fN 4)) (Tg.one 0) fYes (i7 true K6 (f8 (fN 1) (f8 (fOp u4 (fC (.int 8)) (fOp C3 (fN 2) (fN 0))) (f8 (fN 2) (f8 (fN 3) fNil)))))))
 (sSeq (sSet [] 7 (n4 1 [0,3,1] (n9 (fN 5)) (Tg.one 0) fYes (i7 true K6 (f8 (fN 1) (f8 (fOp u4 (fC (.int 27)) (fOp C3 (fN 2) (fN 0))) (f8 (fN 2) (f8 (fN 3) fNil)))))))
 (sRet (fTup (f8 (fN 2) (f8 (fN 6) (f8 (fN 3) (f8 (fN 7) fNil)))))))))))) [.sh false (.scr ns),.sh true (.int m),.sh true (.int k),.sh true (.int (1+(A1 ns 6).fmod 3)),.no,.no,.no,.no]=some (.rt .fr (.tup [.int n',LL O,.int m',LL T]))∧Hall n' O∧Hall m' T∧Two n' O m' T:=by
    intro m k g0 g3 g1 g6 gk;have rk:=D5 k (show(0:Int)<2 by decide);refine st _ _ _ _ _ (by simp[cOf,c1,mo4];rfl) ?_;refine st _ _ _ _ _ (by simp[cOf,c3,mo4];rfl) ?_;by_cases h7:m=0/\(A1 ns 7).fmod 3=1
    · obtain⟨rfl,h7⟩:=h7;by_cases k4:k<4
      · refine st _ _ _ _ _ (by simp[cOf,c7,h7,k4,b1,m51,v8,mo3];rfl) ?_;refine st _ _ _ _ _ (by simp[cOf,v8];rfl) ?_;exact fin _ _ _ _ _ _ _ _ _ _ (by rfl') (by rfl') (by rfl') (by rfl') (by rfl') (by rfl') (by rfl') (by rfl') (by rfl') (by rfl') (by rfl')
      · refine st _ _ _ _ _ (by simp[cOf,c7,h7,k4,b0,m50,v8,mo3];rfl) ?_;refine st _ _ _ _ _ (by simp[cOf,v8];rfl) ?_;exact fin _ _ _ _ _ _ _ _ _ _ (by rfl') (by rfl') (by rfl') (by rfl') (by rfl') (by rfl') (by rfl') (by rfl') (by rfl') (by rfl') (by rfl')
    · refine st _ _ [.sh false (.scr ns),.sh true (.int m),.sh true (.int k),.sh true (.int (1+(A1 ns 6).fmod 3)),.sh true (.int ((A1 ns 1).fmod 4)),.sh true (.int ((A1 ns 3).fmod 4)),.no,.no] _ _ (by
        by_cases z:m=0
        · have h7:¬(A1 ns 7).fmod 3=1:=λq=>h7 ⟨z,q⟩;simp[cOf,c7,h7,z,v8,mo3]
        · simp[cOf,z,v8]) ?_
      by_cases h2:m=2
      · refine st _ _ _ _ _ (by simp[cOf,h2,v8,mo2,mo3];rfl) ?_;exact fin _ _ _ _ _ _ _ _ _ _ (by rfl') (by rfl') (by rfl') (by rfl') (by rfl') (by rfl') (by rfl') (by rfl') (by rfl') (by rfl') (by rfl')
      · refine st _ _ _ _ _ (by simp[cOf,h2,v8];rfl) ?_;exact fin _ _ _ _ _ _ _ _ _ _ (by rfl') (by rfl') (by rfl') (by rfl') (by rfl') (by rfl') (by rfl') (by rfl') (by rfl') (by rfl') (by rfl')
  by_cases h4:(A1 ns 4).fmod 7=6
  · refine st _ _ _ _ _ (by simp[cOf,c4,h4,v8,mo7];rfl) ?_;exact go 0 6 (by rfl') (by rfl') (by rfl') (by rfl') (.inr rfl)
  · refine st _ _ _ _ _ (by simp[cOf,c4,h4,v8,mo7];rfl) ?_;exact go m0 _ (by rfl') (by rfl') (by rfl') (by rfl') (.inl (by rfl'))
 obtain⟨n,O,m,T,e,p⟩:=key;exact⟨n,O,m,T,V5 (f := .fr) rfl e rfl,p⟩
theorem Oo{n m:Nat}{O T table:aA}(HO:Hall n O)(HT:Hall m T)(tw:Two n O m T)(hl:table.length=n)(hw:Wide m table)(b4:∀ r∈table,St.Lt 31 r):∃ P ST J,CK [j8 n O,LL table,j8 m T]=some (j8 n P)/\Hs m T ST/\Hs n P P/\N6 [j8 n P,j8 n O]=some (j8 n J)/\N6 [j8 n O,j8 n P]=some (j8 n J)/\∀ b:aG,b.length=n->(Lat.Span (St.vecs P) (λk=>St.at0 b k)↔Lat.Span (St.vecs T) (St.mix table b)):=by
 obtain⟨ST,hT,GT⟩:=HT.hs;have n1:=HO.n1;have n6:=HO.n6;have m6:=HT.n6;have oB:=HO.m8;have tB:=HT.m8;have aT:=St.T8 GT.asc (wK _);have lT:=GT.len;have core:∀(B w wP e1 e2 rS rP rJ:Nat),(∀ r∈O,St.Lt (2 ^ wP) r)->(∀ r∈T,St.Lt B r)->0<B->ST.length<=rS->n<=rP->rP+O.length<=rJ->0<rS->rS+n<=rS+rP->0<rP->rP<=6->rJ<=20->St.bnd rS B+1<=2 ^ w->31<=2 ^ w->0<w->w<=wP->rP+rS<=12->wP<=899->St.bnd (rP+rS) (2 ^ w)+1<=2 ^ wP->St.bnd rP (2 ^ wP)+1<=2 ^ e1->wP<=e1->e1<=8990->St.bnd rJ (2 ^ wP)+1<=2 ^ e2->wP<=e2->e2<=8990 ->
     ∃ P ST J,CK [j8 n O,LL table,j8 m T]=some (j8 n P)/\Hs m T ST/\Hs n P P/\N6 [j8 n P,j8 n O]=some (j8 n J)/\N6 [j8 n O,j8 n P]=some (j8 n J)/\∀ b:aG,b.length=n->(Lat.Span (St.vecs P) (λk=>St.at0 b k)↔Lat.Span (St.vecs T) (St.mix table b)):=by
   intro B w wP e1 e2 rS rP rJ bO bT B0 sT nP hJ rS0 _ rP0 rP6 rJ20 c1 c31 w0 wwP r12 wP9 c2 c3 wPe e18 c4 wPe2 e28;have bST:∀ r∈ST,St.Lt (2 ^ w) r:=λr hr=>((⟨GT.asc,GT.form,GT.span,GT.ind,GT.len,GT.full⟩:St.Good m B T ST).small bT B0 r hr).mono (S9 sT rS0 B0 c1);obtain⟨P,ep,aP,fP,bP,spP⟩:=RW (O:=O) (w:=w) (e:=wP) (j:=rP+rS) n6 m6 hT.es hT.asc hl hw (λr hr=>(b4 r hr).mono c31) bST w0 (by rfl') (by rfl') r12 wwP (by rfl') c2;have aPl:=St.T8 aP (wK _);have wdP:Wide n P:=λr hr=>(aP.mem hr).1;have hsP:=z1L (s:=wP) (j:=rP) (e:=e1) n1 n6 aP fP bP (by rfl') rP0 rP6 (by rfl') wP9 e18 wPe c3;obtain⟨J,ej,G⟩:=Kl (e:=e2) (B:=2 ^ wP) n6 wdP HO.wide bP bO (wE _) (wj (by decide) wPe2) e28 (by rfl') (λk hk=>S9 (show k<=rJ by rfl') (by rfl') (wE _) c4);obtain⟨J',ej',G'⟩:=Kl (e:=e2) (B:=2 ^ wP) n6 HO.wide wdP bO bP (wE _) (wj (by decide) wPe2) e28 (by rfl') (λk hk=>S9 (show k<=rJ by rfl') (by rfl') (wE _) c4);have e:J'=J:=St.LW G'.asc G'.form G.asc G.form (G'.span.trans (Lat.SameSpan.trans (Lat.SameSpan.of_iff λv=>by
     rw[St.AS,St.AS];exact⟨λ⟨x,y,a,b,e⟩=>⟨y,x,b,a,λk=>by rw[e k,Int.add_comm]⟩,λ⟨x,y,a,b,e⟩=>⟨y,x,b,a,λk=>by rw[e k,Int.add_comm]⟩⟩) G.span.symm))
   subst e;exact⟨P,ST,J',ep,hT,hsP,ej,ej',λb hb=>by rw[spP b hb];exact hT.span.iff⟩
 obtain⟨m3,tw⟩:=tw;rcases tw with⟨h1,h2,h3,h4⟩|⟨h1,h2,h3⟩
 · exact core (10 ^ 30) 209 870 1800 3600 2 2 4 (λr hr=>(HO.lt r hr).mono (by decide)) HT.lt (by decide) (by rfl') h1 (by rfl') (by decide) (by rfl') (by decide) (by decide) (by decide) (by unfold St.bnd;decide) (by decide) (by decide) (by decide) (by decide) (by decide) (by unfold St.bnd;decide) (by unfold St.bnd;decide) (by decide) (by decide) (by unfold St.bnd;decide) (by decide) (by decide)
 · rcases h3 with h3|h3
   · exact core 31 40 480 3000 5500 3 6 9 (λr hr=>(h1 r hr).mono (by decide)) h2 (by decide) (by rfl') n6 (by rfl') (by decide) (by rfl') (by decide) (by decide) (by decide) (by unfold St.bnd;decide) (by decide) (by decide) (by decide) (by decide) (by decide) (by unfold St.bnd;decide) (by unfold St.bnd;decide) (by decide) (by decide) (by unfold St.bnd;decide) (by decide) (by decide)
   · exact core 31 40 480 3000 5500 3 3 11 (λr hr=>(h1 r hr).mono (by decide)) h2 (by decide) (by rfl') h3 (by rfl') (by decide) (by rfl') (by decide) (by decide) (by decide) (by unfold St.bnd;decide) (by decide) (by decide) (by decide) (by decide) (by decide) (by unfold St.bnd;decide) (by unfold St.bnd;decide) (by decide) (by decide) (by unfold St.bnd;decide) (by decide) (by decide)
abbrev R26:FS:=(sSeq (sSet [] 12 (i7 true AX (f8 (fN 7) (f8 (fBlt bLst (f8 (fN 11) fNil)) (f8 (fN 3) fNil)))))
 (sSeq (sIf (fOr (fNot (fTru (i7 true O3 (f8 (fN 12) (f8 (fN 3) fNil))))) (o9 (fOp opNe (fN 12) (i7 true Q8 (f8 (fN 3) (f8 (fN 6) (f8 (fN 11) fNil))))))) (sRet (fC (.bl false))) v4)
 (sSeq (sSet [] 13 (i7 true F8 (f8 (fN 5) (f8 (fAt (fN 1) (fC (.int 3))) (f8 (n4 1 [] (n9 (fN 3)) (Tg.one 0) fYes (fC (.int 0))) (f8 (fN 12) fNil))))))
 (sSeq (sSet [] 14 (i7 true F8 (f8 (fN 8) (f8 (fN 10) (f8 (n4 1 [] (n9 (fN 2)) (Tg.one 0) fYes (fC (.int 0))) (f8 (fN 11) fNil))))))
 (sSeq (sIf (fOr (o9 (fOp AJ (fN 13) (fC .non))) (fOr (o9 (fOp AJ (fN 14) (fC .non))) (o9 (fOp opNe (fN 14) (fN 13))))) (sRet (fC (.bl false))) v4)
 (sRet (vOr (fN 14) (fOp opEq (fOp E3 (i7 true u9 (f8 (fN 0) (f8 (fC (.int 5)) fNil))) (fC (.int 2))) (fC (.int 0))))))))))
theorem z1O(ns:aG)(h:ns.length<=63):YD [.scr ns]=some (.bl true):=by
 obtain⟨n,O,m,T,e0,HO,HT,tw⟩:=z1N ns;have n1:=HO.n1;have n6:=HO.n6;have m6:=HT.n6;have tb:∀ ρ:Rho,∀ f3,(n9 (fN 2)) ρ=some (K2 0 n)->sigD 1 [0,3] ρ=[.no,.sh false (.scr ns),.sh f3 (.int m)]->n4 1 [0,3] (n9 (fN 2)) (Tg.one 0) fYes (i7 true K6 (f8 (fN 1) (f8 (fOp u4 (fC (.int 40)) (fOp C3 (fC (.int 3)) (fN 0))) (f8 (fN 2) (f8 (fC (.int 0)) fNil))))) ρ=some (.nw,LL ((List.range n).map λ(j:Nat)=>L1 ns (40+3*(j:Int)) m 0)):=λρ f3 hi hs=>by
   rw[o0 (e:=λ(j:Nat) => .int (0+(j:Int))) (h:=λ(j:Nat)=>L (L1 ns (40+3*(j:Int)) m 0)) (xs:=List.range n) (by rw[hi,w8]) (λj hj=>by
     have hj:=wQ.mp hj;have hm:C9 3 (j:Int)=true:=P7 (by decide);have e:=FK ns (40+3*(j:Int)) m 0 (by rfl') (by rfl') (by decide) (by decide);rw[hs];simp[cOf,hm,e])]
   simp[LL]
 have hl:((List.range n).map λ(j:Nat)=>L1 ns (40+3*(j:Int)) m 0).length=n:=by simp
 have hw:Wide m ((List.range n).map λ(j:Nat)=>L1 ns (40+3*(j:Int)) m 0):=λr hr=>by
   obtain⟨j,_,rfl⟩:=wg.mp hr;exact AO _ _ _ _
 have b4:∀ r∈(List.range n).map (λ(j:Nat)=>L1 ns (40+3*(j:Int)) m 0),St.Lt 31 r:=λr hr=>by
   obtain⟨j,_,rfl⟩:=wg.mp hr;exact RY _ _ _ _ (by decide) (by decide)
 generalize (List.range n).map (λ(j:Nat)=>L1 ns (40+3*(j:Int)) m 0)=table at *;obtain⟨P,ST,J,ep,hT,hP,ej,ej',spP⟩:=Oo HO HT tw hl hw b4;have bO:∀ r∈O,St.Lt (2 ^ 100) r:=λr hr=>(HO.lt r hr).mono (by decide);have eso:=z1M (e:=0) m6 HO.wide bO hT hl hw b4 n6;have els:=RX m6 n6 HO.wide bO hT hl hw b4;generalize (O.all λr=>decide (St.n8 (mixR m table r) ST=o6 m))=so at *;have eO:=HO.made;have eT:=HT.made;have cO:=CY O;have cT:=CY T;have cB:=CY table;have esP:=hP.es;have sn:∀(f:Fl) (d:Dt),(nrm f d).2=d:=λ_ _=>rfl;have hs:=Ml n P;have hsJ:=Ml n J;have tc:∀ ρ:List Cell,(∃ f,fN 8 ρ=some (f,j8 n P))->n4 1 [] (iSeq (i7 true N0 (f8 (fN 8) fNil))) (Tg.one 0) fYes (fBlt bTup (f8 (fN 0) fNil)) ρ=some (.nw,.lst (P.map L2.T)):=λρ ⟨f,e5⟩=>by
   rw[o0 (e:=L) (h:=L2.T) (xs:=P) (by
     generalize j8 n P=hj at *;unfold iSeq i7;show((((fN 8 ρ).bind _).bind _).bind _)=_;rw[e5];simp[cOf,esP]) (λr hr=>by simp[cOf])]
 have cj:∀ ρ:List Cell,ρ[8]?=some (.sh true (j8 n P))->n4 1 [] (iSeq (fAt (fN 8) (fC (.int 1)))) (Tg.one 0) fYes (fBlt bLst (f8 (fN 0) fNil)) ρ=some (.nw,LL P):=λρ e8=>o0 (e:=L2.T) (h:=L) (xs:=P) (by simp[cOf,e8]) (λr hr=>by simp[cOf]);have ltP:∀ r∈P,St.Lt (2 ^ 900) r:=λr hr=>(hP.sS r hr).mono (wj (by decide) (by decide));have lP:=St.T8 hP.asc (wK _);have e1:=FK ns 52 n 1 (by decide) (by rfl') (by decide) (by decide);have e2:=FK ns 52 P.length 0 (by decide) (by rfl') (by decide) (by decide);have l1:=AO ns 52 n 1;have l2:=AO ns 52 P.length 0;have b1:=Jy ns 52 n 1;have b2:=Jy ns 52 P.length 0;generalize L1 ns 52 n 1=b at *;generalize L1 ns 52 P.length 0=uses at *;have s1:St.Lt (2 ^ 1100) b:=(St.DG (by decide) b1).mono (wG (show 10 ^ 30<=2 ^ 100 by decide) (wj (by decide) (by decide)));have k5:=E2 ns 5 (by decide);have o2:Ac (A1 ns 5) 2=true:=M8 (by decide);obtain⟨w0,w2⟩:=D5 (A1 ns 5) (show(0:Int)<2 by decide);generalize ew:(A1 ns 5).fmod 2=w at *;have dn:=HO.m8;have dm:=HT.m8;generalize edr:Dt.tup [.int n,LL O,.int m,LL T]=dr at e0;have fin:∀ b:aG,b.length=n->St.Lt (2 ^ 1100) b->(w=0\/Lat.Span (St.vecs P) (λk=>St.at0 b k))->R26 [.sh false (.scr ns),.sh true dr,.sh true (.int n),.sh true (.int m),.sh true (j8 n O),.sh true (j8 m T),.sh true (LL table),.sh true (LL table),.sh true (j8 n P),.sh true (.bl so),.sh true (LL P),.sh true (L b),.no,.no,.no]=some (.rt .nw (.bl true)):=by
   intro b lb sb hw';have mk:∀ r∈table,∀ c∈b,∀ x∈r,C9 c x=true:=λr hr c hc x hx=>J9 (R8 sb c hc) (show x.natAbs<2 ^ 5 from uL (R8 (b4 r hr) x hx) (by decide)) (by decide);have ca:=RV (by rfl') hl hw lb mk;have ls:=FQ m table b (by rfl') (by rfl') hw (by rfl') mk;have ml:(mixR m table b).length=m:=AQ hw;have sm:St.Lt (2 ^ 1200) (mixR m table b):=λk=>by
     rw[Y5 hw];have q:=St.BG (N:=2 ^ 1100) (B:=31) (R:=table) (cs:=b) b4 (λc hc=>vw (R8 sb c hc)) k;have:table.length*(2 ^ 1100*31)<=6*(2 ^ 1100*31):=wy _ (by rfl');have:6*(2 ^ 1100*31)<2 ^ 1200:=by decide
     rfl'
   have ir:=CT (mixR m table b) m;rw[ml,decide_eq_true rfl]at ir;have zz:∀ q,St.Lt (2 ^ 5400) (o6 q):=λq k=>by rw[E5];exact wE _
   obtain⟨p1,p2⟩:=Om (one:=o6 m) (other:=mixR m table b) hT B9 ml (zz m) (sm.mono (wj (by decide) (by decide)));obtain⟨q1,q2⟩:=Om (one:=o6 n) (other:=b) hP B9 lb (zz n) (sb.mono (wj (by decide) (by decide)));have iT:(λk=>St.at0 (mixR m table b) k-St.at0 (o6 m) k)=St.mix table b:=funext λk=>by rw[E5,Y5 hw];rfl'
   have iP:(λk=>St.at0 b k-St.at0 (o6 n) k)=λk=>St.at0 b k:=funext λk=>by rw[E5];rfl'
   rw[iT]at p1 p2;rw[iP]at q1 q2;have ne:=LN (mixR m table b) (mixR m table b);rw[decide_eq_true rfl]at ne;have ne:opNe (L (mixR m table b)) (L (mixR m table b))=some (.nw,.bl false):=ne;have nb:∀ c:Bool,opNe (.bl c) (.bl c)=some (.nw,.bl false):=λc=>by cases c<;>simp[opNe,opEq]<;>exact⟨rfl,rfl⟩
   have ib:∀ c:Bool,AJ (.bl c) .non=some (.nw,.bl false):=λc=>rfl;have z1:=RJ m (by rfl') [.sh false (.scr ns),.sh true dr,.sh true (.int n),.sh true (.int m),.sh true (j8 n O),.sh true (j8 m T),.sh true (LL table),.sh true (LL table),.sh true (j8 n P),.sh true (.bl so),.sh true (LL P),.sh true (L b),.sh true (L (mixR m table b)),.no,.no] (fN 3) .nw (by simp[cOf]);have z2:=λv:Bool=>RJ n (by rfl') [.sh false (.scr ns),.sh true dr,.sh true (.int n),.sh true (.int m),.sh true (j8 n O),.sh true (j8 m T),.sh true (LL table),.sh true (LL table),.sh true (j8 n P),.sh true (.bl so),.sh true (LL P),.sh true (L b),.sh true (L (mixR m table b)),.sh true (.bl v),.no] (fN 2) .nw (by simp[cOf]);generalize mixR m table b=mx at *;generalize o6 m=zm at *;generalize o6 n=zn at *;have d3:atI [Dt.int n,LL O,.int m,LL T] 3=some (LL T):=rfl;have go:∀ v:Bool,(v=true\/w=0)->F8 [j8 m T,LL T,L zm,L mx]=some (.bl v)->F8 [j8 n P,LL P,L zn,L b]=some (.bl v)->R26 [.sh false (.scr ns),.sh true dr,.sh true (.int n),.sh true (.int m),.sh true (j8 n O),.sh true (j8 m T),.sh true (LL table),.sh true (LL table),.sh true (j8 n P),.sh true (.bl so),.sh true (LL P),.sh true (L b),.no,.no,.no]=some (.rt .nw (.bl true)):=by
     intro v hv x1 x2;have z2:=z2 v;subst edr;generalize j8 n O=ho at *;generalize j8 m T=ht at *;generalize j8 n P=hp at *;refine run (by simp[cOf,ca];rfl) ?_;refine run (by simp[cOf,ir,ls,ne];rfl) ?_;refine run (by simp[cOf,sn,z1,d3,x1];rfl) ?_;refine run (by simp[cOf,sn,z2,x2];rfl) ?_;refine run (by simp[cOf,ib,nb];rfl) ?_;rcases hv with rfl|hv
     · simp[cOf]
     · cases v<;>simp[cOf,k5,o2,ew,hv,v8]
   by_cases x:Lat.Span (St.vecs P) (λk=>St.at0 b k)
   · exact go true (.inl rfl) (p1 ((spP b lb).mp x)) (q1 x)
   · refine go false (.inr ?_) (p2 λz=>x ((spP b lb).mpr z)) (q2 x);rcases hw' with h|h
     · exact h
     · exact absurd h x
 have d1:atI [Dt.int n,LL O,.int m,LL T] 1=some (LL O):=rfl;have d2:atI [Dt.int n,LL O,.int m,LL T] 2=some (.int m):=rfl;have d3:atI [Dt.int n,LL O,.int m,LL T] 3=some (LL T):=rfl;have d0:atI [Dt.int n,LL O,.int m,LL T] 0=some (.int n):=rfl;have nbo:opNe (.bl so) (.bl so)=some (.nw,.bl false):=by cases so<;>simp[opNe,opEq]<;>exact⟨rfl,rfl⟩
 have ner:=ZQ table table;rw[decide_eq_true rfl]at ner;have ner:opNe (LL table) (LL table)=some (.nw,.bl false):=ner;refine V5 (f := .nw) rfl ?_ rfl;unfold z1z;refine run (by simp[cOf,e0,sn];rfl) ?_;refine run (ρ':=[.sh false (.scr ns),.sh true dr,.sh true (.int n),.no,.no,.no,.no,.no,.no,.no,.no,.no,.no,.no,.no]) (by subst edr;simp[cOf]) ?_;refine run (ρ':=[.sh false (.scr ns),.sh true dr,.sh true (.int n),.sh true (.int m),.no,.no,.no,.no,.no,.no,.no,.no,.no,.no,.no]) (by subst edr;simp[cOf]) ?_;refine run (ρ':=[.sh false (.scr ns),.sh true dr,.sh true (.int n),.sh true (.int m),.sh true (j8 n O),.no,.no,.no,.no,.no,.no,.no,.no,.no,.no]) (by subst edr;simp[cOf,d1,cO,eO]) ?_;refine run (ρ':=[.sh false (.scr ns),.sh true dr,.sh true (.int n),.sh true (.int m),.sh true (j8 n O),.sh true (j8 m T),.no,.no,.no,.no,.no,.no,.no,.no,.no]) (by
   subst edr;generalize j8 n O=ho at *;simp[cOf,d3,cT,eT]) ?_
 refine run (ρ':=[.sh false (.scr ns),.sh true dr,.sh true (.int n),.sh true (.int m),.sh true (j8 n O),.sh true (j8 m T),.sh true (LL table),.no,.no,.no,.no,.no,.no,.no,.no]) (by
   have q:=tb [.sh false (.scr ns),.sh true dr,.sh true (.int n),.sh true (.int m),.sh true (j8 n O),.sh true (j8 m T),.no,.no,.no,.no,.no,.no,.no,.no,.no] false (by simp[cOf,y13 n (by rfl')]) rfl;generalize j8 n O=ho at *;generalize j8 m T=ht at *;simp[cOf,sn,q]) ?_
 refine run (ρ':=[.sh false (.scr ns),.sh true dr,.sh true (.int n),.sh true (.int m),.sh true (j8 n O),.sh true (j8 m T),.sh true (LL table),.sh true (LL table),.no,.no,.no,.no,.no,.no,.no]) (by
   generalize j8 n O=ho at *;generalize j8 m T=ht at *;simp[cOf,cB]) ?_
 refine run (ρ':=[.sh false (.scr ns),.sh true dr,.sh true (.int n),.sh true (.int m),.sh true (j8 n O),.sh true (j8 m T),.sh true (LL table),.sh true (LL table),.sh true (j8 n P),.no,.no,.no,.no,.no,.no]) (by
   generalize j8 n O=ho at *;generalize j8 m T=ht at *;simp[cOf,sn,ep]) ?_
 refine run (ρ':=[.sh false (.scr ns),.sh true dr,.sh true (.int n),.sh true (.int m),.sh true (j8 n O),.sh true (j8 m T),.sh true (LL table),.sh true (LL table),.sh true (j8 n P),.sh true (.bl so),.no,.no,.no,.no,.no]) (by
   generalize j8 n O=ho at *;generalize j8 m T=ht at *;generalize j8 n P=hp at *;simp[cOf,sn,eso]) ?_
 refine run (by simp[cOf,ner];rfl) ?_;refine run (ρ':=[.sh false (.scr ns),.sh true dr,.sh true (.int n),.sh true (.int m),.sh true (j8 n O),.sh true (j8 m T),.sh true (LL table),.sh true (LL table),.sh true (j8 n P),.sh true (.bl so),.no,.no,.no,.no,.no]) (by
   subst edr;generalize j8 n O=ho at *;generalize j8 m T=ht at *;generalize j8 n P=hp at *;simp[cOf,sn,d1,d3,els,nbo]) ?_
 refine run (ρ':=[.sh false (.scr ns),.sh true dr,.sh true (.int n),.sh true (.int m),.sh true (j8 n O),.sh true (j8 m T),.sh true (LL table),.sh true (LL table),.sh true (j8 n P),.sh true (.bl so),.sh true (LL P),.no,.no,.no,.no]) (by
   have q:=cj [.sh false (.scr ns),.sh true dr,.sh true (.int n),.sh true (.int m),.sh true (j8 n O),.sh true (j8 m T),.sh true (LL table),.sh true (LL table),.sh true (j8 n P),.sh true (.bl so),.no,.no,.no,.no,.no] rfl;have q:n4 1 [] (iSeq (fAt (fN 8) (fC (.int 1)))) (Tg.one 0) fYes (fBlt bLst (f8 (fN 0) fNil)) [.sh false (.scr ns),.sh true dr,.sh true (.int n),.sh true (.int m),.sh true (j8 n O),.sh true (j8 m T),.sh true (LL table),.sh true (LL table),.sh true (j8 n P),.sh true (.bl so),.no,.no,.no,.no,.no]=some (.nw,LL P):=q;generalize j8 n O=ho at *;generalize j8 m T=ht at *;generalize j8 n P=hp at *;simp[cOf,q]) ?_
 refine run (ρ':=[.sh false (.scr ns),.sh true dr,.sh true (.int n),.sh true (.int m),.sh true (j8 n O),.sh true (j8 m T),.sh true (LL table),.sh true (LL table),.sh true (j8 n P),.sh true (.bl so),.sh true (LL P),.no,.no,.no,.no]) (by
   have tc1:=tc [.sh false (.scr ns),.sh true dr,.sh true (.int n),.sh true (.int m),.sh true (j8 n O),.sh true (j8 m T),.sh true (LL table),.sh true (LL table),.sh true (j8 n P),.sh true (.bl so),.sh true (LL P),.no,.no,.no,.no] ⟨_,rfl⟩;have tc1:n4 1 [] (iSeq (i7 true N0 (f8 (fN 8) fNil))) (Tg.one 0) fYes (fBlt bTup (f8 (fN 0) fNil)) [.sh false (.scr ns),.sh true dr,.sh true (.int n),.sh true (.int m),.sh true (j8 n O),.sh true (j8 m T),.sh true (LL table),.sh true (LL table),.sh true (j8 n P),.sh true (.bl so),.sh true (LL P),.no,.no,.no,.no]=some (.nw,.lst (P.map L2.T)):=tc1;have bt:bTup [.lst (P.map L2.T)]=some (.nw,TTu P):=by simp[bTup,GP]
   generalize j8 n O=ho at *;generalize j8 m T=ht at *;generalize j8 n J=hj at *;have hs2:opNe (j8 n P) (.tup [.int n,TTu P])=some (.nw,.bl false):=hs;generalize j8 n P=hp at *;generalize hT':TTu P=tj at *;simp[cOf,sn,tc1,bt,hs,hs2,hsJ,ej,ej']) ?_
 generalize j8 n O=ho at *;generalize j8 m T=ht at *;generalize j8 n P=hp at *;refine run (by simp[cOf,e1];rfl) ?_;rcases(show w=0\/w=1 by rfl')with hw0|hw0
 · refine run (by simp[cOf,k5,o2,ew,hw0,v8];rfl) ?_;exact fin b l1 s1 (.inl hw0)
 · have ls:=FQ n P uses (by rfl') (by rfl') hP.wide (by rfl') (λr hr c hc x hx=>J9 (lt30 (b2 c hc)) (R8 (ltP r hr) x hx) (by decide));have ml:(mixR n P uses).length=n:=AQ hP.wide;have sm:St.Lt (2 ^ 1100) (mixR n P uses):=λk=>by
     rw[Y5 hP.wide];have q:=St.BG (N:=10 ^ 30) (B:=2 ^ 900) (R:=P) (cs:=uses) ltP (λc hc=>vw (b2 c hc)) k;have:P.length*(10 ^ 30*2 ^ 900)<=6*(10 ^ 30*2 ^ 900):=wy _ (by rfl');have:6*(10 ^ 30*2 ^ 900)<2 ^ 1100:=by decide
     rfl'
   have spn:Lat.Span (St.vecs P) (λk=>St.at0 (mixR n P uses) k):=Lat.Span.congr (λk=>(Y5 hP.wide k).symm) (St.NH (R:=P) uses);generalize mixR n P uses=pb at *;refine run (by simp[cOf,k5,o2,ew,hw0,v8,e2,ls];rfl) ?_;exact fin pb ml sm (.inr spn)
end
def top(i:Nat):Stmt:=PySem.Challenge.pw_changehall_k26_whole_pulled.main.body.getD i (.Pass ⟨0,0,0,0⟩)
abbrev EQ:Stmt:=top 6
theorem Qd:FnScope ["value"] ["value"] (i6 EQ):=scm
abbrev FY:Stmt:=top 7
theorem z0f:FnScope ["value", "length"] ["value", "length"] (i6 FY):=scm
abbrev DV:Stmt:=top 8
theorem RZ:FnScope ["length"] ["length"] (i6 DV):=scm
abbrev BP:Stmt:=top 9
theorem Qe:FnScope ["length", "one_at"] ["length", "one_at"] (i6 BP):=scm
abbrev IV:Stmt:=top 10
theorem z1P:FnScope ["one", "other"] ["one", "other"] (i6 IV):=scm
abbrev IW:Stmt:=top 11
theorem z1Q:FnScope ["one", "other"] ["one", "other"] (i6 IW):=scm
abbrev FZ:Stmt:=top 12
theorem z0g:FnScope ["row", "often"] ["row", "often"] (i6 FZ):=scm
abbrev DW:Stmt:=top 13
theorem Sa:FnScope ["row", "weights"] ["row", "weights"] (i6 DW):=scm
abbrev Op:Stmt:=top 14
theorem CZ:FnScope ["rows", "counts", "length", "total", "row", "often"] ["rows", "counts", "length"] (i6 Op):=scm
abbrev HA:Stmt:=top 15
theorem ER:FnScope ["row", "spot", "number"] ["row"] (i6 HA):=scm
abbrev Da:Stmt:=top 19
theorem Oq:FnScope ["value"] ["value"] (i6 Da):=scm
abbrev DX:Stmt:=top 20
theorem Sb:FnScope ["value", "kinds"] ["value", "kinds"] (i6 DX):=scm
abbrev BQ:Stmt:=top 21
theorem Lm:FnScope ["kinds"] ["kinds"] (i6 BQ):=scm
abbrev Db:Stmt:=top 22
theorem Os:FnScope ["bill", "kinds"] ["bill", "kinds"] (i6 Db):=scm
abbrev DY:Stmt:=top 24
theorem Sc:FnScope ["kinds", "rows"] ["kinds", "rows"] (i6 DY):=scm
abbrev HB:Stmt:=top 23
theorem Km:FnScope ["kinds", "bills", "bill"] ["kinds", "bills"] (i6 HB):=scm
abbrev T0:Stmt:=top 25
theorem Gb:FnScope ["kinds", "basket"] ["kinds", "basket"] (i6 T0):=scm
abbrev AF:Stmt:=top 26
theorem Kn:FnScope ["hall", "basket"] ["hall", "basket"] (i6 AF):=scm
abbrev Ko:Stmt:=top 27
theorem z0h:FnScope ["hall"] ["hall"] (i6 Ko):=scm
abbrev Ot:Stmt:=top 28
theorem z1R:FnScope ["hall", "one", "other"] ["hall", "one", "other"] (i6 Ot):=scm
abbrev Dc:Stmt:=top 30
theorem P2:FnScope ["a", "b", "upper", "lower", "often", "left"] ["a", "b"] (i6 Dc):=scm
abbrev Sd:Stmt:=top 31
theorem z5Q:FnScope ["a", "part"] ["a", "part"] (i6 Sd):=scm
abbrev HC:Stmt:=top 32
theorem BR:FnScope ["numbers", "found", "number"] ["numbers"] (i6 HC):=scm
abbrev ES:Stmt:=top 34
theorem L7:FnScope ["row", "rungs", "left", "counts", "rung", "spot", "often"] ["row", "rungs"] (i6 ES):=scm
abbrev HD:Stmt:=top 35
theorem Se:FnScope ["row", "rungs"] ["row", "rungs"] (i6 HD):=scm
abbrev HE:Stmt:=top 36
theorem Z6:FnScope ["rung", "row", "spot", "found", "upper", "lower"] ["rung", "row"] (i6 HE):=scm
abbrev Dd:Stmt:=top 37
theorem Ou:FnScope ["row"] ["row"] (i6 Dd):=scm
abbrev BS:Stmt:=top 38
theorem P3:FnScope ["rungs", "row", "found", "left", "places", "pair"] ["rungs", "row"] (i6 BS):=scm
abbrev Kp:Stmt:=top 39
theorem HG:FnScope ["rungs", "found", "rung"] ["rungs"] (i6 Kp):=scm
abbrev HH:Stmt:=top 40
theorem BU:FnScope ["rows", "rungs", "row"] ["rows"] (i6 HH):=scm
abbrev Q9:Stmt:=top 41
theorem IK:FnScope ["rows", "tags"] ["rows", "tags"] (i6 Q9):=scm
abbrev N3:Stmt:=top 42
theorem Gc:FnScope ["rungs", "width"] ["rungs", "width"] (i6 N3):=scm
abbrev Ov:Stmt:=top 43
theorem z1S:FnScope ["hall"] ["hall"] (i6 Ov):=scm
abbrev K7:Stmt:=top 44
theorem Z7:FnScope ["hall", "many"] ["hall"] (i6 K7):=scm
abbrev Gd:Stmt:=top 46
theorem z0i:FnScope ["rows", "width"] ["rows", "width"] (i6 Gd):=scm
abbrev BV:Stmt:=top 47
theorem De:FnScope ["rows", "place", "row"] ["rows"] (i6 BV):=scm
abbrev IX:Stmt:=top 48
theorem z1T:FnScope ["row", "part"] ["row", "part"] (i6 IX):=scm
abbrev W9:Stmt:=top 49
theorem L8:FnScope ["rows", "tags", "whole", "many", "square", "weights", "other", "both"] ["rows", "tags", "whole"] (i6 W9):=scm
abbrev Kq:Stmt:=top 50
theorem X0:FnScope ["one", "other", "found", "common", "least", "upper", "lower"] ["one", "other"] (i6 Kq):=scm
abbrev DZ:Stmt:=top 51
theorem Z8:FnScope ["measured", "found", "first", "second", "pair"] ["measured"] (i6 DZ):=scm
abbrev L9:Stmt:=top 52
theorem G9:FnScope ["hall", "kinds", "rungs", "many", "both", "square", "whole", "bound"] ["hall"] (i6 L9):=scm
abbrev BW:Stmt:=top 54
theorem Qf:FnScope ["one", "table", "other"] ["one", "table", "other"] (i6 BW):=scm
abbrev BX:Stmt:=top 55
theorem Ln:FnScope ["one", "table", "other"] ["one", "table", "other"] (i6 BX):=scm
abbrev HI:Stmt:=top 56
theorem Sf:FnScope ["table", "basket", "kinds"] ["table", "basket", "kinds"] (i6 HI):=scm
abbrev IY:Stmt:=top 57
theorem Qg:FnScope ["one", "table", "other", "rungs"] ["one", "table", "other"] (i6 IY):=scm
abbrev Dg:Stmt:=top 58
theorem Ea:FnScope ["one", "table", "other", "rungs", "goods", "both"] ["one", "table", "other"] (i6 Dg):=scm
abbrev HJ:Stmt:=top 61
theorem ET:FnScope ["hall", "one", "other", "back", "left"] ["hall", "one", "other"] (i6 HJ):=scm
abbrev Sg:Stmt:=top 60
theorem z5R:FnScope ["hall", "one", "other"] ["hall", "one", "other"] (i6 Sg):=scm
abbrev Ge:Stmt:=top 63
theorem z0j:FnScope ["hall"] ["hall"] (i6 Ge):=scm
abbrev Sh:Stmt:=top 64
theorem z5S:FnScope ["way", "scale"] ["way", "scale"] (i6 Sh):=scm
abbrev T1:Stmt:=top 65
theorem Gf:FnScope ["scale", "found"] ["scale", "found"] (i6 T1):=scm
abbrev Kr:Stmt:=top 66
theorem Eb:FnScope ["hall", "one", "other", "way", "scale", "found"] ["hall", "one", "other"] (i6 Kr):=scm
abbrev Di:Stmt:=top 68
theorem Ow:FnScope ["one", "other"] ["one", "other"] (i6 Di):=scm
abbrev Ks:Stmt:=top 69
theorem z0k:FnScope ["one", "other"] ["one", "other"] (i6 Ks):=scm
abbrev Dj:Stmt:=top 71
theorem Ox:FnScope ["_law_script", "_law_k"] ["_law_script", "_law_k"] (i6 Dj):=scm
abbrev HK:Stmt:=top 72
theorem Si:FnScope ["_law_found"] ["_law_found"] (i6 HK):=scm
abbrev EU:Stmt:=top 73
theorem Im:FnScope ["_law_found", "_law_size", "_law_number_here"] ["_law_found", "_law_size"] (i6 EU):=scm
abbrev EV:Stmt:=top 74
theorem Ap:FnScope ["_law_cell", "_law_mode", "_law_number_here", "_law_wide"] ["_law_cell", "_law_mode"] (i6 EV):=scm
abbrev IZ:Stmt:=top 75
theorem z1U:FnScope ["_law_script", "_law_at", "_law_size", "_law_mode"] ["_law_script", "_law_at", "_law_size", "_law_mode"] (i6 IZ):=scm
abbrev Gg:Stmt:=top 76
theorem Gh:FnScope ["_law_size", "_law_rows", "_law_times", "_law_made", "_law_j"] ["_law_size", "_law_rows", "_law_times"] (i6 Gg):=scm
abbrev Gi:Stmt:=top 77
theorem z0l:FnScope ["_law_one", "_law_other", "_law_times"] ["_law_one", "_law_other", "_law_times"] (i6 Gi):=scm
abbrev HL:Stmt:=top 78
theorem BY:FnScope ["_law_weights", "_law_row_here", "_law_made", "_law_k"] ["_law_weights", "_law_row_here"] (i6 HL):=scm
abbrev HM:Stmt:=top 79
theorem Sj:FnScope ["_law_bills", "_law_one", "_law_other", "_law_uses"] ["_law_bills", "_law_one", "_law_other", "_law_uses"] (i6 HM):=scm
abbrev EW:Stmt:=top 80
theorem Io:FnScope ["_law_bills", "_law_one", "_law_other", "_law_scale", "_law_bill"] ["_law_bills", "_law_one", "_law_other", "_law_scale"] (i6 EW):=scm
abbrev Gj:Stmt:=top 81
theorem E1:FnScope ["_law_script", "_law_mode", "_law_kinds", "_law_others", "_law_many", "_law_size", "_law_one", "_law_other"] ["_law_script"] (i6 Gj):=scm
abbrev BZ:Stmt:=top 82
theorem Qh:FnScope ["_law_rows"] ["_law_rows"] (i6 BZ):=scm
abbrev Kt:Stmt:=top 83
theorem HN:FnScope ["_law_hall", "_law_bills", "_law_one", "_law_other", "_law_uses", "_law_scale"] ["_law_hall", "_law_bills", "_law_one", "_law_other"] (i6 Kt):=scm
abbrev Ec:Stmt:=top 84
theorem T2:FnScope ["_law_other", "_law_bills", "_law_table", "_law_rows", "_law_level", "_law_empty", "_law_row_here", "_law_found"] ["_law_other", "_law_bills", "_law_table", "_law_rows"] (i6 Ec):=scm
abbrev Ip:Stmt:=top 85
theorem N4:FnScope ["_law_script", "_law_drawn", "_law_kinds", "_law_size", "_law_one", "_law_other", "_law_table", "_law_handed", "_law_hall", "_law_said", "_law_bills", "_law_basket", "_law_there", "_law_due", "_law_found"] ["_law_script"] (i6 Ip):=scm
set_option genInjectivity false in
structure Adr where
 Kz:Addr
 KA:FuncData
 Qr:Addr
 Qs:FuncData
 Mq:Addr
 Mr:FuncData
 KB:Addr
 KC:FuncData
 YN:Addr
 YO:FuncData
 YQ:Addr
 YR:FuncData
 Qt:Addr
 Qu:FuncData
 Mt:Addr
 Mu:FuncData
 YS:Addr
 YT:FuncData
 Mv:Addr
 Mx:FuncData
 Ir:Addr
 Iu:FuncData
 My:Addr
 MA:FuncData
 Gq:Addr
 Gr:FuncData
 Iv:Addr
 Iw:FuncData
 MB:Addr
 MC:FuncData
 ME:Addr
 MF:FuncData
 Bc:Addr
 Bd:FuncData
 Ep:Addr
 Er:FuncData
 Qv:Addr
 Qw:FuncData
 YU:Addr
 YV:FuncData
 Qx:Addr
 Qy:FuncData
 z4K:Addr
 z4L:FuncData
 MG:Addr
 MH:FuncData
 KD:Addr
 KE:FuncData
 MI:Addr
 MJ:FuncData
 MK:Addr
 ML:FuncData
 Ix:Addr
 Iy:FuncData
 KG:Addr
 KH:FuncData
 Qz:Addr
 QA:FuncData
 MM:Addr
 MN:FuncData
 Dq:Addr
 Dr:FuncData
 Be:Addr
 Bf:FuncData
 YW:Addr
 YX:FuncData
 Au:Addr
 Av:FuncData
 QB:Addr
 QC:FuncData
 KI:Addr
 KJ:FuncData
 YY:Addr
 YZ:FuncData
 MO:Addr
 MP:FuncData
 QD:Addr
 QE:FuncData
 MQ:Addr
 MR:FuncData
 KK:Addr
 KL:FuncData
 KM:Addr
 KN:FuncData
 Gs:Addr
 Gu:FuncData
 MS:Addr
 MT:FuncData
 Za:Addr
 Zb:FuncData
 QF:Addr
 QG:FuncData
 MU:Addr
 MV:FuncData
 z4M:Addr
 z4N:FuncData
 QH:Addr
 QI:FuncData
 z4O:Addr
 z4P:FuncData
 Bg:Addr
 Bh:FuncData
 QJ:Addr
 QK:FuncData
 Iz:Addr
 IA:FuncData
 QL:Addr
 QM:FuncData
 IB:Addr
 IC:FuncData
 MW:Addr
 MX:FuncData
 KO:Addr
 KP:FuncData
 KQ:Addr
 KR:FuncData
 Zc:Addr
 Zd:FuncData
 Ze:Addr
 Zf:FuncData
 QN:Addr
 QO:FuncData
 MY:Addr
 MZ:FuncData
 Na:Addr
 Nb:FuncData
 KS:Addr
 KT:FuncData
 Zg:Addr
 Zh:FuncData
 KU:Addr
 KW:FuncData
 QP:Addr
 QQ:FuncData
 Nc:Addr
 Nd:FuncData
 a_law:Addr
 Zi:FuncData
 V9:Tok
 W0:Tok
structure Facts(K:aD)(mg:aE)(A:Adr):Prop where
 n_abs:mg "abs" = none
 Zj:mg "all" = none
 n_any:mg "any" = none
 XS:mg "bool" = none
 U7:mg "enumerate" = none
 Zk:mg "int" = none
 C7:mg "isinstance" = none
 K8:mg "len" = none
 M0:mg "list" = none
 C8:mg "range" = none
 XT:mg "reversed" = none
 z4Q:mg "sorted" = none
 n_sum:mg "sum" = none
 Ed:mg "tuple" = none
 QR:mg "zip" = none
 OF:mg "MOST_BILLS" = some (.int 8 A.V9)
 OG:mg "MOST_KINDS" = some (.int 6 A.W0)
 EZ:Df K mg "is_whole" EQ ["value"] A.Kz A.KA
 Gv:Df K mg "is_row" FY ["value", "length"] A.Qr A.Qs
 X1:Df K mg "noughts" DV ["length"] A.Mq A.Mr
 Cb:Df K mg "unit_row" BP ["length", "one_at"] A.KB A.KC
 Gw:Df K mg "added" IV ["one", "other"] A.YN A.YO
 Ja:Df K mg "taken" IW ["one", "other"] A.YQ A.YR
 M3:Df K mg "scaled" FZ ["row", "often"] A.Qt A.Qu
 Nf:Df K mg "weighed" DW ["row", "weights"] A.Mt A.Mu
 OH:Df K mg "mixed" Op ["rows", "counts", "length"] A.YS A.YT
 G8:Df K mg "head_at" HA ["row"] A.Mv A.Mx
 ID:Df K mg "are_kinds" Da ["value"] A.Ir A.Iu
 Ng:Df K mg "is_bill" DX ["value", "kinds"] A.My A.MA
 Gx:Df K mg "need_kinds" BQ ["kinds"] A.Gq A.Gr
 IE:Df K mg "need_bill" Db ["bill", "kinds"] A.Iv A.Iw
 Ee:Df K mg "hall_by" DY ["kinds", "rows"] A.MB A.MC
 HS:Df K mg "hall_of" HB ["kinds", "bills"] A.ME A.MF
 T3:Df K mg "need_basket_of" T0 ["kinds", "basket"] A.Bc A.Bd
 AG:Df K mg "need_basket" AF ["hall", "basket"] A.Ep A.Er
 QS:Df K mg "nought" Ko ["hall"] A.Qv A.Qw
 OI:Df K mg "apart" Ot ["hall", "one", "other"] A.YU A.YV
 KY:Df K mg "bridge" Dc ["a", "b"] A.Qx A.Qy
 XU:Df K mg "rest" Sd ["a", "part"] A.z4K A.z4L
 Nh:Df K mg "product" HC ["numbers"] A.MG A.MH
 KZ:Df K mg "lowering" ES ["row", "rungs"] A.KD A.KE
 X2:Df K mg "lowered" HD ["row", "rungs"] A.MI A.MJ
 Ni:Df K mg "crossed" HE ["rung", "row"] A.MK A.ML
 IF:Df K mg "turned_up" Dd ["row"] A.Ix A.Iy
 La:Df K mg "with_row" BS ["rungs", "row"] A.KG A.KH
 QT:Df K mg "evened" Kp ["rungs"] A.Qz A.QA
 Bi:Df K mg "climbed" HH ["rows"] A.MM A.MN
 M4:Df K mg "tagged_stair" Q9 ["rows", "tags"] A.Dq A.Dr
 T4:Df K mg "tags_at_nought" N3 ["rungs", "width"] A.Be A.Bf
 Gy:Df K mg "stair" Ov ["hall"] A.YW A.YX
 Aw:Df K mg "stair_with_uses" K7 ["hall"] A.Au A.Av
 Gz:Df K mg "turned" Gd ["rows", "width"] A.QB A.QC
 Lb:Df K mg "is_slant" BV ["rows"] A.KI A.KJ
 GA:Df K mg "rests" IX ["row", "part"] A.YY A.YZ
 Nj:Df K mg "slanted" W9 ["rows", "tags", "whole"] A.MO A.MP
 QU:Df K mg "linked" Kq ["one", "other"] A.QD A.QE
 Nk:Df K mg "chained" DZ ["measured"] A.MQ A.MR
 Lc:Df K mg "measures" L9 ["hall"] A.KK A.KL
 Ld:Df K mg "is_table" BW ["one", "table", "other"] A.KM A.KN
 Cc:Df K mg "need_table" BX ["one", "table", "other"] A.Gs A.Gu
 Nl:Df K mg "carried" HI ["table", "basket", "kinds"] A.MS A.MT
 Zl:Df K mg "sound" IY ["one", "table", "other"] A.Za A.Zb
 QV:Df K mg "pulled" Dg ["one", "table", "other"] A.QF A.QG
 Nm:Df K mg "settled" HJ ["hall", "one", "other"] A.MU A.MV
 z4R:Df K mg "plan" Sg ["hall", "one", "other"] A.z4M A.z4N
 QW:Df K mg "scales" Ge ["hall"] A.QH A.QI
 z4S:Df K mg "tilt" Sh ["way", "scale"] A.z4O A.z4P
 Bj:Df K mg "measured_scale" T1 ["scale", "found"] A.Bg A.Bh
 QX:Df K mg "denial" Kr ["hall", "one", "other"] A.QJ A.QK
 IG:Df K mg "need_like" Di ["one", "other"] A.Iz A.IA
 Lf:Df K mg "joined" Ks ["one", "other"] A.QL A.QM
 D3:Df K mg "_law_cell_at" Dj ["_law_script", "_law_k"] A.IB A.IC
 HU:Df K mg "_law_whole" HK ["_law_found"] A.MW A.MX
 Cd:Df K mg "_law_is_row" EU ["_law_found", "_law_size"] A.KO A.KP
 Lg:Df K mg "_law_number" EV ["_law_cell", "_law_mode"] A.KQ A.KR
 Ef:Df K mg "_law_row" IZ ["_law_script", "_law_at", "_law_size", "_law_mode"] A.Zc A.Zd
 GB:Df K mg "_law_sum" Gg ["_law_size", "_law_rows", "_law_times"] A.Ze A.Zf
 Lh:Df K mg "_law_plus" Gi ["_law_one", "_law_other", "_law_times"] A.QN A.QO
 HV:Df K mg "_law_heavy" HL ["_law_weights", "_law_row_here"] A.MY A.MZ
 Nn:Df K mg "_law_leads" HM ["_law_bills", "_law_one", "_law_other", "_law_uses"] A.Na A.Nb
 Li:Df K mg "_law_denies" EW ["_law_bills", "_law_one", "_law_other", "_law_scale"] A.KS A.KT
 Zm:Df K mg "_law_two" Gj ["_law_script"] A.Zg A.Zh
 Ce:Df K mg "_law_copied" BZ ["_law_rows"] A.KU A.KW
 GD:Df K mg "_law_same" Kt ["_law_hall", "_law_bills", "_law_one", "_law_other"] A.QP A.QQ
 Np:Df K mg "_law_sound" Ec ["_law_other", "_law_bills", "_law_table", "_law_rows"] A.Nc A.Nd
 f_law:Df K mg "law" Ip ["_law_script"] A.a_law A.Zi
section
variable {K:aD}{mg:aE}{P:Program}{w:World}{base:Heap}{A:Adr}
theorem Iq(T:Facts K mg A):FnOk P w K mg base CX0 1 A.Kz A.KA ["value"] (spc K true R9) :=
 T.EZ.d 0 ED Qd (λ_ _ _ _ _ _ hr hu =>
  (m9 (o7 (OU (Ek (T := "int") rfl rfl T.C7 rfl T.Zk (by decide +kernel) (i0 0)) (LC (p_not (Ek (T := "bool") rfl rfl T.C7 rfl T.XS (by decide +kernel) (i0 0))))))))
theorem HP(T:Facts K mg A):FnOk P w K mg base CX0 2 A.Qr A.Qs ["value", "length"] (spc K true Y6) :=
 T.Gv.d 1 JO z0f (λ_ _ _ _ _ _ hr hu =>
  (i8 (s_if (PFW.pt (w_or (U0 (R0 (Ek (T := "list") rfl rfl T.C7 rfl T.M0 (by decide +kernel) (i0 0)) (fun _=>rfl))) (Cf (t_cm (o_ne hu) (p_bu K5 T.K8 (q_n 0 i9)) (i0 1))))) (m9 (o7 p_bl)) v6)
   (m9 (o7 (p_bu (Yi rfl) T.Zj (j3 (p_co ["number"] 1 [] ["value", "length"] (i6 FY).names (E9 (i0 0)) (λ_ _ _ _ _=>(p_ca (Iq T) T.EZ hr (q_n 0 i9)))) i9))))))
theorem Z9(T:Facts K mg A):FnOk P w K mg base CX0 1 A.Mq A.Mr ["length"] (spc K true J5) :=
 T.X1.d 0 Hc RZ (λ_ _ _ _ _ _ hr hu =>
  (m9 (o7 (p_co ["spot"] 1 [] ["length"] (i6 DV).names (B8 rfl T.C8 (i0 0)) (λ_ _ _ _ _=>j9)))))
theorem Dk(T:Facts K mg A):FnOk P w K mg base CX0 1 A.KB A.KC ["length", "one_at"] (spc K true J1) :=
 T.Cb.d 0 EE Qe (λ_ _ _ _ _ _ hr hu =>
  (m9 (o7 (p_co ["spot", "one_at"] 1 [1] ["length", "one_at"] (i6 BP).names (B8 rfl T.C8 (i0 0)) (λ_ _ _ _ _=>(p_if (t_cm (o_eq hu) (i0 0) (i0 1)) j9 j9))))))
theorem Gk(T:Facts K mg A):FnOk P w K mg base CX0 1 A.YN A.YO ["one", "other"] (spc K true V7) :=
 T.Gw.d 0 NL z1P (λ_ _ _ _ _ _ hr hu =>
  (m9 (o7 (V1 (g:=(Tg.many [0,1])) (A6 (N:=["a", "b"]) (nt:=2) (js:=[]) ["one", "other"] (i6 IV).names rfl rfl rfl (by decide +kernel)) rfl (Pf rfl T.QR (i0 0) (i0 1)) (λ_ _ _ _ _=>V0 rfl (B3 (A4 (ndp ["a", "b"]) rfl (Or.inl rfl) (Or.inr rfl)) (B3 (A4 (ndp ["a", "b"]) rfl (Or.inl rfl) (Or.inr rfl)) U9))) (jlt [0,1] 2) (λ_ _ _ _ _=>X6) (λ_ _ _ _ _=>(p_op K4 (i0 0) (i0 1))) (jlt [] 2)))))
theorem Ku(T:Facts K mg A):FnOk P w K mg base CX0 1 A.YQ A.YR ["one", "other"] (spc K true BH) :=
 T.Ja.d 0 NM z1Q (λ_ _ _ _ _ _ hr hu =>
  (m9 (o7 (V1 (g:=(Tg.many [0,1])) (A6 (N:=["a", "b"]) (nt:=2) (js:=[]) ["one", "other"] (i6 IW).names rfl rfl rfl (by decide +kernel)) rfl (Pf rfl T.QR (i0 0) (i0 1)) (λ_ _ _ _ _=>V0 rfl (B3 (A4 (ndp ["a", "b"]) rfl (Or.inl rfl) (Or.inr rfl)) (B3 (A4 (ndp ["a", "b"]) rfl (Or.inl rfl) (Or.inr rfl)) U9))) (jlt [0,1] 2) (λ_ _ _ _ _=>X6) (λ_ _ _ _ _=>(p_op z0S (i0 0) (i0 1))) (jlt [] 2)))))
theorem K1(T:Facts K mg A):FnOk P w K mg base CX0 1 A.Qt A.Qu ["row", "often"] (spc K true D9) :=
 T.M3.d 0 JP z0g (λ_ _ _ _ _ _ hr hu =>
  (m9 (o7 (p_co ["number", "often"] 1 [1] ["row", "often"] (i6 FZ).names (E9 (i0 0)) (λ_ _ _ _ _=>(p_op X4 (i0 1) (i0 0)))))))
theorem Sk(T:Facts K mg A):FnOk P w K mg base CX0 1 A.Mt A.Mu ["row", "weights"] (spc K true DL) :=
 T.Nf.d 0 Hd Sa (λ_ _ _ _ _ _ hr hu =>
  (m9 (o7 (p_bu (c_sum rfl) T.n_sum (j3 (V1 (g:=(Tg.many [0,1])) (A6 (N:=["a", "b"]) (nt:=2) (js:=[]) ["row", "weights"] (i6 DW).names rfl rfl rfl (by decide +kernel)) rfl (Pf rfl T.QR (i0 0) (i0 1)) (λ_ _ _ _ _=>V0 rfl (B3 (A4 (ndp ["a", "b"]) rfl (Or.inl rfl) (Or.inr rfl)) (B3 (A4 (ndp ["a", "b"]) rfl (Or.inl rfl) (Or.inr rfl)) U9))) (jlt [0,1] 2) (λ_ _ _ _ _=>X6) (λ_ _ _ _ _=>(p_op X4 (i0 0) (i0 1))) (jlt [] 2)) i9)))))
theorem Qi(T:Facts K mg A):FnOk P w K mg base CX0 2 A.YS A.YT ["rows", "counts", "length"] (spc K true DM) :=
 T.OH.d 1 NN CZ (λ_ _ _ _ _ _ hr hu =>
  (i8 (asn 3 (p_ca (Z9 T) T.X1 hr (q_n 2 i9)) CZ.nd)
   (i8 (Af (rels:=[]) (g:=(Tg.many [4,5])) PassesOwn.never rfl (Pf rfl T.QR (i0 0) (i0 1)) (V0 rfl (B3 (A4 (i:=4) CZ.nd rfl (Or.inl rfl) (Or.inl rfl)) (B3 (A4 (i:=5) CZ.nd rfl (Or.inl rfl) (Or.inl rfl)) U9))) (m9 (asn 3 (p_ca (Gk T) T.Gw hr (q_n 3 (j3 (p_ca (K1 T) T.M3 hr (q_n 4 (q_n 5 i9))) i9))) CZ.nd)))
   (m9 (o7 (i0 3))))))
theorem J2(T:Facts K mg A):FnOk P w K mg base CX0 1 A.Mv A.Mx ["row"] (spc K true r9) :=
 T.G8.d 0 He ER (λ_ _ _ _ _ _ hr hu =>
  (i8 (Af (rels:=[]) (g:=(Tg.many [1,2])) PassesOwn.never rfl (Jr rfl T.U7 (i0 0)) (V0 rfl (B3 (A4 (i:=1) ER.nd rfl (Or.inl rfl) (Or.inl rfl)) (B3 (A4 (i:=2) ER.nd rfl (Or.inl rfl) (Or.inl rfl)) U9))) (m9 (s_if (t_cm (o_ne hu) (i0 2) j9) (m9 (o7 (i0 1))) v6)))
   (m9 (o7 (p_bu K5 T.K8 (q_n 0 i9))))))
theorem Oy(T:Facts K mg A):FnOk P w K mg base CX0 2 A.Ir A.Iu ["value"] (spc K true Am) :=
 T.ID.d 1 CB Oq (λ_ _ _ _ _ _ hr hu =>
  (m9 (o7 (OU (p_ca (Iq T) T.EZ hr (q_n 0 i9)) (LC (z5k o_le o_le j9 (i0 0) (z0Q rfl T.OG)))))))
theorem Sl(T:Facts K mg A):FnOk P w K mg base CX0 3 A.My A.MA ["value", "kinds"] (spc K true DN) :=
 T.Ng.d 2 Hf Sb (λ_ _ _ _ _ _ hr hu =>
  (m9 (o7 (OU (p_ca (HP T) T.Gv hr (q_n 0 (q_n 1 i9))) (LC (p_bu (Yi rfl) T.Zj (j3 (p_co ["number"] 1 [] ["value", "kinds"] (i6 DX).names (E9 (i0 0)) (λ_ _ _ _ _=>(p_cm o_lt (p_bu c_abs T.n_abs (q_n 0 i9)) (p_op z0T j9 j9)))) i9)))))))
theorem Lo(T:Facts K mg A):FnOk P w K mg base CX0 3 A.Gq A.Gr ["kinds"] (spc K true V8) :=
 T.Gx.d 2 BJ Lm (λ_ _ _ _ _ _ hr hu =>
  (m9 (s_if (U0 (R0 (p_ca (Oy T) T.ID hr (q_n 0 i9)) (λ_=>rfl))) (m9 Dz) v6)))
theorem Oz(T:Facts K mg A):FnOk P w K mg base CX0 4 A.Iv A.Iw ["bill", "kinds"] (spc K true P1) :=
 T.IE.d 3 CC Os (λ_ _ _ _ _ _ hr hu =>
  (m9 (s_if (U0 (R0 (p_ca (Sl T) T.Ng hr (q_n 0 (q_n 1 i9))) (λ_=>rfl))) (m9 Dz) v6)))
theorem EX(T:Facts K mg A):FnOk P w K mg base CX0 1 A.MB A.MC ["kinds", "rows"] (spc K true W4) :=
 T.Ee.d 0 Hg Sc (λ_ _ _ _ _ _ hr hu =>
  (m9 (o7 (@AK _ _ _ _ _ (@j3 _ _ _ _ _ (i0 0) (@j3 _ _ _ _ _ (p_ty OV T.Ed (j3 (p_co ["row"] 1 [] ["kinds", "rows"] (i6 DY).names (E9 (i0 1)) (λ_ _ _ _ _=>(p_ty OV T.Ed (q_n 0 i9)))) i9)) i9 rfl) rfl)))))
theorem Kv(T:Facts K mg A):FnOk P w K mg base CX0 5 A.ME A.MF ["kinds", "bills"] (spc K true W5) :=
 T.HS.d 4 Hi Km (λ_ _ _ _ _ _ hr hu =>
  (i8 (Bx (p_ca (Lo T) T.Gx hr (q_n 0 i9)))
   (i8 (s_if (PFW.pt (w_or (U0 (R0 (Ek (T := "list") rfl rfl T.C7 rfl T.M0 (by decide +kernel) (i0 1)) (λ_=>rfl))) (Cf (t_cm o_gt (p_bu K5 T.K8 (q_n 1 i9)) (z0Q rfl T.OF))))) (m9 Dz) v6)
   (i8 (Af (rels:=[]) (g:=(Tg.one 2)) PassesOwn.never rfl (E9 (i0 1)) (R1 Km.nd rfl (Or.inl rfl) (Or.inl rfl)) (m9 (Bx (p_ca (Oz T) T.IE hr (q_n 2 (q_n 0 i9))))))
   (m9 (o7 (p_ca (EX T) T.Ee hr (q_n 0 (q_n 1 i9)))))))))
theorem Aq(T:Facts K mg A):FnOk P w K mg base CX0 3 A.Bc A.Bd ["kinds", "basket"] (spc K true C5) :=
 T.T3.d 2 M9 Gb (λ_ _ _ _ _ _ hr hu =>
  (m9 (s_if (U0 (R0 (p_ca (HP T) T.Gv hr (q_n 1 (q_n 0 i9))) (λ_=>rfl))) (m9 Dz) v6)))
theorem Dl(T:Facts K mg A):FnOk P w K mg base CX0 4 A.Ep A.Er ["hall", "basket"] (spc K true N5) :=
 T.AG.d 3 AD Kn (λ_ _ _ _ _ _ hr hu =>
  (m9 (Bx (p_ca (Aq T) T.T3 hr (j3 (p_i (i0 0) j9) (q_n 1 i9))))))
theorem z0m(T:Facts K mg A):FnOk P w K mg base CX0 2 A.Qv A.Qw ["hall"] (spc K true FH) :=
 T.QS.d 1 JQ z0h (λ_ _ _ _ _ _ hr hu =>
  (m9 (o7 (p_ca (Z9 T) T.X1 hr (j3 (p_i (i0 0) j9) i9)))))
theorem Qj(T:Facts K mg A):FnOk P w K mg base CX0 5 A.YU A.YV ["hall", "one", "other"] (spc K true DO) :=
 T.OI.d 4 NO z1R (λ_ _ _ _ _ _ hr hu =>
  (i8 (Bx (p_ca (Dl T) T.AG hr (q_n 0 (q_n 1 i9))))
   (i8 (Bx (p_ca (Dl T) T.AG hr (q_n 0 (q_n 2 i9))))
   (m9 (o7 (p_ca (Ku T) T.Ja hr (q_n 2 (q_n 1 i9))))))))
theorem Mn(T:Facts K mg A):FnOk P w K mg base CX0 1 A.Qx A.Qy ["a", "b"] (spc K true CD) :=
 T.KY.d 0 JR P2 (λ_ _ _ _ _ _ hr hu =>
  (i8 (D8 (rels:=[]) (u5 (i:=2) (Ei (q_n 0 (j3 j9 (j3 j9 i9)))) P2.nd rfl (Or.inr rfl) rfl (Or.inl rfl)))
   (i8 (D8 (rels:=[]) (u5 (i:=3) (Ei (q_n 1 (j3 j9 (j3 j9 i9)))) P2.nd rfl (Or.inr rfl) rfl (Or.inl rfl)))
   (i8 (NE PassesOwn.never (t_cm (o_ne hu) (p_i (i0 3) j9) j9) (i8 (D8 (rels:=[]) (u5 (i:=4) (p_op Bt (p_i (i0 2) j9) (p_i (i0 3) j9)) P2.nd rfl (Or.inr rfl) rfl (Or.inl rfl)))
   (i8 (D8 (rels:=[]) (a_co 5 P2.nd ["k", "upper", "often", "lower"] 1 [2,4,3] ["a", "b", "upper", "lower", "often", "left"] (i6 Dc).names (B8 rfl T.C8 j9) (λ_ _ _ _ _=>(p_op z0S (p_i (i0 1) (i0 0)) (p_op X4 (i0 2) (p_i (i0 3) (i0 0)))))))
   (i8 (D8 (rels:=[]) (u5 (i:=2) (i0 3) P2.nd rfl (Or.inr rfl) rfl (Or.inl rfl)))
   (m9 (D8 (rels:=[]) (u5 (i:=3) (i0 5) P2.nd rfl (Or.inr rfl) rfl (Or.inl rfl))))))))
   (i8 (s_if (t_cm o_lt (p_i (i0 2) j9) j9) (m9 (D8 (rels:=[]) (u5 (i:=2) (p_co ["number"] 1 [] ["a", "b", "upper", "lower", "often", "left"] (i6 Dc).names (E9 (i0 2)) (λ_ _ _ _ _=>(LD (i0 0)))) P2.nd rfl (Or.inr rfl) rfl (Or.inl rfl)))) v6)
   (m9 (o7 (p_ty OV T.Ed (q_n 2 i9)))))))))
theorem YK(T:Facts K mg A):FnOk P w K mg base CX0 1 A.z4K A.z4L ["a", "part"] (spc K true CG) :=
 T.XU.d 0 NP z5Q (λ_ _ _ _ _ _ hr hu =>
  (i8 (s_if (t_cm (o_eq hu) (i0 1) j9) (m9 (o7 (i0 0))) v6)
   (m9 (o7 (p_op O6 (i0 0) (i0 1))))))
theorem Sm(T:Facts K mg A):FnOk P w K mg base CX0 1 A.MG A.MH ["numbers"] (spc K true DP) :=
 T.Nh.d 0 Hj BR (λ_ _ _ _ _ _ hr hu =>
  (i8 (asn 1 j9 BR.nd)
   (i8 (Af (rels:=[]) (g:=(Tg.one 2)) PassesOwn.never rfl (E9 (i0 0)) (R1 BR.nd rfl (Or.inl rfl) (Or.inl rfl)) (m9 (asn 1 (p_op X4 (i0 1) (i0 2)) BR.nd)))
   (m9 (o7 (i0 1))))))
theorem Qk(T:Facts K mg A):FnOk P w K mg base CX0 2 A.KD A.KE ["row", "rungs"] (spc K true BK) :=
 T.KZ.d 1 EG L7 (λ_ _ _ _ _ _ hr hu =>
  (i8 (asn 2 (p_ty AL T.M0 (q_n 0 i9)) L7.nd)
   (i8 (Yl (u5 (i:=3) (Ei i9) L7.nd rfl (Or.inl rfl) rfl (Or.inl rfl)))
   (i8 (Af (rels:=[]) (g:=(Tg.one 4)) PassesOwn.never rfl (E9 (i0 1)) (R1 L7.nd rfl (Or.inl rfl) (Or.inl rfl)) (i8 (asn 5 (p_ca (J2 T) T.G8 hr (q_n 4 i9)) L7.nd)
   (i8 (asn 6 (p_op Bt (p_i (i0 2) (i0 5)) (p_i (i0 4) (i0 5))) L7.nd)
   (i8 (s_if (t_cm (o_ne hu) (i0 6) j9) (m9 (asn 2 (p_ca (Ku T) T.Ja hr (q_n 2 (j3 (p_ca (K1 T) T.M3 hr (q_n 4 (q_n 6 i9))) i9))) L7.nd)) v6)
   (m9 (s_wr1 (i:=3) mw_app F.slot_list_append F.type_list_append rfl (Or.inl rfl) (i0 6)))))))
   (m9 (o7 (AK (q_n 3 (q_n 2 i9)))))))))
theorem Aa(T:Facts K mg A):FnOk P w K mg base CX0 3 A.MI A.MJ ["row", "rungs"] (spc K true C0) :=
 T.X2.d 2 Hk Se (λ_ _ _ _ _ _ hr hu =>
  (m9 (o7 (p_i (p_ca (Qk T) T.KZ hr (q_n 0 (q_n 1 i9))) j9))))
theorem Sn(T:Facts K mg A):FnOk P w K mg base CX0 2 A.MK A.ML ["rung", "row"] (spc K true W6) :=
 T.Ni.d 1 Hl Z6 (λ_ _ _ _ _ _ hr hu =>
  (i8 (asn 2 (p_ca (J2 T) T.G8 hr (q_n 0 i9)) Z6.nd)
   (i8 (asn 3 (p_ca (Mn T) T.KY hr (j3 (p_i (i0 0) (i0 2)) (j3 (p_i (i0 1) (i0 2)) i9))) Z6.nd)
   (i8 (asn 4 (p_ca (Gk T) T.Gw hr (j3 (p_ca (K1 T) T.M3 hr (q_n 0 (j3 (p_i (i0 3) j9) i9))) (j3 (p_ca (K1 T) T.M3 hr (q_n 1 (j3 (p_i (i0 3) j9) i9))) i9))) Z6.nd)
   (i8 (asn 5 (p_ca (Ku T) T.Ja hr (j3 (p_ca (K1 T) T.M3 hr (q_n 1 (j3 (p_op Bt (p_i (i0 0) (i0 2)) (p_i (i0 3) j9)) i9))) (j3 (p_ca (K1 T) T.M3 hr (q_n 0 (j3 (p_op Bt (p_i (i0 1) (i0 2)) (p_i (i0 3) j9)) i9))) i9))) Z6.nd)
   (m9 (o7 (AK (q_n 4 (q_n 5 i9))))))))))
theorem OA(T:Facts K mg A):FnOk P w K mg base CX0 2 A.Ix A.Iy ["row"] (spc K true F7) :=
 T.IF.d 1 CH Ou (λ_ _ _ _ _ _ hr hu =>
  (m9 (o7 (p_if (t_cm o_lt (p_i (i0 0) (p_ca (J2 T) T.G8 hr (q_n 0 i9))) j9) (p_ca (K1 T) T.M3 hr (q_n 0 (j3 (LD j9) i9))) (p_ty AL T.M0 (q_n 0 i9))))))
theorem Ql(T:Facts K mg A):FnOk P w K mg base CX0 4 A.KG A.KH ["rungs", "row"] (spc K false S3) :=
 T.La.d 3 Y7 P3 (λ_ _ _ _ _ _ hr hu =>
  (i8 (Yl (u5 (i:=2) (p_ty AL T.M0 (q_n 0 i9)) P3.nd rfl (Or.inl rfl) rfl (Or.inl rfl)))
   (i8 (Jq (u5 (i:=3) (p_ca (Aa T) T.X2 hr (q_n 1 (q_n 2 i9))) P3.nd rfl (Or.inr rfl) rfl (Or.inl rfl)))
   (i8 (NE PassesOwn.never (t_cm o_lt (p_ca (J2 T) T.G8 hr (q_n 3 i9)) (p_bu K5 T.K8 (q_n 3 i9))) (i8 (Jq (OX (i:=4) (g:=(Tg.many [0,1])) P3.nd rfl rfl rfl (A6 (N:=["place", "rung", "left"]) (nt:=2) (js:=[3]) ["rungs", "row", "found", "left", "places", "pair"] (i6 BS).names rfl rfl rfl (by decide +kernel)) rfl (Jr rfl T.U7 (i0 2)) (λ_ _ _ _ _=>V0 rfl (B3 (A4 (ndp ["place", "rung", "left"]) rfl (Or.inl rfl) (Or.inr rfl)) (B3 (A4 (ndp ["place", "rung", "left"]) rfl (Or.inl rfl) (Or.inr rfl)) U9))) (jlt [0,1] 2) (λ_ _ _ _ _=>(Ri (t_cm (o_eq hu) (p_ca (J2 T) T.G8 hr (q_n 1 i9)) (p_ca (J2 T) T.G8 hr (q_n 2 i9))))) (λ_ _ _ _ _=>(i0 0)) (jlt [3] 6)))
   (i8 (s_if (t_cm (o_eq hu) (p_bu K5 T.K8 (q_n 4 i9)) j9) (m9 (o7 (z5u (J2 T) (hr.mono (by decide)) rfl T.z4Q T.G8.mg rfl T.G8.bd (p_op K4 (i0 2) (@Ei _ _ _ _ (@j3 _ _ _ _ _ (p_ca (OA T) T.IF hr (q_n 3 i9)) i9 rfl)))))) v6)
   (i8 (Jq (u5 (i:=5) (p_ca (Sn T) T.Ni hr (j3 (p_i (i0 2) (p_i (i0 4) j9)) (q_n 3 i9))) P3.nd rfl (Or.inl rfl) rfl (Or.inl rfl)))
   (i8 (z19 (i:=2) rfl (Or.inl rfl) (p_i (i0 4) j9) (p_i (i0 5) j9))
   (m9 (Jq (u5 (i:=3) (p_ca (Aa T) T.X2 hr (j3 (p_i (i0 5) j9) (q_n 2 i9))) P3.nd rfl (Or.inr rfl) rfl (Or.inl rfl)))))))))
   (m9 (o7 (i0 2)))))))
theorem z0n(T:Facts K mg A):FnOk P w K mg base CX0 4 A.Qz A.QA ["rungs"] (spc K true CI) :=
 T.QT.d 3 JS HG (λ_ _ _ _ _ _ hr hu =>
  (i8 (Yl (u5 (i:=1) (Ei i9) HG.nd rfl (Or.inl rfl) rfl (Or.inl rfl)))
   (i8 (Af (rels:=[]) (g:=(Tg.one 2)) PassesOwn.never rfl (i_rev rfl T.XT (i0 0)) (R1 HG.nd rfl (Or.inl rfl) (Or.inl rfl)) (m9 (s_insA (i:=1) rfl (Or.inl rfl) (p_ca (Aa T) T.X2 hr (q_n 2 (q_n 1 i9))))))
   (m9 (o7 (i0 1))))))
theorem Ca(T:Facts K mg A):FnOk P w K mg base CX0 5 A.MM A.MN ["rows"] (spc K true J7) :=
 T.Bi.d 4 Hm BU (λ_ _ _ _ _ _ hr hu =>
  (i8 (asn 1 (Ei i9) BU.nd)
   (i8 (Af (rels:=[]) (g:=(Tg.one 2)) PassesOwn.never rfl (E9 (i0 0)) (R1 BU.nd rfl (Or.inl rfl) (Or.inl rfl)) (m9 (asn 1 (p_ca (z0n T) T.QT hr (j3 (p_ca (Ql T) T.La hr (q_n 1 (q_n 2 i9))) i9)) BU.nd)))
   (m9 (o7 (i0 1))))))
theorem N9(T:Facts K mg A):FnOk P w K mg base CX0 6 A.Dq A.Dr ["rows", "tags"] (spc K true A3) :=
 T.M4.d 5 Q4 IK (λ_ _ _ _ _ _ hr hu =>
  (m9 (o7 (p_ca (Ca T) T.Bi hr (j3 (V1 (g:=(Tg.many [0,1])) (A6 (N:=["row", "tag"]) (nt:=2) (js:=[]) ["rows", "tags"] (i6 Q9).names rfl rfl rfl (by decide +kernel)) rfl (Pf rfl T.QR (i0 0) (i0 1)) (λ_ _ _ _ _=>V0 rfl (B3 (A4 (ndp ["row", "tag"]) rfl (Or.inl rfl) (Or.inr rfl)) (B3 (A4 (ndp ["row", "tag"]) rfl (Or.inl rfl) (Or.inr rfl)) U9))) (jlt [0,1] 2) (λ_ _ _ _ _=>X6) (λ_ _ _ _ _=>(p_op K4 (p_ty AL T.M0 (q_n 0 i9)) (p_ty AL T.M0 (q_n 1 i9)))) (jlt [] 2)) i9)))))
theorem Ar(T:Facts K mg A):FnOk P w K mg base CX0 2 A.Be A.Bf ["rungs", "width"] (spc K true A9) :=
 T.T4.d 1 S4 Gc (λ_ _ _ _ _ _ hr hu =>
  (m9 (o7 (V1 (g:=(Tg.one 0)) (A6 (N:=["rung", "width"]) (nt:=1) (js:=[1]) ["rungs", "width"] (i6 N3).names rfl rfl rfl (by decide +kernel)) rfl (E9 (i0 0)) (λ_ _ _ _ _=>R1 (ndp ["rung", "width"]) rfl (Or.inl rfl) (Or.inr rfl)) (show 0<1 by decide) (λ_ _ _ _ _=>(Ri (t_cm o_ge (p_ca (J2 T) T.G8 hr (q_n 0 i9)) (i0 1)))) (λ_ _ _ _ _=>(T7 (i0 0) (Az (i0 1)) Ay)) (jlt [1] 2)))))
theorem Gm(T:Facts K mg A):FnOk P w K mg base CX0 6 A.YW A.YX ["hall"] (spc K true N0) :=
 T.Gy.d 5 NQ z1S (λ_ _ _ _ _ _ hr hu =>
  (m9 (o7 (p_ca (Ca T) T.Bi hr (j3 (p_i (i0 0) j9) i9)))))
theorem EY(T:Facts K mg A):FnOk P w K mg base CX0 7 A.Au A.Av ["hall"] (spc K true A0) :=
 T.Aw.d 6 Q5 Z7 (λ_ _ _ _ _ _ hr hu =>
  (i8 (D8 (rels:=[]) (u5 (i:=1) (p_bu K5 T.K8 (j3 (p_i (i0 0) j9) i9)) Z7.nd rfl (Or.inr rfl) rfl (Or.inl rfl)))
   (m9 (o7 (p_ca (N9 T) T.M4 hr (j3 (p_i (i0 0) j9) (j3 (p_co ["place", "many"] 1 [1] ["hall", "many"] (i6 K7).names (B8 rfl T.C8 (i0 1)) (λ_ _ _ _ _=>(p_ca (Dk T) T.Cb hr (q_n 1 (q_n 0 i9))))) i9)))))))
theorem HQ(T:Facts K mg A):FnOk P w K mg base CX0 1 A.QB A.QC ["rows", "width"] (spc K true U6) :=
 T.Gz.d 0 JT z0i (λ_ _ _ _ _ _ hr hu =>
  (m9 (o7 (V1 (g:=(Tg.one 0)) (A6 (N:=["spot", "rows"]) (nt:=1) (js:=[0]) ["rows", "width"] (i6 Gd).names rfl rfl rfl (by decide +kernel)) rfl (B8 rfl T.C8 (i0 1)) (λ_ _ _ _ _=>R1 (ndp ["spot", "rows"]) rfl (Or.inr rfl) (Or.inl rfl)) (show 0<1 by decide) (λ_ _ _ _ _=>X6) (λ_ _ _ _ _=>(V1 (g:=(Tg.one 0)) (by first|exact A6 (N:=["row", "spot"]) (nt:=1) (js:=[0]) ["spot", "rows"] [(".0",.local),("spot",.cell),("rows",.cell)] rfl rfl rfl (by decide +kernel)|exact A6 (N:=["row", "spot"]) (nt:=1) (js:=[0]) ["spot", "rows"] [(".0",.local),("rows",.cell),("spot",.cell)] rfl rfl rfl (by decide +kernel)) rfl (E9 (i0 1)) (λ_ _ _ _ _=>R1 (ndp ["row", "spot"]) rfl (Or.inl rfl) (Or.inr rfl)) (show 0<1 by decide) (λ_ _ _ _ _=>X6) (λ_ _ _ _ _=>(p_i (i0 0) (i0 1))) (jlt [0] 2))) (jlt [0] 2)))))
theorem Qm(T:Facts K mg A):FnOk P w K mg base CX0 2 A.KI A.KJ ["rows"] (spc K true O1) :=
 T.Lb.d 1 BL De (λ_ _ _ _ _ _ hr hu =>
  (i8 (Af (rels:=[]) (g:=(Tg.many [1,2])) PassesOwn.never rfl (Jr rfl T.U7 (i0 0)) (V0 rfl (B3 (A4 (i:=1) De.nd rfl (Or.inl rfl) (Or.inl rfl)) (B3 (A4 (i:=2) De.nd rfl (Or.inl rfl) (Or.inl rfl)) U9))) (m9 (s_if (PFW.pt (w_or (t_cm (o_ne hu) (p_ca (J2 T) T.G8 hr (q_n 2 i9)) (i0 1)) (Cf (R0 (p_bu (c_any rfl) T.n_any (j3 (p_co ["number"] 1 [] ["rows", "place", "row"] (i6 BV).names (E9 (T7 (i0 2) (Az (p_op K4 (i0 1) j9)) Ay)) (fun _ _ _ _ _=>(p_cm (o_ne hu) (i0 0) j9))) i9)) (fun _=>rfl))))) (m9 (o7 p_bl)) v6)))
   (m9 (o7 p_bl))))
theorem Gn(T:Facts K mg A):FnOk P w K mg base CX0 2 A.YY A.YZ ["row", "part"] (spc K true T9) :=
 T.GA.d 1 NR z1T (λ_ _ _ _ _ _ hr hu =>
  (m9 (o7 (p_co ["number", "part"] 1 [1] ["row", "part"] (i6 IX).names (E9 (i0 0)) (λ_ _ _ _ _=>(p_ca (YK T) T.XU hr (q_n 0 (q_n 1 i9))))))))
theorem So(T:Facts K mg A):FnOk P w K mg base CX0 7 A.MO A.MP ["rows", "tags", "whole"] (spc K false DQ) :=
 T.Nj.d 6 AV L8 (λ_ _ _ _ _ _ hr hu =>
  (i8 (D8 (rels:=[]) (u5 (i:=3) (p_bu K5 T.K8 (q_n 0 i9)) L8.nd rfl (Or.inr rfl) rfl (Or.inl rfl)))
   (i8 (D8 (rels:=[]) (u5 (i:=4) (i0 0) L8.nd rfl (Or.inr rfl) rfl (Or.inl rfl)))
   (i8 (asn 5 (i0 1) L8.nd)
   (i8 (NE PassesOwn.never (U0 (R0 (p_ca (Qm T) T.Lb hr (q_n 4 i9)) (λ_=>rfl))) (i8 (asn 6 (p_ca (HQ T) T.Gz hr (j3 (p_ca (Ca T) T.Bi hr (j3 (p_ca (HQ T) T.Gz hr (q_n 4 (q_n 3 i9))) i9)) (q_n 3 i9))) L8.nd)
   (i8 (asn 7 (p_ca (N9 T) T.M4 hr (q_n 6 (q_n 5 i9))) L8.nd)
   (i8 (D8 (rels:=[]) (u5 (i:=4) (p_co ["row", "many"] 1 [3] ["rows", "tags", "whole", "many", "square", "weights", "other", "both"] (i6 W9).names (E9 (i0 7)) (λ_ _ _ _ _=>(T7 (i0 0) Ay (Az (i0 1))))) L8.nd rfl (Or.inr rfl) rfl (Or.inl rfl)))
   (m9 (D8 (rels:=[]) (a_co 5 L8.nd ["row", "many", "whole"] 1 [3,2] ["rows", "tags", "whole", "many", "square", "weights", "other", "both"] (i6 W9).names (E9 (i0 7)) (λ_ _ _ _ _=>(p_ca (Gn T) T.GA hr (j3 (T7 (i0 0) (Az (i0 1)) Ay) (q_n 2 i9)))))))))))
   (m9 (o7 (V1 (g:=(Tg.many [0,1])) (A6 (N:=["place", "row", "square"]) (nt:=2) (js:=[4]) ["rows", "tags", "whole", "many", "square", "weights", "other", "both"] (i6 W9).names rfl rfl rfl (by decide +kernel)) rfl (Jr rfl T.U7 (i0 5)) (λ_ _ _ _ _=>V0 rfl (B3 (A4 (ndp ["place", "row", "square"]) rfl (Or.inl rfl) (Or.inr rfl)) (B3 (A4 (ndp ["place", "row", "square"]) rfl (Or.inl rfl) (Or.inr rfl)) U9))) (jlt [0,1] 2) (λ_ _ _ _ _=>X6) (λ_ _ _ _ _=>(AK (q_n 1 (j3 (p_i (p_i (i0 2) (i0 0)) (i0 0)) i9)))) (jlt [4] 8)))))))))
theorem z0o(T:Facts K mg A):FnOk P w K mg base CX0 3 A.QD A.QE ["one", "other"] (spc K true Y8) :=
 T.QU.d 2 CJ X0 (λ_ _ _ _ _ _ hr hu =>
  (i8 (asn 2 (p_ca (Mn T) T.KY hr (j3 (p_i (i0 0) j9) (j3 (p_i (i0 1) j9) i9))) X0.nd)
   (i8 (asn 3 (p_i (i0 2) j9) X0.nd)
   (i8 (asn 4 (p_op X4 (p_op Bt (p_i (i0 0) j9) (i0 3)) (p_i (i0 1) j9)) X0.nd)
   (i8 (asn 5 (p_ca (Gk T) T.Gw hr (j3 (p_i (i0 0) j9) (j3 (p_i (i0 1) j9) i9))) X0.nd)
   (i8 (asn 6 (p_ca (Gk T) T.Gw hr (j3 (p_ca (K1 T) T.M3 hr (j3 (p_i (i0 0) j9) (j3 (p_op X4 (LD (p_i (i0 2) j9)) (p_op Bt (p_i (i0 1) j9) (i0 3))) i9))) (j3 (p_ca (K1 T) T.M3 hr (j3 (p_i (i0 1) j9) (j3 (p_op X4 (p_i (i0 2) j9) (p_op Bt (p_i (i0 0) j9) (i0 3))) i9))) i9))) X0.nd)
   (m9 (o7 (@AK _ _ _ _ _ (@j3 _ _ _ _ _ (@AK _ _ _ _ _ (@j3 _ _ _ _ _ (p_ca (Gn T) T.GA hr (q_n 5 (q_n 3 i9))) (@j3 _ _ _ _ _ (i0 3) i9 rfl) rfl)) (@j3 _ _ _ _ _ (@AK _ _ _ _ _ (@j3 _ _ _ _ _ (p_ca (Gn T) T.GA hr (q_n 6 (q_n 4 i9))) (@j3 _ _ _ _ _ (i0 4) i9 rfl) rfl)) i9 rfl) rfl))))))))))
theorem Sr(T:Facts K mg A):FnOk P w K mg base CX0 4 A.MQ A.MR ["measured"] (spc K true W7) :=
 T.Nk.d 3 AW Z8 (λ_ _ _ _ _ _ hr hu =>
  (i8 (Yl (u5 (i:=1) (p_ty AL T.M0 (q_n 0 i9)) Z8.nd rfl (Or.inl rfl) rfl (Or.inl rfl)))
   (i8 (z1a (g:=(Tg.one 2)) PassesOwn.never rfl (ZJ rfl T.C8 (p_bu K5 T.K8 (q_n 1 i9))) (R1 Z8.nd rfl (Or.inl rfl) (Or.inl rfl)) (m9 (z1a (g:=(Tg.one 3)) PassesOwn.never rfl (ZK rfl T.C8 (p_op K4 (i0 2) j9) (p_bu K5 T.K8 (q_n 1 i9))) (R1 Z8.nd rfl (Or.inl rfl) (Or.inl rfl)) (i8 (Jq (u5 (i:=4) (p_ca (z0o T) T.QU hr (j3 (p_i (i0 1) (i0 2)) (j3 (p_i (i0 1) (i0 3)) i9))) Z8.nd rfl (Or.inl rfl) rfl (Or.inl rfl)))
   (i8 (z19 (i:=1) rfl (Or.inl rfl) (i0 2) (p_i (i0 4) j9))
   (m9 (z19 (i:=1) rfl (Or.inl rfl) (i0 3) (p_i (i0 4) j9))))))))
   (m9 (o7 (V1 (g:=(Tg.many [0,1])) (A6 (N:=["weights", "part"]) (nt:=2) (js:=[]) ["measured", "found", "first", "second", "pair"] (i6 DZ).names rfl rfl rfl (by decide +kernel)) rfl (E9 (i0 1)) (λ_ _ _ _ _=>V0 rfl (B3 (A4 (ndp ["weights", "part"]) rfl (Or.inl rfl) (Or.inr rfl)) (B3 (A4 (ndp ["weights", "part"]) rfl (Or.inl rfl) (Or.inr rfl)) U9))) (jlt [0,1] 2) (λ_ _ _ _ _=>X6) (λ_ _ _ _ _=>(@AK _ _ _ _ _ (@j3 _ _ _ _ _ (p_ca (Gn T) T.GA hr (q_n 0 (q_n 1 i9))) (@j3 _ _ _ _ _ (i0 1) i9 rfl) rfl))) (jlt [] 5)))))))
theorem Qn(T:Facts K mg A):FnOk P w K mg base CX0 8 A.KK A.KL ["hall"] (spc K false L6) :=
 T.Lc.d 7 Y9 G9 (λ_ _ _ _ _ _ hr hu =>
  (i8 (D8 (rels:=[]) (u5 (i:=1) (p_i (i0 0) j9) G9.nd rfl (Or.inr rfl) rfl (Or.inl rfl)))
   (i8 (asn 2 (p_ca (Gm T) T.Gy hr (q_n 0 i9)) G9.nd)
   (i8 (D8 (rels:=[]) (u5 (i:=3) (p_bu K5 T.K8 (q_n 2 i9)) G9.nd rfl (Or.inr rfl) rfl (Or.inl rfl)))
   (i8 (asn 4 (p_ca (N9 T) T.M4 hr (j3 (p_ca (HQ T) T.Gz hr (q_n 2 (q_n 1 i9))) (j3 (p_co ["spot", "kinds"] 1 [1] ["hall", "kinds", "rungs", "many", "both", "square", "whole", "bound"] (i6 L9).names (B8 rfl T.C8 (i0 1)) (λ_ _ _ _ _=>(p_ca (Dk T) T.Cb hr (q_n 1 (q_n 0 i9))))) i9))) G9.nd)
   (i8 (D8 (rels:=[]) (a_co 5 G9.nd ["row", "many"] 1 [3] ["hall", "kinds", "rungs", "many", "both", "square", "whole", "bound"] (i6 L9).names (E9 (T7 (i0 4) Ay (Az (i0 3)))) (λ_ _ _ _ _=>(T7 (i0 0) Ay (Az (i0 1))))))
   (i8 (asn 6 (p_ca (Sm T) T.Nh hr (j3 (V1 (g:=(Tg.many [0,1])) (A6 (N:=["place", "row"]) (nt:=2) (js:=[]) ["hall", "kinds", "rungs", "many", "both", "square", "whole", "bound"] (i6 L9).names rfl rfl rfl (by decide +kernel)) rfl (Jr rfl T.U7 (i0 5)) (λ_ _ _ _ _=>V0 rfl (B3 (A4 (ndp ["place", "row"]) rfl (Or.inl rfl) (Or.inr rfl)) (B3 (A4 (ndp ["place", "row"]) rfl (Or.inl rfl) (Or.inr rfl)) U9))) (jlt [0,1] 2) (λ_ _ _ _ _=>X6) (λ_ _ _ _ _=>(p_i (i0 1) (i0 0))) (jlt [] 8)) i9)) G9.nd)
   (i8 (asn 7 (p_ca (So T) T.Nj hr (q_n 5 (j3 (p_co ["row", "many"] 1 [3] ["hall", "kinds", "rungs", "many", "both", "square", "whole", "bound"] (i6 L9).names (E9 (T7 (i0 4) Ay (Az (i0 3)))) (λ_ _ _ _ _=>(T7 (i0 0) (Az (i0 1)) Ay))) (q_n 6 i9)))) G9.nd)
   (m9 (o7 (p_op K4 (p_ca (Sr T) T.Nk hr (q_n 7 i9)) (p_co ["weights"] 1 [] ["hall", "kinds", "rungs", "many", "both", "square", "whole", "bound"] (i6 L9).names (E9 (p_ca (Ar T) T.T4 hr (q_n 4 (q_n 3 i9)))) (λ_ _ _ _ _=>(AK (q_n 0 (j3 j9 i9))))))))))))))))
theorem Qo(T:Facts K mg A):FnOk P w K mg base CX0 3 A.KM A.KN ["one", "table", "other"] (spc K true BM) :=
 T.Ld.d 2 EH Qf (λ_ _ _ _ _ _ hr hu =>
  (i8 (s_if (PFW.pt (w_or (U0 (R0 (Ek (T := "list") rfl rfl T.C7 rfl T.M0 (by decide +kernel) (i0 1)) (fun _=>rfl))) (Cf (t_cm (o_ne hu) (p_bu K5 T.K8 (q_n 1 i9)) (p_i (i0 0) j9))))) (m9 (o7 p_bl)) v6)
   (m9 (o7 (p_bu (Yi rfl) T.Zj (j3 (p_co ["row", "other"] 1 [2] ["one", "table", "other"] (i6 BW).names (E9 (i0 1)) (λ_ _ _ _ _=>(p_ca (HP T) T.Gv hr (q_n 0 (j3 (p_i (i0 1) j9) i9))))) i9))))))
theorem Eo(T:Facts K mg A):FnOk P w K mg base CX0 4 A.Gs A.Gu ["one", "table", "other"] (spc K true Q6) :=
 T.Cc.d 3 BN Ln (λ_ _ _ _ _ _ hr hu =>
  (m9 (s_if (U0 (R0 (p_ca (Qo T) T.Ld hr (q_n 0 (q_n 1 (q_n 2 i9)))) (λ_=>rfl))) (m9 Dz) v6)))
theorem Ss(T:Facts K mg A):FnOk P w K mg base CX0 4 A.MS A.MT ["table", "basket", "kinds"] (spc K true AX) :=
 T.Nl.d 3 Hn Sf (λ_ _ _ _ _ _ hr hu =>
  (i8 (Bx (p_ca (Aq T) T.T3 hr (j3 (p_bu K5 T.K8 (q_n 0 i9)) (q_n 1 i9))))
   (m9 (o7 (p_ca (Qi T) T.OH hr (q_n 0 (q_n 1 (q_n 2 i9))))))))
theorem z1V(T:Facts K mg A):FnOk P w K mg base CX0 7 A.Za A.Zb ["one", "table", "other"] (spc K true IR) :=
 T.Zl.d 6 NS Qg (λ_ _ _ _ _ _ hr hu =>
  (i8 (Bx (p_ca (Eo T) T.Cc hr (q_n 0 (q_n 1 (q_n 2 i9)))))
   (i8 (D8 (rels:=[]) (u5 (i:=3) (p_ca (Gm T) T.Gy hr (q_n 2 i9)) Qg.nd rfl (Or.inr rfl) rfl (Or.inl rfl)))
   (m9 (o7 (p_bu (Yi rfl) T.Zj (j3 (p_co ["bill", "table", "other", "rungs"] 1 [1,2,3] ["one", "table", "other", "rungs"] (i6 IY).names (E9 (p_i (i0 0) j9)) (λ_ _ _ _ _=>(p_cm (o_eq hu) (p_ca (Aa T) T.X2 hr (j3 (p_ca (Qi T) T.OH hr (q_n 1 (q_n 0 (j3 (p_i (i0 2) j9) i9)))) (q_n 3 i9))) (p_ca (Z9 T) T.X1 hr (j3 (p_i (i0 2) j9) i9))))) i9)))))))
theorem z0p(T:Facts K mg A):FnOk P w K mg base CX0 7 A.QF A.QG ["one", "table", "other"] (spc K true CK) :=
 T.QV.d 6 JU Ea (λ_ _ _ _ _ _ hr hu =>
  (i8 (Bx (p_ca (Eo T) T.Cc hr (q_n 0 (q_n 1 (q_n 2 i9)))))
   (i8 (asn 3 (p_ca (Gm T) T.Gy hr (q_n 2 i9)) Ea.nd)
   (i8 (D8 (rels:=[]) (a_co 4 Ea.nd ["spot", "one"] 1 [0] ["one", "table", "other", "rungs", "goods", "both"] (i6 Dg).names (B8 rfl T.C8 (p_i (i0 0) j9)) (λ_ _ _ _ _=>(p_ca (Dk T) T.Cb hr (j3 (p_i (i0 1) j9) (q_n 0 i9))))))
   (i8 (asn 5 (p_ca (N9 T) T.M4 hr (j3 (p_op K4 (i0 1) (i0 3)) (j3 (p_op K4 (i0 4) (p_co ["rung", "one"] 1 [0] ["one", "table", "other", "rungs", "goods", "both"] (i6 Dg).names (E9 (i0 3)) (λ_ _ _ _ _=>(p_ca (Z9 T) T.X1 hr (j3 (p_i (i0 1) j9) i9))))) i9))) Ea.nd)
   (m9 (o7 (p_ca (EX T) T.Ee hr (j3 (p_i (i0 0) j9) (j3 (p_ca (Ar T) T.T4 hr (q_n 5 (j3 (p_i (i0 2) j9) i9))) i9))))))))))
theorem Su(T:Facts K mg A):FnOk P w K mg base CX0 8 A.MU A.MV ["hall", "one", "other"] (spc K true DR) :=
 T.Nm.d 7 Ho ET (λ_ _ _ _ _ _ hr hu =>
  (i8 (asn 3 (p_ca (K1 T) T.M3 hr (j3 (p_ca (Qj T) T.OI hr (q_n 0 (q_n 1 (q_n 2 i9)))) (j3 (LD j9) i9))) ET.nd)
   (i8 (asn 4 (p_ca (Aa T) T.X2 hr (j3 (p_op K4 (i0 3) (p_ca (Z9 T) T.X1 hr (j3 (p_bu K5 T.K8 (j3 (p_i (i0 0) j9) i9)) i9))) (j3 (p_ca (EY T) T.Aw hr (q_n 0 i9)) i9))) ET.nd)
   (i8 (s_if (t_cm (o_ne hu) (T7 (i0 4) Ay (Az (p_i (i0 0) j9))) (p_ca (z0m T) T.QS hr (q_n 0 i9))) (m9 (o7 Eh)) v6)
   (m9 (o7 (T7 (i0 4) (Az (p_i (i0 0) j9)) Ay)))))))
theorem z5T(T:Facts K mg A):FnOk P w K mg base CX0 9 A.z4M A.z4N ["hall", "one", "other"] (spc K true Hq) :=
 T.z4R.d 8 NT z5R (λ_ _ _ _ _ _ hr hu =>
  (m9 (o7 (p_ca (Su T) T.Nm hr (q_n 0 (q_n 1 (q_n 2 i9)))))))
theorem z0q(T:Facts K mg A):FnOk P w K mg base CX0 9 A.QH A.QI ["hall"] (spc K false Q7) :=
 T.QW.d 8 CL z0j (λ_ _ _ _ _ _ hr hu =>
  (m9 (o7 (V1 (g:=(Tg.many [0,1])) (A6 (N:=["weights", "part"]) (nt:=2) (js:=[]) ["hall"] (i6 Ge).names rfl rfl rfl (by decide +kernel)) rfl (E9 (p_ca (Qn T) T.Lc hr (q_n 0 i9))) (λ_ _ _ _ _=>V0 rfl (B3 (A4 (ndp ["weights", "part"]) rfl (Or.inl rfl) (Or.inr rfl)) (B3 (A4 (ndp ["weights", "part"]) rfl (Or.inl rfl) (Or.inr rfl)) U9))) (jlt [0,1] 2) (λ_ _ _ _ _=>(Ri (t_cm (o_ne hu) (i0 1) j9))) (λ_ _ _ _ _=>(AK (q_n 0 (q_n 1 i9)))) (jlt [] 1)))))
theorem z5U(T:Facts K mg A):FnOk P w K mg base CX0 2 A.z4O A.z4P ["way", "scale"] (spc K true CM) :=
 T.z4S.d 1 Ry z5S (λ_ _ _ _ _ _ hr hu =>
  (m9 (o7 (p_ca (YK T) T.XU hr (j3 (p_ca (Sk T) T.Nf hr (q_n 0 (j3 (p_i (i0 1) j9) i9))) (j3 (p_i (i0 1) j9) i9))))))
theorem Go(T:Facts K mg A):FnOk P w K mg base CX0 1 A.Bg A.Bh ["scale", "found"] (spc K false G6) :=
 T.Bj.d 0 S5 Gf (λ_ _ _ _ _ _ hr hu =>
  (m9 (o7 (@AK _ _ _ _ _ (@j3 _ _ _ _ _ (p_i (i0 0) j9) (@j3 _ _ _ _ _ (p_if (t_cm (o_eq hu) (p_i (i0 0) j9) j9) (p_op K4 (p_bu c_abs T.n_abs (q_n 1 i9)) j9) (p_i (i0 0) j9)) i9 rfl) rfl)))))
theorem z0r(T:Facts K mg A):FnOk P w K mg base CX0 10 A.QJ A.QK ["hall", "one", "other"] (spc K false Z0) :=
 T.QX.d 9 AY Eb (λ_ _ _ _ _ _ hr hu =>
  (i8 (asn 3 (p_ca (Qj T) T.OI hr (q_n 0 (q_n 1 (q_n 2 i9)))) Eb.nd)
   (i8 (Af (rels:=[]) (g:=(Tg.one 4)) PassesOwn.never rfl (E9 (p_ca (z0q T) T.QW hr (q_n 0 i9))) (R1 Eb.nd rfl (Or.inl rfl) (Or.inl rfl)) (i8 (asn 5 (p_ca (z5U T) T.z4S hr (q_n 3 (q_n 4 i9))) Eb.nd)
   (m9 (s_if (t_cm (o_ne hu) (i0 5) j9) (m9 (o7 (p_ca (Go T) T.Bj hr (q_n 4 (q_n 5 i9))))) v6))))
   (m9 (o7 Eh)))))
theorem OB(T:Facts K mg A):FnOk P w K mg base CX0 1 A.Iz A.IA ["one", "other"] (spc K true An) :=
 T.IG.d 0 CN Ow (λ_ _ _ _ _ _ hr hu =>
  (m9 (s_if (t_cm (o_ne hu) (p_i (i0 0) j9) (p_i (i0 1) j9)) (m9 Dz) v6)))
theorem Mo(T:Facts K mg A):FnOk P w K mg base CX0 6 A.QL A.QM ["one", "other"] (spc K true N6) :=
 T.Lf.d 5 JV z0k (λ_ _ _ _ _ _ hr hu =>
  (i8 (Bx (p_ca (OB T) T.IG hr (q_n 0 (q_n 1 i9))))
   (m9 (o7 (p_ca (EX T) T.Ee hr (j3 (p_i (i0 0) j9) (j3 (p_ca (Ca T) T.Bi hr (j3 (p_op o_catT (p_i (i0 0) j9) (p_i (i0 1) j9)) i9)) i9)))))))
theorem C6(T:Facts K mg A):FnOk P w K mg base CX0 1 A.IB A.IC ["_law_script", "_law_k"] (spc K true u9) :=
 T.D3.d 0 CO Ox (λ_ _ _ _ _ _ hr hu =>
  (i8 (s_if (t_cm o_lt (i0 1) (p_bu K5 T.K8 (q_n 0 i9))) (m9 (o7 (p_i (i0 0) (i0 1)))) v6)
   (i8 (s_if (t_cm (o_eq hu) (i0 0) (Ei i9)) (m9 (o7 j9)) v6)
   (m9 (o7 (p_op K4 (p_op X4 (p_i (i0 0) (p_op O6 (i0 1) (p_bu K5 T.K8 (q_n 0 i9)))) j9) (i0 1)))))))
theorem Kw(T:Facts K mg A):FnOk P w K mg base CX0 1 A.MW A.MX ["_law_found"] (spc K true N1) :=
 T.HU.d 0 DS Si (λ_ _ _ _ _ _ hr hu =>
  (m9 (o7 (OU (Ek (T := "int") rfl rfl T.C7 rfl T.Zk (by decide +kernel) (i0 0)) (LC (p_not (Ek (T := "bool") rfl rfl T.C7 rfl T.XS (by decide +kernel) (i0 0))))))))
theorem Dm(T:Facts K mg A):FnOk P w K mg base CX0 2 A.KO A.KP ["_law_found", "_law_size"] (spc K true O3) :=
 T.Cd.d 1 EI Im (λ_ _ _ _ _ _ hr hu =>
  (i8 (s_if (PFW.pt (w_or (U0 (R0 (Ek (T := "list") rfl rfl T.C7 rfl T.M0 (by decide +kernel) (i0 0)) (fun _=>rfl))) (Cf (t_cm (o_ne hu) (p_bu K5 T.K8 (q_n 0 i9)) (i0 1))))) (m9 (o7 p_bl)) v6)
   (i8 (Af (rels:=[]) (g:=(Tg.one 2)) PassesOwn.never rfl (E9 (i0 0)) (R1 Im.nd rfl (Or.inl rfl) (Or.inl rfl)) (m9 (s_if (U0 (R0 (p_ca (Kw T) T.HU hr (q_n 2 i9)) (λ_=>rfl))) (m9 (o7 p_bl)) v6)))
   (m9 (o7 p_bl)))))
theorem Qp(T:Facts K mg A):FnOk P w K mg base CX0 1 A.KQ A.KR ["_law_cell", "_law_mode"] (spc K true S6) :=
 T.Lg.d 0 Z1 Ap (λ_ _ _ _ _ _ hr hu =>
  (i8 (s_if (t_cm (o_eq hu) (i0 1) j9) (i8 (asn 2 (p_op O6 (i0 0) (p_op z0T j9 j9)) Ap.nd)
   (i8 (s_if (t_cm (o_eq hu) (p_op O6 (p_op Bt (i0 0) (p_op z0T j9 j9)) j9) j9) (m9 (o7 (LD (i0 2)))) v6)
   (m9 (o7 (i0 2))))) v6)
   (i8 (asn 3 (p_i (Ei (j3 j9 (j3 j9 i9))) (i0 1)) Ap.nd)
   (i8 (asn 2 (p_op O6 (i0 0) (i0 3)) Ap.nd)
   (i8 (s_if (t_cm o_gt (i0 2) (p_op Bt (i0 3) j9)) (m9 (o7 (p_op z0S (i0 2) (i0 3)))) v6)
   (m9 (o7 (i0 2))))))))
theorem Dn(T:Facts K mg A):FnOk P w K mg base CX0 2 A.Zc A.Zd ["_law_script", "_law_at", "_law_size", "_law_mode"] (spc K true K6) :=
 T.Ef.d 1 NU z1U (λ_ _ _ _ _ _ hr hu =>
  (m9 (o7 (p_co ["_law_k", "_law_script", "_law_at", "_law_mode"] 1 [0,1,3] ["_law_script", "_law_at", "_law_size", "_law_mode"] (i6 IZ).names (B8 rfl T.C8 (i0 2)) (λ_ _ _ _ _=>(p_ca (Qp T) T.Lg hr (j3 (p_ca (C6 T) T.D3 hr (q_n 1 (j3 (p_op K4 (i0 2) (i0 0)) i9))) (q_n 3 i9))))))))
theorem Gp(T:Facts K mg A):FnOk P w K mg base CX0 1 A.Ze A.Zf ["_law_size", "_law_rows", "_law_times"] (spc K true Q8) :=
 T.GB.d 0 NV Gh (λ_ _ _ _ _ _ hr hu =>
  (i8 (D8 (rels:=[]) (u5 (i:=3) (p_co ["_law_k"] 1 [] ["_law_size", "_law_rows", "_law_times", "_law_made", "_law_j"] (i6 Gg).names (B8 rfl T.C8 (i0 0)) (fun _ _ _ _ _=>j9)) Gh.nd rfl (Or.inr rfl) rfl (Or.inl rfl)))
   (i8 (Af (rels:=[]) (g:=(Tg.one 4)) PassesOwn.never rfl (B8 rfl T.C8 (p_bu K5 T.K8 (q_n 1 i9))) (R1 Gh.nd rfl (Or.inr rfl) (Or.inl rfl)) (m9 (D8 (rels:=[]) (u5 (i:=3) (p_co ["_law_k", "_law_made", "_law_times", "_law_j", "_law_rows"] 1 [3,2,4,1] ["_law_size", "_law_rows", "_law_times", "_law_made", "_law_j"] (i6 Gg).names (B8 rfl T.C8 (i0 0)) (λ_ _ _ _ _=>(p_op K4 (p_i (i0 1) (i0 0)) (p_op X4 (p_i (i0 2) (i0 3)) (p_i (p_i (i0 4) (i0 3)) (i0 0)))))) Gh.nd rfl (Or.inr rfl) rfl (Or.inl rfl)))))
   (m9 (o7 (i0 3))))))
theorem Mp(T:Facts K mg A):FnOk P w K mg base CX0 1 A.QN A.QO ["_law_one", "_law_other", "_law_times"] (spc K true CP) :=
 T.Lh.d 0 JW z0l (λ_ _ _ _ _ _ hr hu =>
  (m9 (o7 (p_co ["_law_k", "_law_one", "_law_times", "_law_other"] 1 [0,2,1] ["_law_one", "_law_other", "_law_times"] (i6 Gi).names (B8 rfl T.C8 (p_bu K5 T.K8 (q_n 0 i9))) (λ_ _ _ _ _=>(p_op K4 (p_i (i0 1) (i0 0)) (p_op X4 (i0 2) (p_i (i0 3) (i0 0)))))))))
theorem Kx(T:Facts K mg A):FnOk P w K mg base CX0 1 A.MY A.MZ ["_law_weights", "_law_row_here"] (spc K true S7) :=
 T.HV.d 0 Hr BY (λ_ _ _ _ _ _ hr hu =>
  (i8 (asn 2 j9 BY.nd)
   (i8 (Af (rels:=[]) (g:=(Tg.one 3)) PassesOwn.never rfl (B8 rfl T.C8 (p_bu K5 T.K8 (q_n 1 i9))) (R1 BY.nd rfl (Or.inl rfl) (Or.inl rfl)) (m9 (asn 2 (p_op K4 (i0 2) (p_op X4 (p_i (i0 0) (i0 3)) (p_i (i0 1) (i0 3)))) BY.nd)))
   (m9 (o7 (i0 2))))))
theorem Sv(T:Facts K mg A):FnOk P w K mg base CX0 3 A.Na A.Nb ["_law_bills", "_law_one", "_law_other", "_law_uses"] (spc K true AZ) :=
 T.Nn.d 2 Ht Sj (λ_ _ _ _ _ _ hr hu =>
  (i8 (s_if (U0 (R0 (p_ca (Dm T) T.Cd hr (q_n 3 (j3 (p_bu K5 T.K8 (q_n 0 i9)) i9))) (fun _=>rfl))) (m9 (o7 p_bl)) v6)
   (m9 (o7 (p_cm (o_eq hu) (p_ca (Mp T) T.Lh hr (q_n 1 (j3 (p_ca (Gp T) T.GB hr (j3 (p_bu K5 T.K8 (q_n 1 i9)) (q_n 0 (q_n 3 i9)))) (j3 j9 i9)))) (i0 2))))))
theorem Qq(T:Facts K mg A):FnOk P w K mg base CX0 3 A.KS A.KT ["_law_bills", "_law_one", "_law_other", "_law_scale"] (spc K true Z2) :=
 T.Li.d 2 EJ Io (λ_ _ _ _ _ _ hr hu =>
  (i8 (s_if (PFW.pt (w_or (U0 (R0 (Ek (T := "tuple") rfl rfl T.C7 rfl T.Ed (by decide +kernel) (i0 3)) (fun _=>rfl))) (w_or (t_cm (o_ne hu) (p_bu K5 T.K8 (q_n 3 i9)) j9) (Cf (U0 (R0 (p_ca (Kw T) T.HU hr (j3 (p_i (i0 3) j9) i9)) (fun _=>rfl))))))) (m9 (o7 p_bl)) v6)
   (i8 (s_if (PFW.pt (w_or (U0 (R0 (p_ca (Dm T) T.Cd hr (j3 (p_i (i0 3) j9) (j3 (p_bu K5 T.K8 (q_n 1 i9)) i9))) (λ_=>rfl))) (Cf (t_cm o_lt (p_i (i0 3) j9) j9)))) (m9 (o7 p_bl)) v6)
   (i8 (Af (rels:=[]) (g:=(Tg.one 4)) PassesOwn.never rfl (E9 (i0 0)) (R1 Io.nd rfl (Or.inl rfl) (Or.inl rfl)) (m9 (s_if (t_cm (o_ne hu) (p_op O6 (p_ca (Kx T) T.HV hr (j3 (p_i (i0 3) j9) (q_n 4 i9))) (p_i (i0 3) j9)) j9) (m9 (o7 p_bl)) v6)))
   (m9 (o7 (p_cm (o_ne hu) (p_op O6 (p_ca (Kx T) T.HV hr (j3 (p_i (i0 3) j9) (j3 (p_ca (Mp T) T.Lh hr (q_n 2 (q_n 1 (j3 (LD j9) i9)))) i9))) (p_i (i0 3) j9)) j9)))))))
theorem z1W(T:Facts K mg A):FnOk P w K mg base CX0 3 A.Zg A.Zh ["_law_script"] (spc K true NW) :=
 T.Zm.d 2 IS E1 (λ_ _ _ _ _ _ hr hu =>
  (i8 (D8 (rels:=[]) (u5 (i:=1) (p_i (Ei (j3 j9 (j3 j9 (j3 j9 (j3 j9 (j3 j9 i9)))))) (p_op O6 (p_ca (C6 T) T.D3 hr (q_n 0 (j3 j9 i9))) j9)) E1.nd rfl (Or.inr rfl) rfl (Or.inl rfl)))
   (i8 (D8 (rels:=[]) (u5 (i:=2) (p_op K4 j9 (p_op O6 (p_ca (C6 T) T.D3 hr (q_n 0 (j3 j9 i9))) j9)) E1.nd rfl (Or.inr rfl) rfl (Or.inl rfl)))
   (i8 (D8 (rels:=[]) (u5 (i:=3) (p_op K4 j9 (p_op O6 (p_ca (C6 T) T.D3 hr (q_n 0 (j3 j9 i9))) j9)) E1.nd rfl (Or.inr rfl) rfl (Or.inl rfl)))
   (i8 (s_if (t_cm (o_eq hu) (p_op O6 (p_ca (C6 T) T.D3 hr (q_n 0 (j3 j9 i9))) j9) j9) (i8 (D8 (rels:=[]) (u5 (i:=2) j9 E1.nd rfl (Or.inr rfl) rfl (Or.inl rfl)))
   (m9 (D8 (rels:=[]) (u5 (i:=1) j9 E1.nd rfl (Or.inr rfl) rfl (Or.inl rfl))))) v6)
   (i8 (asn 4 (p_op O6 (p_ca (C6 T) T.D3 hr (q_n 0 (j3 j9 i9))) j9) E1.nd)
   (i8 (asn 5 (p_op O6 (p_ca (C6 T) T.D3 hr (q_n 0 (j3 j9 i9))) j9) E1.nd)
   (i8 (s_if (PFW.pt (w_and (t_cm (o_eq hu) (i0 1) j9) (w_and1 (t_cm (o_eq hu) (p_op O6 (p_ca (C6 T) T.D3 hr (q_n 0 (j3 j9 i9))) j9) j9)))) (i8 (asn 4 (p_op K4 (i0 4) (p_op X4 j9 (p_ty c_int T.Zk (j3 (p_cm o_lt (i0 2) j9) i9)))) E1.nd)
   (m9 (asn 5 (p_op K4 (i0 5) j9) E1.nd))) v6)
   (i8 (s_if (t_cm (o_eq hu) (i0 1) j9) (i8 (D8 (rels:=[]) (u5 (i:=2) (p_op K4 j9 (p_op O6 (i0 2) j9)) E1.nd rfl (Or.inr rfl) rfl (Or.inl rfl)))
   (i8 (D8 (rels:=[]) (u5 (i:=3) (p_op K4 j9 (p_op O6 (i0 3) j9)) E1.nd rfl (Or.inr rfl) rfl (Or.inl rfl)))
   (i8 (asn 4 (p_op O6 (i0 4) j9) E1.nd)
   (m9 (asn 5 (p_op O6 (i0 5) j9) E1.nd))))) v6)
   (i8 (D8 (rels:=[]) (a_co 6 E1.nd ["_law_k", "_law_script", "_law_kinds", "_law_mode"] 1 [0,2,1] ["_law_script", "_law_mode", "_law_kinds", "_law_others", "_law_many", "_law_size", "_law_one", "_law_other"] (i6 Gj).names (B8 rfl T.C8 (i0 4)) (λ_ _ _ _ _=>(p_ca (Dn T) T.Ef hr (q_n 1 (j3 (p_op K4 j9 (p_op X4 (i0 2) (i0 0))) (q_n 2 (q_n 3 i9))))))))
   (i8 (D8 (rels:=[]) (a_co 7 E1.nd ["_law_k", "_law_script", "_law_others", "_law_mode"] 1 [0,3,1] ["_law_script", "_law_mode", "_law_kinds", "_law_others", "_law_many", "_law_size", "_law_one", "_law_other"] (i6 Gj).names (B8 rfl T.C8 (i0 5)) (λ_ _ _ _ _=>(p_ca (Dn T) T.Ef hr (q_n 1 (j3 (p_op K4 j9 (p_op X4 (i0 2) (i0 0))) (q_n 2 (q_n 3 i9))))))))
   (m9 (o7 (AK (q_n 2 (q_n 6 (q_n 3 (q_n 7 i9))))))))))))))))))
theorem Dp(T:Facts K mg A):FnOk P w K mg base CX0 1 A.KU A.KW ["_law_rows"] (spc K true S8) :=
 T.Ce.d 0 EK Qh (λ_ _ _ _ _ _ hr hu =>
  (m9 (o7 (p_co ["_law_row_here"] 1 [] ["_law_rows"] (i6 BZ).names (E9 (i0 0)) (λ_ _ _ _ _=>(p_ty AL T.M0 (q_n 0 i9)))))))
theorem HR(T:Facts K mg A):FnOk P w K mg base CX0 11 A.QP A.QQ ["_law_hall", "_law_bills", "_law_one", "_law_other"] (spc K true F8) :=
 T.GD.d 10 FJ HN (λ_ _ _ _ _ _ hr hu =>
  (i8 (asn 4 (p_ca (z5T T) T.z4R hr (q_n 0 (j3 (p_ty AL T.M0 (q_n 2 i9)) (j3 (p_ty AL T.M0 (q_n 3 i9)) i9)))) HN.nd)
   (i8 (s_if (t_cm o_notN (i0 4) Eh) (m9 (o7 (p_i (Ei (j3 Eh (j3 p_bl i9))) (p_ty c_int T.Zk (j3 (p_ca (Sv T) T.Nn hr (q_n 1 (q_n 2 (q_n 3 (q_n 4 i9))))) i9))))) v6)
   (i8 (asn 5 (p_ca (z0r T) T.QX hr (q_n 0 (j3 (p_ty AL T.M0 (q_n 2 i9)) (j3 (p_ty AL T.M0 (q_n 3 i9)) i9)))) HN.nd)
   (i8 (s_if (PFW.pt (w_or (t_cm Yc (i0 5) Eh) (Cf (U0 (R0 (p_ca (Qq T) T.Li hr (q_n 1 (q_n 2 (q_n 3 (q_n 5 i9))))) (λ_=>rfl)))))) (m9 (o7 Eh)) v6)
   (m9 (o7 p_bl)))))))
theorem Sw(T:Facts K mg A):FnOk P w K mg base CX0 12 A.Nc A.Nd ["_law_other", "_law_bills", "_law_table", "_law_rows"] (spc K true Hv) :=
 T.Np.d 11 Hu T2 (λ_ _ _ _ _ _ hr hu =>
  (i8 (asn 4 p_bl T2.nd)
   (i8 (D8 (rels:=[]) (a_co 5 T2.nd ["_law_k"] 1 [] ["_law_other", "_law_bills", "_law_table", "_law_rows", "_law_level", "_law_empty", "_law_row_here", "_law_found"] (i6 Ec).names (B8 rfl T.C8 (p_i (i0 0) j9)) (λ_ _ _ _ _=>j9)))
   (i8 (Af (rels:=[]) (g:=(Tg.one 6)) PassesOwn.never rfl (E9 (i0 3)) (R1 T2.nd rfl (Or.inl rfl) (Or.inl rfl)) (i8 (asn 7 (p_ca (HR T) T.GD hr (q_n 0 (q_n 1 (q_n 5 (j3 (p_ca (Gp T) T.GB hr (j3 (p_i (i0 0) j9) (q_n 2 (q_n 6 i9)))) i9))))) T2.nd)
   (i8 (s_if (t_cm Yc (i0 7) Eh) (m9 (o7 Eh)) v6)
   (m9 (asn 4 (OU (i0 4) (LC (i0 7))) T2.nd)))))
   (m9 (o7 (i0 4)))))))
theorem ok_law(T:Facts K mg A):FnOk P w K mg base CX0 13 A.a_law A.Zi ["_law_script"] (spc K true YD) :=
 T.f_law.d 12 z1z N4 (λ_ _ _ _ _ _ hr hu =>
  (i8 (asn 1 (p_ca (z1W T) T.Zm hr (q_n 0 i9)) N4.nd)
   (i8 (asn 2 (p_i (i0 1) j9) N4.nd)
   (i8 (D8 (rels:=[]) (u5 (i:=3) (p_i (i0 1) j9) N4.nd rfl (Or.inr rfl) rfl (Or.inl rfl)))
   (i8 (asn 4 (p_ca (Kv T) T.HS hr (q_n 2 (j3 (p_ca (Dp T) T.Ce hr (j3 (p_i (i0 1) j9) i9)) i9))) N4.nd)
   (i8 (asn 5 (p_ca (Kv T) T.HS hr (q_n 3 (j3 (p_ca (Dp T) T.Ce hr (j3 (p_i (i0 1) j9) i9)) i9))) N4.nd)
   (i8 (D8 (rels:=[]) (a_co 6 N4.nd ["_law_k", "_law_script", "_law_size"] 1 [0,3] ["_law_script", "_law_drawn", "_law_kinds", "_law_size", "_law_one", "_law_other", "_law_table", "_law_handed", "_law_hall", "_law_said", "_law_bills", "_law_basket", "_law_there", "_law_due", "_law_found"] (i6 Ip).names (B8 rfl T.C8 (i0 2)) (λ_ _ _ _ _=>(p_ca (Dn T) T.Ef hr (q_n 1 (j3 (p_op K4 j9 (p_op X4 j9 (i0 0))) (q_n 2 (j3 j9 i9))))))))
   (i8 (asn 7 (p_ca (Dp T) T.Ce hr (q_n 6 i9)) N4.nd)
   (i8 (asn 8 (p_ca (z0p T) T.QV hr (q_n 4 (q_n 7 (q_n 5 i9)))) N4.nd)
   (i8 (asn 9 (p_ca (z1V T) T.Zl hr (q_n 4 (q_n 7 (q_n 5 i9)))) N4.nd)
   (i8 (s_if (PFW.pt (w_or (t_cm (o_ne hu) (i0 7) (i0 6)) (Cf (U0 (R0 (Ek (T := "bool") rfl rfl T.C7 rfl T.XS (by decide +kernel) (i0 9)) (λ_=>rfl)))))) (m9 (o7 p_bl)) v6)
   (i8 (s_if (t_cm (o_ne hu) (i0 9) (p_ca (Sw T) T.Np hr (q_n 5 (j3 (p_i (i0 1) j9) (q_n 6 (j3 (p_i (i0 1) j9) i9)))))) (m9 (o7 p_bl)) v6)
   (i8 (D8 (rels:=[]) (a_co 10 N4.nd ["_law_bill"] 1 [] ["_law_script", "_law_drawn", "_law_kinds", "_law_size", "_law_one", "_law_other", "_law_table", "_law_handed", "_law_hall", "_law_said", "_law_bills", "_law_basket", "_law_there", "_law_due", "_law_found"] (i6 Ip).names (E9 (p_i (i0 8) j9)) (λ_ _ _ _ _=>(p_ty AL T.M0 (q_n 0 i9)))))
   (i8 (s_if (PFW.pt (w_or (t_cm (o_ne hu) (i0 8) (@AK _ _ _ _ _ (@j3 _ _ _ _ _ (i0 2) (@j3 _ _ _ _ _ (p_ty OV T.Ed (j3 (p_co ["_law_row_here"] 1 [] ["_law_script", "_law_drawn", "_law_kinds", "_law_size", "_law_one", "_law_other", "_law_table", "_law_handed", "_law_hall", "_law_said", "_law_bills", "_law_basket", "_law_there", "_law_due", "_law_found"] (i6 Ip).names (E9 (p_ca (Gm T) T.Gy hr (q_n 8 i9))) (λ_ _ _ _ _=>(p_ty OV T.Ed (q_n 0 i9)))) i9)) i9 rfl) rfl))) (Cf (t_cm (o_ne hu) (p_ca (Mo T) T.Lf hr (q_n 8 (q_n 4 i9))) (p_ca (Mo T) T.Lf hr (q_n 4 (q_n 8 i9))))))) (m9 (o7 p_bl)) v6)
   (i8 (asn 11 (p_ca (Dn T) T.Ef hr (q_n 0 (j3 j9 (q_n 2 (j3 j9 i9))))) N4.nd)
   (i8 (s_if (t_cm (o_eq hu) (p_op O6 (p_ca (C6 T) T.D3 hr (q_n 0 (j3 j9 i9))) j9) j9) (m9 (asn 11 (p_ca (Gp T) T.GB hr (q_n 2 (q_n 10 (j3 (p_ca (Dn T) T.Ef hr (q_n 0 (j3 j9 (j3 (p_bu K5 T.K8 (q_n 10 i9)) (j3 j9 i9))))) i9)))) N4.nd)) v6)
   (i8 (asn 12 (p_ca (Ss T) T.Nl hr (q_n 7 (j3 (p_ty AL T.M0 (q_n 11 i9)) (q_n 3 i9)))) N4.nd)
   (i8 (s_if (PFW.pt (w_or (U0 (R0 (p_ca (Dm T) T.Cd hr (q_n 12 (q_n 3 i9))) (λ_=>rfl))) (Cf (t_cm (o_ne hu) (i0 12) (p_ca (Gp T) T.GB hr (q_n 3 (q_n 6 (q_n 11 i9)))))))) (m9 (o7 p_bl)) v6)
   (i8 (asn 13 (p_ca (HR T) T.GD hr (q_n 5 (j3 (p_i (i0 1) j9) (j3 (p_co ["_law_k"] 1 [] ["_law_script", "_law_drawn", "_law_kinds", "_law_size", "_law_one", "_law_other", "_law_table", "_law_handed", "_law_hall", "_law_said", "_law_bills", "_law_basket", "_law_there", "_law_due", "_law_found"] (i6 Ip).names (B8 rfl T.C8 (i0 3)) (λ_ _ _ _ _=>j9)) (q_n 12 i9))))) N4.nd)
   (i8 (asn 14 (p_ca (HR T) T.GD hr (q_n 8 (q_n 10 (j3 (p_co ["_law_k"] 1 [] ["_law_script", "_law_drawn", "_law_kinds", "_law_size", "_law_one", "_law_other", "_law_table", "_law_handed", "_law_hall", "_law_said", "_law_bills", "_law_basket", "_law_there", "_law_due", "_law_found"] (i6 Ip).names (B8 rfl T.C8 (i0 2)) (λ_ _ _ _ _=>j9)) (q_n 11 i9))))) N4.nd)
   (i8 (s_if (PFW.pt (w_or (t_cm Yc (i0 13) Eh) (w_or (t_cm Yc (i0 14) Eh) (Cf (t_cm (o_ne hu) (i0 14) (i0 13)))))) (m9 (o7 p_bl)) v6)
   (m9 (o7 (p_or (i0 14) (LC (p_cm (o_eq hu) (p_op O6 (p_ca (C6 T) T.D3 hr (q_n 0 (j3 j9 i9))) j9) j9))))))))))))))))))))))))))
end
theorem z1X{l:PySem.W.OpenLaw}{w:World}{K:aD}{h:Heap}{mg:aE}{fa:Addr}(X:K.In h)(G:h.Ns mainGlobals mg)(hfa:mg "law" = some (.ref fa))
  {a0:Addr} (h0:Dh K "is_whole" EQ a0)
  {a1:Addr} (h1:Dh K "is_row" FY a1)
  {a2:Addr} (h2:Dh K "noughts" DV a2)
  {a3:Addr} (h3:Dh K "unit_row" BP a3)
  {a4:Addr} (h4:Dh K "added" IV a4)
  {a5:Addr} (h5:Dh K "taken" IW a5)
  {a6:Addr} (h6:Dh K "scaled" FZ a6)
  {a7:Addr} (h7:Dh K "weighed" DW a7)
  {a8:Addr} (h8:Dh K "mixed" Op a8)
  {a9:Addr} (h9:Dh K "head_at" HA a9)
  {a10:Addr} (h10:Dh K "are_kinds" Da a10)
  {a11:Addr} (h11:Dh K "is_bill" DX a11)
  {a12:Addr} (h12:Dh K "need_kinds" BQ a12)
  {a13:Addr} (h13:Dh K "need_bill" Db a13)
  {a14:Addr} (h14:Dh K "hall_by" DY a14)
  {a15:Addr} (h15:Dh K "hall_of" HB a15)
  {a16:Addr} (h16:Dh K "need_basket_of" T0 a16)
  {a17:Addr} (h17:Dh K "need_basket" AF a17)
  {a18:Addr} (h18:Dh K "nought" Ko a18)
  {a19:Addr} (h19:Dh K "apart" Ot a19)
  {a20:Addr} (h20:Dh K "bridge" Dc a20)
  {a21:Addr} (h21:Dh K "rest" Sd a21)
  {a22:Addr} (h22:Dh K "product" HC a22)
  {a23:Addr} (h23:Dh K "lowering" ES a23)
  {a24:Addr} (h24:Dh K "lowered" HD a24)
  {a25:Addr} (h25:Dh K "crossed" HE a25)
  {a26:Addr} (h26:Dh K "turned_up" Dd a26)
  {a27:Addr} (h27:Dh K "with_row" BS a27)
  {a28:Addr} (h28:Dh K "evened" Kp a28)
  {a29:Addr} (h29:Dh K "climbed" HH a29)
  {a30:Addr} (h30:Dh K "tagged_stair" Q9 a30)
  {a31:Addr} (h31:Dh K "tags_at_nought" N3 a31)
  {a32:Addr} (h32:Dh K "stair" Ov a32)
  {a33:Addr} (h33:Dh K "stair_with_uses" K7 a33)
  {a34:Addr} (h34:Dh K "turned" Gd a34)
  {a35:Addr} (h35:Dh K "is_slant" BV a35)
  {a36:Addr} (h36:Dh K "rests" IX a36)
  {a37:Addr} (h37:Dh K "slanted" W9 a37)
  {a38:Addr} (h38:Dh K "linked" Kq a38)
  {a39:Addr} (h39:Dh K "chained" DZ a39)
  {a40:Addr} (h40:Dh K "measures" L9 a40)
  {a41:Addr} (h41:Dh K "is_table" BW a41)
  {a42:Addr} (h42:Dh K "need_table" BX a42)
  {a43:Addr} (h43:Dh K "carried" HI a43)
  {a44:Addr} (h44:Dh K "sound" IY a44)
  {a45:Addr} (h45:Dh K "pulled" Dg a45)
  {a46:Addr} (h46:Dh K "settled" HJ a46)
  {a47:Addr} (h47:Dh K "plan" Sg a47)
  {a48:Addr} (h48:Dh K "scales" Ge a48)
  {a49:Addr} (h49:Dh K "tilt" Sh a49)
  {a50:Addr} (h50:Dh K "measured_scale" T1 a50)
  {a51:Addr} (h51:Dh K "denial" Kr a51)
  {a52:Addr} (h52:Dh K "need_like" Di a52)
  {a53:Addr} (h53:Dh K "joined" Ks a53)
  {a54:Addr} (h54:Dh K "_law_cell_at" Dj a54)
  {a55:Addr} (h55:Dh K "_law_whole" HK a55)
  {a56:Addr} (h56:Dh K "_law_is_row" EU a56)
  {a57:Addr} (h57:Dh K "_law_number" EV a57)
  {a58:Addr} (h58:Dh K "_law_row" IZ a58)
  {a59:Addr} (h59:Dh K "_law_sum" Gg a59)
  {a60:Addr} (h60:Dh K "_law_plus" Gi a60)
  {a61:Addr} (h61:Dh K "_law_heavy" HL a61)
  {a62:Addr} (h62:Dh K "_law_leads" HM a62)
  {a63:Addr} (h63:Dh K "_law_denies" EW a63)
  {a64:Addr} (h64:Dh K "_law_two" Gj a64)
  {a65:Addr} (h65:Dh K "_law_copied" BZ a65)
  {a66:Addr} (h66:Dh K "_law_same" Kt a66)
  {a67:Addr} (h67:Dh K "_law_sound" Ec a67)
  {a68:Addr} (h68:Dh K "law" Ip a68)
  (z_abs:PySem.W.nsIn K mainGlobals "abs" = some none)
  (z_all:PySem.W.nsIn K mainGlobals "all" = some none)
  (z_any:PySem.W.nsIn K mainGlobals "any" = some none)
  (z_bool:PySem.W.nsIn K mainGlobals "bool" = some none)
  (z_enumerate:PySem.W.nsIn K mainGlobals "enumerate" = some none)
  (z_int:PySem.W.nsIn K mainGlobals "int" = some none)
  (z_isinstance:PySem.W.nsIn K mainGlobals "isinstance" = some none)
  (z_len:PySem.W.nsIn K mainGlobals "len" = some none)
  (z_list:PySem.W.nsIn K mainGlobals "list" = some none)
  (z_range:PySem.W.nsIn K mainGlobals "range" = some none)
  (z_reversed:PySem.W.nsIn K mainGlobals "reversed" = some none)
  (z_sorted:PySem.W.nsIn K mainGlobals "sorted" = some none)
  (z_sum:PySem.W.nsIn K mainGlobals "sum" = some none)
  (z_tuple:PySem.W.nsIn K mainGlobals "tuple" = some none)
  (z_zip:PySem.W.nsIn K mainGlobals "zip" = some none)
  {V9:Tok} (y_MOST_BILLS:PySem.W.nsIn K mainGlobals "MOST_BILLS" = some (some (.int 8 V9)))
  {W0:Tok} (y_MOST_KINDS:PySem.W.nsIn K mainGlobals "MOST_KINDS" = some (some (.int 6 W0)))
  : ∃ fd:FuncData,(∀(s:Shared) (u:Value),BindsTo s fd ⟨[u],[]⟩ [("_law_script",u)])/\∀ base:Heap,K.In base->base.Ns mainGlobals mg->FnOk l.prog w K mg base CX0 13 fa fd ["_law_script"] (spc K true YD):=by
 obtain⟨d0,q0,b0⟩:=h0.df (ps:=["value"]) X G (λ_ _ _ _ _ _=>us1 (λ_=>rfl));obtain⟨d1,q1,b1⟩:=h1.df (ps:=["value", "length"]) X G (λ_ _ _ _ _ _=>us2 (λ_ _=>rfl));obtain⟨d2,q2,b2⟩:=h2.df (ps:=["length"]) X G (λ_ _ _ _ _ _=>us1 (λ_=>rfl));obtain⟨d3,q3,b3⟩:=h3.df (ps:=["length", "one_at"]) X G (λ_ _ _ _ _ _=>us2 (λ_ _=>rfl));obtain⟨d4,q4,b4⟩:=h4.df (ps:=["one", "other"]) X G (λ_ _ _ _ _ _=>us2 (λ_ _=>rfl));obtain⟨d5,q5,b5⟩:=h5.df (ps:=["one", "other"]) X G (λ_ _ _ _ _ _=>us2 (λ_ _=>rfl));obtain⟨d6,q6,b6⟩:=h6.df (ps:=["row", "often"]) X G (λ_ _ _ _ _ _=>us2 (λ_ _=>rfl));obtain⟨d7,q7,b7⟩:=h7.df (ps:=["row", "weights"]) X G (λ_ _ _ _ _ _=>us2 (λ_ _=>rfl));obtain⟨d8,q8,b8⟩:=h8.df (ps:=["rows", "counts", "length"]) X G (λ_ _ _ _ _ _=>us3 (λ_ _ _=>rfl));obtain⟨d9,q9,b9⟩:=h9.df (ps:=["row"]) X G (λ_ _ _ _ _ _=>us1 (λ_=>rfl));obtain⟨d10,q10,b10⟩:=h10.df (ps:=["value"]) X G (λ_ _ _ _ _ _=>us1 (λ_=>rfl));obtain⟨d11,q11,b11⟩:=h11.df (ps:=["value", "kinds"]) X G (λ_ _ _ _ _ _=>us2 (λ_ _=>rfl));obtain⟨d12,q12,b12⟩:=h12.df (ps:=["kinds"]) X G (λ_ _ _ _ _ _=>us1 (λ_=>rfl));obtain⟨d13,q13,b13⟩:=h13.df (ps:=["bill", "kinds"]) X G (λ_ _ _ _ _ _=>us2 (λ_ _=>rfl));obtain⟨d14,q14,b14⟩:=h14.df (ps:=["kinds", "rows"]) X G (λ_ _ _ _ _ _=>us2 (λ_ _=>rfl));obtain⟨d15,q15,b15⟩:=h15.df (ps:=["kinds", "bills"]) X G (λ_ _ _ _ _ _=>us2 (λ_ _=>rfl));obtain⟨d16,q16,b16⟩:=h16.df (ps:=["kinds", "basket"]) X G (λ_ _ _ _ _ _=>us2 (λ_ _=>rfl));obtain⟨d17,q17,b17⟩:=h17.df (ps:=["hall", "basket"]) X G (λ_ _ _ _ _ _=>us2 (λ_ _=>rfl));obtain⟨d18,q18,b18⟩:=h18.df (ps:=["hall"]) X G (λ_ _ _ _ _ _=>us1 (λ_=>rfl));obtain⟨d19,q19,b19⟩:=h19.df (ps:=["hall", "one", "other"]) X G (λ_ _ _ _ _ _=>us3 (λ_ _ _=>rfl));obtain⟨d20,q20,b20⟩:=h20.df (ps:=["a", "b"]) X G (λ_ _ _ _ _ _=>us2 (λ_ _=>rfl));obtain⟨d21,q21,b21⟩:=h21.df (ps:=["a", "part"]) X G (λ_ _ _ _ _ _=>us2 (λ_ _=>rfl));obtain⟨d22,q22,b22⟩:=h22.df (ps:=["numbers"]) X G (λ_ _ _ _ _ _=>us1 (λ_=>rfl));obtain⟨d23,q23,b23⟩:=h23.df (ps:=["row", "rungs"]) X G (λ_ _ _ _ _ _=>us2 (λ_ _=>rfl));obtain⟨d24,q24,b24⟩:=h24.df (ps:=["row", "rungs"]) X G (λ_ _ _ _ _ _=>us2 (λ_ _=>rfl));obtain⟨d25,q25,b25⟩:=h25.df (ps:=["rung", "row"]) X G (λ_ _ _ _ _ _=>us2 (λ_ _=>rfl));obtain⟨d26,q26,b26⟩:=h26.df (ps:=["row"]) X G (λ_ _ _ _ _ _=>us1 (λ_=>rfl));obtain⟨d27,q27,b27⟩:=h27.df (ps:=["rungs", "row"]) X G (λ_ _ _ _ _ _=>us2 (λ_ _=>rfl));obtain⟨d28,q28,b28⟩:=h28.df (ps:=["rungs"]) X G (λ_ _ _ _ _ _=>us1 (λ_=>rfl));obtain⟨d29,q29,b29⟩:=h29.df (ps:=["rows"]) X G (λ_ _ _ _ _ _=>us1 (λ_=>rfl));obtain⟨d30,q30,b30⟩:=h30.df (ps:=["rows", "tags"]) X G (λ_ _ _ _ _ _=>us2 (λ_ _=>rfl));obtain⟨d31,q31,b31⟩:=h31.df (ps:=["rungs", "width"]) X G (λ_ _ _ _ _ _=>us2 (λ_ _=>rfl));obtain⟨d32,q32,b32⟩:=h32.df (ps:=["hall"]) X G (λ_ _ _ _ _ _=>us1 (λ_=>rfl));obtain⟨d33,q33,b33⟩:=h33.df (ps:=["hall"]) X G (λ_ _ _ _ _ _=>us1 (λ_=>rfl));obtain⟨d34,q34,b34⟩:=h34.df (ps:=["rows", "width"]) X G (λ_ _ _ _ _ _=>us2 (λ_ _=>rfl));obtain⟨d35,q35,b35⟩:=h35.df (ps:=["rows"]) X G (λ_ _ _ _ _ _=>us1 (λ_=>rfl))
 obtain⟨d36,q36,b36⟩:=h36.df (ps:=["row", "part"]) X G (λ_ _ _ _ _ _=>us2 (λ_ _=>rfl));obtain⟨d37,q37,b37⟩:=h37.df (ps:=["rows", "tags", "whole"]) X G (λ_ _ _ _ _ _=>us3 (λ_ _ _=>rfl));obtain⟨d38,q38,b38⟩:=h38.df (ps:=["one", "other"]) X G (λ_ _ _ _ _ _=>us2 (λ_ _=>rfl));obtain⟨d39,q39,b39⟩:=h39.df (ps:=["measured"]) X G (λ_ _ _ _ _ _=>us1 (λ_=>rfl));obtain⟨d40,q40,b40⟩:=h40.df (ps:=["hall"]) X G (λ_ _ _ _ _ _=>us1 (λ_=>rfl));obtain⟨d41,q41,b41⟩:=h41.df (ps:=["one", "table", "other"]) X G (λ_ _ _ _ _ _=>us3 (λ_ _ _=>rfl));obtain⟨d42,q42,b42⟩:=h42.df (ps:=["one", "table", "other"]) X G (λ_ _ _ _ _ _=>us3 (λ_ _ _=>rfl));obtain⟨d43,q43,b43⟩:=h43.df (ps:=["table", "basket", "kinds"]) X G (λ_ _ _ _ _ _=>us3 (λ_ _ _=>rfl));obtain⟨d44,q44,b44⟩:=h44.df (ps:=["one", "table", "other"]) X G (λ_ _ _ _ _ _=>us3 (λ_ _ _=>rfl));obtain⟨d45,q45,b45⟩:=h45.df (ps:=["one", "table", "other"]) X G (λ_ _ _ _ _ _=>us3 (λ_ _ _=>rfl));obtain⟨d46,q46,b46⟩:=h46.df (ps:=["hall", "one", "other"]) X G (λ_ _ _ _ _ _=>us3 (λ_ _ _=>rfl));obtain⟨d47,q47,b47⟩:=h47.df (ps:=["hall", "one", "other"]) X G (λ_ _ _ _ _ _=>us3 (λ_ _ _=>rfl));obtain⟨d48,q48,b48⟩:=h48.df (ps:=["hall"]) X G (λ_ _ _ _ _ _=>us1 (λ_=>rfl));obtain⟨d49,q49,b49⟩:=h49.df (ps:=["way", "scale"]) X G (λ_ _ _ _ _ _=>us2 (λ_ _=>rfl));obtain⟨d50,q50,b50⟩:=h50.df (ps:=["scale", "found"]) X G (λ_ _ _ _ _ _=>us2 (λ_ _=>rfl));obtain⟨d51,q51,b51⟩:=h51.df (ps:=["hall", "one", "other"]) X G (λ_ _ _ _ _ _=>us3 (λ_ _ _=>rfl));obtain⟨d52,q52,b52⟩:=h52.df (ps:=["one", "other"]) X G (λ_ _ _ _ _ _=>us2 (λ_ _=>rfl));obtain⟨d53,q53,b53⟩:=h53.df (ps:=["one", "other"]) X G (λ_ _ _ _ _ _=>us2 (λ_ _=>rfl));obtain⟨d54,q54,b54⟩:=h54.df (ps:=["_law_script", "_law_k"]) X G (λ_ _ _ _ _ _=>us2 (λ_ _=>rfl));obtain⟨d55,q55,b55⟩:=h55.df (ps:=["_law_found"]) X G (λ_ _ _ _ _ _=>us1 (λ_=>rfl));obtain⟨d56,q56,b56⟩:=h56.df (ps:=["_law_found", "_law_size"]) X G (λ_ _ _ _ _ _=>us2 (λ_ _=>rfl));obtain⟨d57,q57,b57⟩:=h57.df (ps:=["_law_cell", "_law_mode"]) X G (λ_ _ _ _ _ _=>us2 (λ_ _=>rfl));obtain⟨d58,q58,b58⟩:=h58.df (ps:=["_law_script", "_law_at", "_law_size", "_law_mode"]) X G (λ_ _ _ _ _ _=>us4 (λ_ _ _ _=>rfl));obtain⟨d59,q59,b59⟩:=h59.df (ps:=["_law_size", "_law_rows", "_law_times"]) X G (λ_ _ _ _ _ _=>us3 (λ_ _ _=>rfl));obtain⟨d60,q60,b60⟩:=h60.df (ps:=["_law_one", "_law_other", "_law_times"]) X G (λ_ _ _ _ _ _=>us3 (λ_ _ _=>rfl));obtain⟨d61,q61,b61⟩:=h61.df (ps:=["_law_weights", "_law_row_here"]) X G (λ_ _ _ _ _ _=>us2 (λ_ _=>rfl));obtain⟨d62,q62,b62⟩:=h62.df (ps:=["_law_bills", "_law_one", "_law_other", "_law_uses"]) X G (λ_ _ _ _ _ _=>us4 (λ_ _ _ _=>rfl));obtain⟨d63,q63,b63⟩:=h63.df (ps:=["_law_bills", "_law_one", "_law_other", "_law_scale"]) X G (λ_ _ _ _ _ _=>us4 (λ_ _ _ _=>rfl));obtain⟨d64,q64,b64⟩:=h64.df (ps:=["_law_script"]) X G (λ_ _ _ _ _ _=>us1 (λ_=>rfl));obtain⟨d65,q65,b65⟩:=h65.df (ps:=["_law_rows"]) X G (λ_ _ _ _ _ _=>us1 (λ_=>rfl));obtain⟨d66,q66,b66⟩:=h66.df (ps:=["_law_hall", "_law_bills", "_law_one", "_law_other"]) X G (λ_ _ _ _ _ _=>us4 (λ_ _ _ _=>rfl))
 obtain⟨d67,q67,b67⟩:=h67.df (ps:=["_law_other", "_law_bills", "_law_table", "_law_rows"]) X G (λ_ _ _ _ _ _=>us4 (λ_ _ _ _=>rfl));obtain⟨d68,q68,b68⟩:=h68.df (ps:=["_law_script"]) X G (λ_ _ _ _ _ _=>us1 (λ_=>rfl));have key:∃ A:Adr,Facts K mg A/\∀(s:Shared) (u:Value),BindsTo s A.Zi ⟨[u],[]⟩ [("_law_script",u)]:=⟨⟨a0,d0,a1,d1,a2,d2,a3,d3,a4,d4,a5,d5,a6,d6,a7,d7,a8,d8,a9,d9,a10,d10,a11,d11,a12,d12,a13,d13,a14,d14,a15,d15,a16,d16,a17,d17,a18,d18,a19,d19,a20,d20,a21,d21,a22,d22,a23,d23,a24,d24,a25,d25,a26,d26,a27,d27,a28,d28,a29,d29,a30,d30,a31,d31,a32,d32,a33,d33,a34,d34,a35,d35,a36,d36,a37,d37,a38,d38,a39,d39,a40,d40,a41,d41,a42,d42,a43,d43,a44,d44,a45,d45,a46,d46,a47,d47,a48,d48,a49,d49,a50,d50,a51,d51,a52,d52,a53,d53,a54,d54,a55,d55,a56,d56,a57,d57,a58,d58,a59,d59,a60,d60,a61,d61,a62,d62,a63,d63,a64,d64,a65,d65,a66,d66,a67,d67,a68,d68,V9,W0⟩,⟨PySem.W.mg_none_of X G z_abs,PySem.W.mg_none_of X G z_all,PySem.W.mg_none_of X G z_any,PySem.W.mg_none_of X G z_bool,PySem.W.mg_none_of X G z_enumerate,PySem.W.mg_none_of X G z_int,PySem.W.mg_none_of X G z_isinstance,PySem.W.mg_none_of X G z_len,PySem.W.mg_none_of X G z_list,PySem.W.mg_none_of X G z_range,PySem.W.mg_none_of X G z_reversed,PySem.W.mg_none_of X G z_sorted,PySem.W.mg_none_of X G z_sum,PySem.W.mg_none_of X G z_tuple,PySem.W.mg_none_of X G z_zip,PySem.W.mg_of X G y_MOST_BILLS,PySem.W.mg_of X G y_MOST_KINDS,q0,q1,q2,q3,q4,q5,q6,q7,q8,q9,q10,q11,q12,q13,q14,q15,q16,q17,q18,q19,q20,q21,q22,q23,q24,q25,q26,q27,q28,q29,q30,q31,q32,q33,q34,q35,q36,q37,q38,q39,q40,q41,q42,q43,q44,q45,q46,q47,q48,q49,q50,q51,q52,q53,q54,q55,q56,q57,q58,q59,q60,q61,q62,q63,q64,q65,q66,q67,q68⟩,λs u => .of_eq (b68 [u] rfl)⟩;obtain⟨A,FF,hb⟩:=key;have e:=hfa.symm.trans FF.f_law.mg;cases e;exact⟨A.Zi,hb,λbase _ _=>ok_law FF⟩
namespace H
noncomputable section
open PySem PySem.W PySem.Calls PyProof.Rows
abbrev pw:Program:=PySem.Challenge.pw_changehall_k26_whole_pulled
abbrev vs(s:String)(t:Nat):Value := .str (Str.ofString s) t
abbrev de(P:Params)(s:String)(t:Nat)(v:Value):DictEntry:=⟨PyData.keyHash P (Str.ofString s),.str (Str.ofString s) t,v⟩
abbrev N:=BT.node
abbrev E:=BT.nil
abbrev ins(t:BT)(l:List (Nat×Obj)):BT:=l.foldl (λt x=>t.ins x.1 x.2) t
def fdT(s:Stmt)(g:Addr)(md cd:Value):FuncData:=match s with
 | .FunctionDef name args body _ _ _ scope _ _ _=>{ name:=name,qualname:=name,params:=args,body := .stmts body,scope:=scope,globals:=g,closure:=[],defaults := .none,kwdefaults := .none,pyModule:=md,code:=cd }
 | _=>default
abbrev tu(l:aF):Obj:=⟨.type "tuple",none,.seq l.toArray 0,#[]⟩
abbrev fi(l:aF):Obj:=⟨.none,none,.fields l.toArray,#[]⟩
abbrev fo(c:Value)(i:Nat)(g:Addr)(md cd:Value):Obj:=⟨c,none,.func (fdT (top i) g md cd),#[]⟩
abbrev co(a f:String)(t0 t1 t2:Nat)(l n z:Int)(r:Addr)(u:Bool)(v:Int)(s:Addr)(p q1 q2 q3:Value)(w:Int)(t3:Nat):Obj:=⟨.type "code",none,.fields #[vs a t0,vs a t1,vs f t2,.int l 0,.int n 0,.int 0 0,.int 0 0,.int z 0,.ref r,.bool u,.int v 0,.ref s,p,q1,q2,q3,.int w 0,.int l 0,vs f t3],#[]⟩
theorem te_go:@topGo=Fast.tw15667345088766844465:=Fast.te15667345088766844465
theorem te_sr:@segRun=Fast.tw14374325043358763698:=Fast.te14374325043358763698
theorem te_sT:@segRunT=Fast.tw10110043849684766642:=Fast.te10110043849684766642
theorem te_tr:@topRun=Fast.tw14082659384304107361:=Fast.te14082659384304107361
theorem te_tb:treeTable=Fast.tw14364793385576792824:=Fast.te14364793385576792824
theorem te_im:@importedModules=Fast.tw5923862056798008813:=Fast.te5923862056798008813
theorem te_seen:@seen=Fast.tw5160383126252970620:=Fast.te5160383126252970620
theorem te_recs:@recsOf=Fast.tw3399658132070893891:=Fast.te3399658132070893891
theorem te_owns:@ownsOf=Fast.tw5991557255702980513:=Fast.te5991557255702980513
theorem te_keys:@Heap.keysOk=Fast.tw10880121769531294198:=Fast.te10880121769531294198
theorem te_loose:@looseW=Fast.tw821141287760084731:=Fast.te821141287760084731
theorem te_lits:@litsOf=Fast.tw7409074990110511671:=Fast.te7409074990110511671
theorem te_clss:@clssOf=Fast.tw13664370479719496447:=Fast.te13664370479719496447
theorem te_acc:@Heap.accountedOkI=Fast.tw14722251495701143533:=Fast.te14722251495701143533
theorem te_tabl:@tablesOk=Fast.tw10994771534591457954:=Fast.te10994771534591457954
theorem te_tabs:@tabsOk=Fast.tw479339242167458305:=Fast.te479339242167458305
theorem te_pin:@pinSeenD=Fast.tw16090120013241838585:=Fast.te16090120013241838585
theorem te_drecs:@drecsOf=Fast.tw3247288618530077131:=Fast.te3247288618530077131
theorem te_pE:@plainSeenE=Fast.tw2386780881361962483:=Fast.te2386780881361962483
theorem te_pD:@plainSeenD=Fast.tw11698064438423848299:=Fast.te11698064438423848299
theorem te_wide:@wideSeen=Fast.tw7317090234206586261:=Fast.te7317090234206586261
theorem te_cls:@clsSeenW=Fast.tw7369524293546568484:=Fast.te7369524293546568484
theorem te_den:@denote=Fast.tw11892475500146522536:=Fast.te11892475500146522536
theorem te_ns:@Heap.nsMap=Fast.tw8920871248978507458:=Fast.te8920871248978507458
abbrev env:Env:={ scope:=pw.main.scope,locals:=mainNs,globals:=mainNs,cells:=[],code := .ref 13,frame:=some 14 }
abbrev cE:Code := .body (behindTheImports pw) env
abbrev fB:List Frame:=[topFrame ⟨0,0,0,0⟩]
abbrev ann:Option Value:=some (.ref 6)
abbrev o11a:=tu []
abbrev o12aL:aF:=[]
abbrev o12a:=fi o12aL
abbrev o13a:=co "<module>" "/claim/cut.py" 182 183 184 1 0 0 11 false 181 12 .none .none .none .none 185 186
abbrev o14a:Obj:=⟨.type "frame",none,.plain,#[Option.some (PySem.Value.ref 13),Option.some (PySem.Value.ref 3),Option.some (PySem.Value.ref 3),Option.none,Option.some (PySem.Value.str (PySem.Str.ofString "__main__") 164),Option.none,Option.some (PySem.Value.ref 0)]⟩
abbrev ha(P:Params):Heap:=⟨⟨[boot_o_0 P,boot_o_1 P,boot_o_2 P,boot_o_3 P,boot_o_4 P,boot_o_5 P,boot_o_6 P,boot_o_7 P,boot_o_8 P,boot_o_9 P,boot_o_10 P,o11a,o12a,o13a,o14a]⟩,{ }⟩
theorem run_a(w:World)(os:OsState):topGo treeTable pw w 11 ann 12 ⟨boot_heap w.params,#[],boot_drawn,boot_toks,os⟩ (topStub pw)=some (⟨ha w.params,#[],{ },187,os⟩,⟨denote treeTable cE,cE,⟨0,0,0,0⟩,fB⟩):=by
 rewrite[te_go,te_den,te_tb];kernel_rfl
abbrev t0(P:Params):BT:=(N (boot_o_0 P) (N (boot_o_1 P) (N (boot_o_3 P) (N (boot_o_7 P) E E) (N (o11a) E E)) (N (boot_o_5 P) (N (boot_o_9 P) E E) (N (o13a) E E))) (N (boot_o_2 P) (N (boot_o_4 P) (N (boot_o_8 P) E E) (N (o12a) E E)) (N (boot_o_6 P) (N (boot_o_10 P) E E) (N (o14a) E E))))
abbrev s0(w:World)(os:OsState):SharedT:=⟨t0 w.params,15,{ },#[],{ },187,os⟩
theorem run_b(w:World)(os:OsState):segRun treeTable pw w 11 ann 1 1 ⟨ha w.params,#[],{ },187,os⟩ (blockOf (behindTheImports pw) env cE ⟨0,0,0,0⟩ fB)=some (.next,(s0 w os).abs,cE,⟨0,0,0,0⟩):=by
 rewrite[te_sr,te_tb];kernel_rfl
abbrev o3_1L(P:Params):List DictEntry:=[de P "__name__" 165 (vs "changehall.errors" 187),de P "__doc__" 166 .none,de P "__package__" 167 .none,de P "__loader__" 168 (.builtin "__main__.__loader__#opaque"),de P "__spec__" 169 .none,de P "__annotations__" 170 (.ref 6),de P "__builtins__" 171 (.ref 4),de P "__file__" 173 (vs "/claim/cut.py" 172),de P "__cached__" 174 .none,de P "HallError" 206 (.ref 24)]
abbrev o3_1(P:Params):Obj:=⟨.type "dict",none,.dict (o3_1L P).toArray 10,#[]⟩
abbrev z1Y:aF:=o12aL++[.int 2 0,.int 0 0,.ref 20]
abbrev o12_1:=fi z1Y
abbrev z1Z:=tu [.type "ValueError"]
abbrev o16_1:Obj:=⟨.type "builtin_function_or_method",none,.fields #[.builtin "type.__prepare__",.type "type"],#[]⟩
abbrev o17_1L(P:Params):List DictEntry:=[de P "__module__" 196 (vs "changehall.errors" 187),de P "__qualname__" 198 (vs "HallError" 197),de P "__firstlineno__" 200 (.int 2 199),de P "__static_attributes__" 201 (.ref 22)]
abbrev o17_1(P:Params):Obj:=⟨.type "dict",none,.dict (o17_1L P).toArray 4,#[]⟩
abbrev o18_1:=tu []
abbrev o19_1:=fi []
abbrev o20_1:=co "HallError" "/claim/cut.py" 191 192 193 2 0 0 18 false 181 19 .none .none .none .none 194 195
abbrev o21_1:Obj:=⟨.type "frame",none,.plain,#[Option.some (PySem.Value.ref 20),Option.some (PySem.Value.ref 3),Option.some (PySem.Value.ref 17),Option.none,Option.some (PySem.Value.str (PySem.Str.ofString "changehall.errors") 187),Option.none,Option.some (PySem.Value.ref 0)]⟩
abbrev z20:=tu []
abbrev o23_1L(P:Params):List DictEntry:=[de P "__module__" 196 (vs "changehall.errors" 187),de P "__firstlineno__" 200 (.int 2 199),de P "__static_attributes__" 201 (.ref 22),de P "__weakref__" 203 (.ref 25),de P "__doc__" 204 .none]
abbrev z21(P:Params):Obj:=⟨.type "dict",none,.dict (o23_1L P).toArray 3,#[]⟩
abbrev o24_1:Obj:=⟨.type "type",none,.cls ({ name:=PySem.Str.ofString "HallError",bases:=[PySem.Value.type "ValueError"],mro:=[PySem.Value.ref 24,PySem.Value.type "ValueError",PySem.Value.type "Exception",PySem.Value.type "BaseException",PySem.Value.type "object"],ns:=23,qualname:=PySem.Str.ofString "HallError" }),#[Option.some (PySem.Value.ref 15),Option.none,Option.some (PySem.Value.str (PySem.Str.ofString "HallError") 189),Option.some (PySem.Value.str (PySem.Str.ofString "HallError") 197),Option.some (PySem.Value.builtin "ValueError.__new__"),Option.some (PySem.Value.bool w02)]⟩
abbrev z22:Obj:=⟨.type "getset_descriptor",none,.fields #[vs "__weakref__" 202,.ref 24,.builtin "ExceptionGroup.__weakref__",.none],#[]⟩
abbrev o26_1:Obj:=⟨.type "super",none,.fields #[.ref 24,.ref 24,.ref 24],#[]⟩
abbrev o27_1:Obj:=⟨.type "builtin_function_or_method",none,.fields #[.builtin "object.__init_subclass__",.ref 24],#[]⟩
abbrev t1(P:Params):BT:=ins (t0 P) [(3,o3_1 P),(12,o12_1),(15,z1Z),(16,o16_1),(17,o17_1 P),(18,o18_1),(19,o19_1),(20,o20_1),(21,o21_1),(22,z20),(23,z21 P),(24,o24_1),(25,z22),(26,o26_1),(27,o27_1)]
abbrev s1(w:World)(os:OsState):SharedT:=⟨t1 w.params,28,{ },#[],{ },207,os⟩
abbrev l0:List Stmt:=[top 0,top 1]
theorem run_0(w:World)(os:OsState):segRunT treeTable pw w 11 ann 1 196 (s0 w os) (piecesOf l0 env cE ⟨0,0,0,0⟩ fB)=some (.next,s1 w os,cE,⟨2,0,3,8⟩):=by
 rewrite[te_sT,te_tb];kernel_rfl
abbrev o3_2L(P:Params):List DictEntry:=de P "__name__" 165 (vs "changehall.errors" 187)::(o3_1L P).tail++[de P "NoHall" 222 (.ref 37)]
abbrev o3_2(P:Params):Obj:=⟨.type "dict",none,.dict (o3_2L P).toArray 11,#[]⟩
abbrev z23:aF:=z1Y++[.int 4 0,.int 0 0,.ref 33]
abbrev o12_2:=fi z23
abbrev o24_2:Obj:=⟨.type "type",none,.cls ({ name:=PySem.Str.ofString "HallError",bases:=[PySem.Value.type "ValueError"],mro:=[PySem.Value.ref 24,PySem.Value.type "ValueError",PySem.Value.type "Exception",PySem.Value.type "BaseException",PySem.Value.type "object"],ns:=23,qualname:=PySem.Str.ofString "HallError",subclasses:=[PySem.Value.ref 37] }),#[Option.some (PySem.Value.ref 15),Option.none,Option.some (PySem.Value.str (PySem.Str.ofString "HallError") 189),Option.some (PySem.Value.str (PySem.Str.ofString "HallError") 197),Option.some (PySem.Value.builtin "ValueError.__new__"),Option.some (PySem.Value.bool w02)]⟩
abbrev z24:=tu [.ref 24]
abbrev o29_2:Obj:=⟨.type "builtin_function_or_method",none,.fields #[.builtin "type.__prepare__",.type "type"],#[]⟩
abbrev o30_2L(P:Params):List DictEntry:=[de P "__module__" 214 (vs "changehall.errors" 187),de P "__qualname__" 216 (vs "NoHall" 215),de P "__firstlineno__" 218 (.int 4 217),de P "__static_attributes__" 219 (.ref 35)]
abbrev o30_2(P:Params):Obj:=⟨.type "dict",none,.dict (o30_2L P).toArray 4,#[]⟩
abbrev o31_2:=tu []
abbrev o32_2:=fi []
abbrev o33_2:=co "NoHall" "/claim/cut.py" 209 210 211 4 0 0 31 false 181 32 .none .none .none .none 212 213
abbrev o34_2:Obj:=⟨.type "frame",none,.plain,#[Option.some (PySem.Value.ref 33),Option.some (PySem.Value.ref 3),Option.some (PySem.Value.ref 30),Option.none,Option.some (PySem.Value.str (PySem.Str.ofString "changehall.errors") 187),Option.none,Option.some (PySem.Value.ref 0)]⟩
abbrev z25:=tu []
abbrev o36_2L(P:Params):List DictEntry:=[de P "__module__" 214 (vs "changehall.errors" 187),de P "__firstlineno__" 218 (.int 4 217),de P "__static_attributes__" 219 (.ref 35),de P "__doc__" 220 .none]
abbrev z26(P:Params):Obj:=⟨.type "dict",none,.dict (o36_2L P).toArray 2,#[]⟩
abbrev z27:Obj:=⟨.type "type",none,.cls ({ name:=PySem.Str.ofString "NoHall",bases:=[PySem.Value.ref 24],mro:=[PySem.Value.ref 37,PySem.Value.ref 24,PySem.Value.type "ValueError",PySem.Value.type "Exception",PySem.Value.type "BaseException",PySem.Value.type "object"],ns:=36,qualname:=PySem.Str.ofString "NoHall" }),#[Option.some (PySem.Value.ref 28),Option.none,Option.some (PySem.Value.str (PySem.Str.ofString "NoHall") 207),Option.some (PySem.Value.str (PySem.Str.ofString "NoHall") 215),Option.some (PySem.Value.builtin "ValueError.__new__"),Option.some (PySem.Value.bool w02)]⟩
abbrev o38_2:Obj:=⟨.type "super",none,.fields #[.ref 37,.ref 37,.ref 37],#[]⟩
abbrev o39_2:Obj:=⟨.type "builtin_function_or_method",none,.fields #[.builtin "object.__init_subclass__",.ref 37],#[]⟩
abbrev t2(P:Params):BT:=ins (t1 P) [(3,o3_2 P),(12,o12_2),(24,o24_2),(28,z24),(29,o29_2),(30,o30_2 P),(31,o31_2),(32,o32_2),(33,o33_2),(34,o34_2),(35,z25),(36,z26 P),(37,z27),(38,o38_2),(39,o39_2)]
abbrev s2(w:World)(os:OsState):SharedT:=⟨t2 w.params,40,{ },#[],{ },223,os⟩
abbrev l1:List Stmt:=[top 2]
theorem run_1(w:World)(os:OsState):segRunT treeTable pw w 11 ann 1 214 (s1 w os) (piecesOf l1 env cE ⟨2,0,3,8⟩ fB)=some (.next,s2 w os,cE,⟨4,0,5,8⟩):=by
 rewrite[te_sT,te_tb];kernel_rfl
abbrev o3_3L(P:Params):List DictEntry:=de P "__name__" 165 (vs "changehall.errors" 187)::(o3_2L P).tail++[de P "NoBasket" 238 (.ref 49)]
abbrev o3_3(P:Params):Obj:=⟨.type "dict",none,.dict (o3_3L P).toArray 12,#[]⟩
abbrev z28:aF:=z23++[.int 6 0,.int 0 0,.ref 45]
abbrev o12_3:=fi z28
abbrev o24_3:Obj:=⟨.type "type",none,.cls ({ name:=PySem.Str.ofString "HallError",bases:=[PySem.Value.type "ValueError"],mro:=[PySem.Value.ref 24,PySem.Value.type "ValueError",PySem.Value.type "Exception",PySem.Value.type "BaseException",PySem.Value.type "object"],ns:=23,qualname:=PySem.Str.ofString "HallError",subclasses:=[PySem.Value.ref 37,PySem.Value.ref 49] }),#[Option.some (PySem.Value.ref 15),Option.none,Option.some (PySem.Value.str (PySem.Str.ofString "HallError") 189),Option.some (PySem.Value.str (PySem.Str.ofString "HallError") 197),Option.some (PySem.Value.builtin "ValueError.__new__"),Option.some (PySem.Value.bool w02)]⟩
abbrev z29:=tu [.ref 24]
abbrev o41_3:Obj:=⟨.type "builtin_function_or_method",none,.fields #[.builtin "type.__prepare__",.type "type"],#[]⟩
abbrev o42_3L(P:Params):List DictEntry:=[de P "__module__" 230 (vs "changehall.errors" 187),de P "__qualname__" 232 (vs "NoBasket" 231),de P "__firstlineno__" 234 (.int 6 233),de P "__static_attributes__" 235 (.ref 47)]
abbrev o42_3(P:Params):Obj:=⟨.type "dict",none,.dict (o42_3L P).toArray 4,#[]⟩
abbrev o43_3:=tu []
abbrev o44_3:=fi []
abbrev o45_3:=co "NoBasket" "/claim/cut.py" 225 226 227 6 0 0 43 false 181 44 .none .none .none .none 228 229
abbrev o46_3:Obj:=⟨.type "frame",none,.plain,#[Option.some (PySem.Value.ref 45),Option.some (PySem.Value.ref 3),Option.some (PySem.Value.ref 42),Option.none,Option.some (PySem.Value.str (PySem.Str.ofString "changehall.errors") 187),Option.none,Option.some (PySem.Value.ref 0)]⟩
abbrev z2a:=tu []
abbrev o48_3L(P:Params):List DictEntry:=[de P "__module__" 230 (vs "changehall.errors" 187),de P "__firstlineno__" 234 (.int 6 233),de P "__static_attributes__" 235 (.ref 47),de P "__doc__" 236 .none]
abbrev z2b(P:Params):Obj:=⟨.type "dict",none,.dict (o48_3L P).toArray 2,#[]⟩
abbrev z2c:Obj:=⟨.type "type",none,.cls ({ name:=PySem.Str.ofString "NoBasket",bases:=[PySem.Value.ref 24],mro:=[PySem.Value.ref 49,PySem.Value.ref 24,PySem.Value.type "ValueError",PySem.Value.type "Exception",PySem.Value.type "BaseException",PySem.Value.type "object"],ns:=48,qualname:=PySem.Str.ofString "NoBasket" }),#[Option.some (PySem.Value.ref 40),Option.none,Option.some (PySem.Value.str (PySem.Str.ofString "NoBasket") 223),Option.some (PySem.Value.str (PySem.Str.ofString "NoBasket") 231),Option.some (PySem.Value.builtin "ValueError.__new__"),Option.some (PySem.Value.bool w02)]⟩
abbrev o50_3:Obj:=⟨.type "super",none,.fields #[.ref 49,.ref 49,.ref 49],#[]⟩
abbrev o51_3:Obj:=⟨.type "builtin_function_or_method",none,.fields #[.builtin "object.__init_subclass__",.ref 49],#[]⟩
abbrev t3(P:Params):BT:=ins (t2 P) [(3,o3_3 P),(12,o12_3),(24,o24_3),(40,z29),(41,o41_3),(42,o42_3 P),(43,o43_3),(44,o44_3),(45,o45_3),(46,o46_3),(47,z2a),(48,z2b P),(49,z2c),(50,o50_3),(51,o51_3)]
abbrev s3(w:World)(os:OsState):SharedT:=⟨t3 w.params,52,{ },#[],{ },239,os⟩
abbrev l2:List Stmt:=[top 3]
theorem run_2(w:World)(os:OsState):segRunT treeTable pw w 11 ann 1 214 (s2 w os) (piecesOf l2 env cE ⟨4,0,5,8⟩ fB)=some (.next,s3 w os,cE,⟨6,0,7,8⟩):=by
 rewrite[te_sT,te_tb];kernel_rfl
abbrev o3_4L(P:Params):List DictEntry:=de P "__name__" 165 (vs "changehall.rows" 255)::(o3_3L P).tail++[de P "Unlike" 254 (.ref 61),de P "is_whole" 263 (.ref 70),de P "is_row" 269 (.ref 75),de P "noughts" 275 (.ref 80),de P "unit_row" 281 (.ref 85),de P "added" 287 (.ref 90),de P "taken" 293 (.ref 95)]
abbrev o3_4(P:Params):Obj:=⟨.type "dict",none,.dict (o3_4L P).toArray 19,#[]⟩
abbrev z2d:aF:=z28++[.int 8 0,.int 0 0,.ref 57,.int 11 0,.int 0 0,.ref 69,.int 13 0,.int 0 0,.ref 74,.int 17 0,.int 0 0,.ref 79,.int 19 0,.int 0 0,.ref 84,.int 21 0,.int 0 0,.ref 89,.int 23 0,.int 0 0,.ref 94]
abbrev o12_4:=fi z2d
abbrev z2e:Obj:=⟨.type "type",none,.cls ({ name:=PySem.Str.ofString "HallError",bases:=[PySem.Value.type "ValueError"],mro:=[PySem.Value.ref 24,PySem.Value.type "ValueError",PySem.Value.type "Exception",PySem.Value.type "BaseException",PySem.Value.type "object"],ns:=23,qualname:=PySem.Str.ofString "HallError",subclasses:=[PySem.Value.ref 37,PySem.Value.ref 49,PySem.Value.ref 61] }),#[Option.some (PySem.Value.ref 15),Option.none,Option.some (PySem.Value.str (PySem.Str.ofString "HallError") 189),Option.some (PySem.Value.str (PySem.Str.ofString "HallError") 197),Option.some (PySem.Value.builtin "ValueError.__new__"),Option.some (PySem.Value.bool w02)]⟩
abbrev z2f:=tu [.ref 24]
abbrev o53_4:Obj:=⟨.type "builtin_function_or_method",none,.fields #[.builtin "type.__prepare__",.type "type"],#[]⟩
abbrev o54_4L(P:Params):List DictEntry:=[de P "__module__" 246 (vs "changehall.errors" 187),de P "__qualname__" 248 (vs "Unlike" 247),de P "__firstlineno__" 250 (.int 8 249),de P "__static_attributes__" 251 (.ref 59)]
abbrev o54_4(P:Params):Obj:=⟨.type "dict",none,.dict (o54_4L P).toArray 4,#[]⟩
abbrev o55_4:=tu []
abbrev o56_4:=fi []
abbrev o57_4:=co "Unlike" "/claim/cut.py" 241 242 243 8 0 0 55 false 181 56 .none .none .none .none 244 245
abbrev o58_4:Obj:=⟨.type "frame",none,.plain,#[Option.some (PySem.Value.ref 57),Option.some (PySem.Value.ref 3),Option.some (PySem.Value.ref 54),Option.none,Option.some (PySem.Value.str (PySem.Str.ofString "changehall.errors") 187),Option.none,Option.some (PySem.Value.ref 0)]⟩
abbrev z2g:=tu []
abbrev o60_4L(P:Params):List DictEntry:=[de P "__module__" 246 (vs "changehall.errors" 187),de P "__firstlineno__" 250 (.int 8 249),de P "__static_attributes__" 251 (.ref 59),de P "__doc__" 252 .none]
abbrev z2h(P:Params):Obj:=⟨.type "dict",none,.dict (o60_4L P).toArray 2,#[]⟩
abbrev z2i:Obj:=⟨.type "type",none,.cls ({ name:=PySem.Str.ofString "Unlike",bases:=[PySem.Value.ref 24],mro:=[PySem.Value.ref 61,PySem.Value.ref 24,PySem.Value.type "ValueError",PySem.Value.type "Exception",PySem.Value.type "BaseException",PySem.Value.type "object"],ns:=60,qualname:=PySem.Str.ofString "Unlike" }),#[Option.some (PySem.Value.ref 52),Option.none,Option.some (PySem.Value.str (PySem.Str.ofString "Unlike") 239),Option.some (PySem.Value.str (PySem.Str.ofString "Unlike") 247),Option.some (PySem.Value.builtin "ValueError.__new__"),Option.some (PySem.Value.bool w02)]⟩
abbrev o62_4:Obj:=⟨.type "super",none,.fields #[.ref 61,.ref 61,.ref 61],#[]⟩
abbrev o63_4:Obj:=⟨.type "builtin_function_or_method",none,.fields #[.builtin "object.__init_subclass__",.ref 61],#[]⟩
abbrev z2j:=tu []
abbrev o65_4:=fi []
abbrev z2k:=tu [vs "value" 260]
abbrev z2l:=tu []
abbrev o68_4:=fo .none 6 0 .none .none
abbrev z2m:=co "is_whole" "/claim/cut.py" 257 258 259 11 1 3 64 true 181 65 .none (.ref 66) (.ref 67) (.ref 68) 261 262
abbrev z2n:=fo (.type "function") 6 3 (vs "changehall.rows" 255) (.ref 69)
abbrev z2o:=tu []
abbrev o72_4:=fi []
abbrev o73_4:=fo .none 7 0 .none .none
abbrev z2p:=co "is_row" "/claim/cut.py" 264 265 266 13 2 3 71 true 181 72 .none .none .none (.ref 73) 267 268
abbrev z2q:=fo (.type "function") 7 3 (vs "changehall.rows" 255) (.ref 74)
abbrev z2r:=tu []
abbrev o77_4:=fi []
abbrev o78_4:=fo .none 8 0 .none .none
abbrev z2s:=co "noughts" "/claim/cut.py" 270 271 272 17 1 3 76 true 181 77 .none .none .none (.ref 78) 273 274
abbrev z2t:=fo (.type "function") 8 3 (vs "changehall.rows" 255) (.ref 79)
abbrev z2u:=tu []
abbrev o82_4:=fi []
abbrev o83_4:=fo .none 9 0 .none .none
abbrev z2v:=co "unit_row" "/claim/cut.py" 276 277 278 19 2 3 81 true 181 82 .none .none .none (.ref 83) 279 280
abbrev z2w:=fo (.type "function") 9 3 (vs "changehall.rows" 255) (.ref 84)
abbrev z2x:=tu []
abbrev o87_4:=fi []
abbrev o88_4:=fo .none 10 0 .none .none
abbrev z2y:=co "added" "/claim/cut.py" 282 283 284 21 2 3 86 true 181 87 .none .none .none (.ref 88) 285 286
abbrev z2z:=fo (.type "function") 10 3 (vs "changehall.rows" 255) (.ref 89)
abbrev z2A:=tu []
abbrev o92_4:=fi []
abbrev o93_4:=fo .none 11 0 .none .none
abbrev z2B:=co "taken" "/claim/cut.py" 288 289 290 23 2 3 91 true 181 92 .none .none .none (.ref 93) 291 292
abbrev z2C:=fo (.type "function") 11 3 (vs "changehall.rows" 255) (.ref 94)
abbrev t4(P:Params):BT:=ins (t3 P) [(3,o3_4 P),(12,o12_4),(24,z2e),(52,z2f),(53,o53_4),(54,o54_4 P),(55,o55_4),(56,o56_4),(57,o57_4),(58,o58_4),(59,z2g),(60,z2h P),(61,z2i),(62,o62_4),(63,o63_4),(64,z2j),(65,o65_4),(66,z2k),(67,z2l),(68,o68_4),(69,z2m),(70,z2n),(71,z2o),(72,o72_4),(73,o73_4),(74,z2p),(75,z2q),(76,z2r),(77,o77_4),(78,o78_4),(79,z2s),(80,z2t),(81,z2u),(82,o82_4),(83,o83_4),(84,z2v),(85,z2w),(86,z2x),(87,o87_4),(88,o88_4),(89,z2y),(90,z2z),(91,z2A),(92,o92_4),(93,o93_4),(94,z2B),(95,z2C)]
abbrev s4(w:World)(os:OsState):SharedT:=⟨t4 w.params,96,{ },#[],{ },294,os⟩
abbrev l3:List Stmt:=[top 4,top 5,top 6,top 7,top 8,top 9,top 10,top 11]
theorem run_3(w:World)(os:OsState):segRunT treeTable pw w 11 ann 1 382 (s3 w os) (piecesOf l3 env cE ⟨6,0,7,8⟩ fB)=some (.next,s4 w os,cE,⟨23,0,24,59⟩):=by
 rewrite[te_sT,te_tb];kernel_rfl
abbrev o3_5L(P:Params):List DictEntry:=de P "__name__" 165 (vs "changehall.halls" 327)::(o3_4L P).tail++[de P "scaled" 299 (.ref 100),de P "weighed" 305 (.ref 105),de P "mixed" 317 (.ref 112),de P "head_at" 326 (.ref 119),de P "MOST_KINDS" 330 (.int 6 329),de P "MOST_BILLS" 332 (.int 8 331),de P "are_kinds" 339 (.ref 126),de P "is_bill" 345 (.ref 131),de P "need_kinds" 352 (.ref 138),de P "need_bill" 360 (.ref 145),de P "hall_of" 369 (.ref 152),de P "hall_by" 375 (.ref 157),de P "need_basket_of" 383 (.ref 164),de P "need_basket" 391 (.ref 171)]
abbrev o3_5(P:Params):Obj:=⟨.type "dict",none,.dict (o3_5L P).toArray 33,#[]⟩
abbrev z2D:aF:=z2d++[.int 25 0,.int 0 0,.ref 99,.int 27 0,.int 0 0,.ref 104,.int 29 0,.int 0 0,.ref 111,.int 34 0,.int 0 0,.ref 118,.int 42 0,.int 0 0,.ref 125,.int 44 0,.int 0 0,.ref 130,.int 46 0,.int 0 0,.ref 137,.int 49 0,.int 0 0,.ref 144,.int 52 0,.int 0 0,.ref 151,.int 59 0,.int 0 0,.ref 156,.int 61 0,.int 0 0,.ref 163,.int 64 0,.int 0 0,.ref 170]
abbrev o12_5:=fi z2D
abbrev z2E:=tu []
abbrev o97_5:=fi []
abbrev o98_5:=fo .none 12 0 .none .none
abbrev z2F:=co "scaled" "/claim/cut.py" 294 295 296 25 2 3 96 true 181 97 .none .none .none (.ref 98) 297 298
abbrev Sx:=fo (.type "function") 12 3 (vs "changehall.rows" 255) (.ref 99)
abbrev Sy:=tu []
abbrev z2G:=fi []
abbrev z2H:=fo .none 13 0 .none .none
abbrev SA:=co "weighed" "/claim/cut.py" 300 301 302 27 2 3 101 true 181 102 .none .none .none (.ref 103) 303 304
abbrev SB:=fo (.type "function") 13 3 (vs "changehall.rows" 255) (.ref 104)
abbrev SC:=tu []
abbrev z2I:=fi []
abbrev SD:=tu [vs "rows" 309,vs "counts" 310,vs "length" 311,vs "total" 312,vs "row" 313,vs "often" 314]
abbrev SE:=tu []
abbrev z2J:=fo .none 14 0 .none .none
abbrev SG:=co "mixed" "/claim/cut.py" 306 307 308 29 3 3 106 true 181 107 .none (.ref 108) (.ref 109) (.ref 110) 315 316
abbrev SH:=fo (.type "function") 14 3 (vs "changehall.rows" 255) (.ref 111)
abbrev SI:=tu []
abbrev z2K:=fi []
abbrev SJ:=tu [vs "row" 321,vs "spot" 322,vs "number" 323]
abbrev SK:=tu []
abbrev z2L:=fo .none 15 0 .none .none
abbrev SL:=co "head_at" "/claim/cut.py" 318 319 320 34 1 3 113 true 181 114 .none (.ref 115) (.ref 116) (.ref 117) 324 325
abbrev SM:=fo (.type "function") 15 3 (vs "changehall.rows" 255) (.ref 118)
abbrev SN:=tu []
abbrev z2M:=fi []
abbrev SO:=tu [vs "value" 336]
abbrev SQ:=tu []
abbrev z2N:=fo .none 19 0 .none .none
abbrev SR:=co "are_kinds" "/claim/cut.py" 333 334 335 42 1 3 120 true 181 121 .none (.ref 122) (.ref 123) (.ref 124) 337 338
abbrev SS:=fo (.type "function") 19 3 (vs "changehall.halls" 327) (.ref 125)
abbrev SU:=tu []
abbrev z2O:=fi []
abbrev z2P:=fo .none 20 0 .none .none
abbrev SV:=co "is_bill" "/claim/cut.py" 340 341 342 44 2 3 127 true 181 128 .none .none .none (.ref 129) 343 344
abbrev SW:=fo (.type "function") 20 3 (vs "changehall.halls" 327) (.ref 130)
abbrev SX:=tu []
abbrev z2Q:=fi []
abbrev SY:=tu [vs "kinds" 349]
abbrev SZ:=tu []
abbrev z2R:=fo .none 21 0 .none .none
abbrev Ta:=co "need_kinds" "/claim/cut.py" 346 347 348 46 1 3 132 true 181 133 .none (.ref 134) (.ref 135) (.ref 136) 350 351
abbrev Tb:=fo (.type "function") 21 3 (vs "changehall.halls" 327) (.ref 137)
abbrev Tc:=tu []
abbrev z2S:=fi []
abbrev Td:=tu [vs "bill" 356,vs "kinds" 357]
abbrev Te:=tu []
abbrev z2T:=fo .none 22 0 .none .none
abbrev Tf:=co "need_bill" "/claim/cut.py" 353 354 355 49 2 3 139 true 181 140 .none (.ref 141) (.ref 142) (.ref 143) 358 359
abbrev Th:=fo (.type "function") 22 3 (vs "changehall.halls" 327) (.ref 144)
abbrev Ti:=tu []
abbrev z2U:=fi []
abbrev Tj:=tu [vs "kinds" 364,vs "bills" 365,vs "bill" 366]
abbrev Tk:=tu []
abbrev z2V:=fo .none 23 0 .none .none
abbrev Tl:=co "hall_of" "/claim/cut.py" 361 362 363 52 2 3 146 true 181 147 .none (.ref 148) (.ref 149) (.ref 150) 367 368
abbrev Tm:=fo (.type "function") 23 3 (vs "changehall.halls" 327) (.ref 151)
abbrev Tn:=tu []
abbrev z2W:=fi []
abbrev z2X:=fo .none 24 0 .none .none
abbrev To:=co "hall_by" "/claim/cut.py" 370 371 372 59 2 3 153 true 181 154 .none .none .none (.ref 155) 373 374
abbrev Tp:=fo (.type "function") 24 3 (vs "changehall.halls" 327) (.ref 156)
abbrev Tq:=tu []
abbrev z2Y:=fi []
abbrev Tr:=tu [vs "kinds" 379,vs "basket" 380]
abbrev Ts:=tu []
abbrev z2Z:=fo .none 25 0 .none .none
abbrev Tt:=co "need_basket_of" "/claim/cut.py" 376 377 378 61 2 3 158 true 181 159 .none (.ref 160) (.ref 161) (.ref 162) 381 382
abbrev Tu:=fo (.type "function") 25 3 (vs "changehall.halls" 327) (.ref 163)
abbrev Tv:=tu []
abbrev z30:=fi []
abbrev Tw:=tu [vs "hall" 387,vs "basket" 388]
abbrev Tx:=tu []
abbrev z31:=fo .none 26 0 .none .none
abbrev Ty:=co "need_basket" "/claim/cut.py" 384 385 386 64 2 3 165 true 181 166 .none (.ref 167) (.ref 168) (.ref 169) 389 390
abbrev Tz:=fo (.type "function") 26 3 (vs "changehall.halls" 327) (.ref 170)
abbrev t5(P:Params):BT:=ins (t4 P) [(3,o3_5 P),(12,o12_5),(96,z2E),(97,o97_5),(98,o98_5),(99,z2F),(100,Sx),(101,Sy),(102,z2G),(103,z2H),(104,SA),(105,SB),(106,SC),(107,z2I),(108,SD),(109,SE),(110,z2J),(111,SG),(112,SH),(113,SI),(114,z2K),(115,SJ),(116,SK),(117,z2L),(118,SL),(119,SM),(120,SN),(121,z2M),(122,SO),(123,SQ),(124,z2N),(125,SR),(126,SS),(127,SU),(128,z2O),(129,z2P),(130,SV),(131,SW),(132,SX),(133,z2Q),(134,SY),(135,SZ),(136,z2R),(137,Ta),(138,Tb),(139,Tc),(140,z2S),(141,Td),(142,Te),(143,z2T),(144,Tf),(145,Th),(146,Ti),(147,z2U),(148,Tj),(149,Tk),(150,z2V),(151,Tl),(152,Tm),(153,Tn),(154,z2W),(155,z2X),(156,To),(157,Tp),(158,Tq),(159,z2Y),(160,Tr),(161,Ts),(162,z2Z),(163,Tt),(164,Tu),(165,Tv),(166,z30),(167,Tw),(168,Tx),(169,z31),(170,Ty),(171,Tz)]
abbrev s5(w:World)(os:OsState):SharedT:=⟨t5 w.params,172,{ },#[],{ },392,os⟩
abbrev l4:List Stmt:=[top 12,top 13,top 14,top 15,top 16,top 17,top 18,top 19,top 20,top 21,top 22,top 23,top 24,top 25,top 26]
theorem run_4(w:World)(os:OsState):segRunT treeTable pw w 11 ann 1 376 (s4 w os) (piecesOf l4 env cE ⟨23,0,24,59⟩ fB)=some (.next,s5 w os,cE,⟨64,0,65,35⟩):=by
 rewrite[te_sT,te_tb];kernel_rfl
abbrev o3_6L(P:Params):List DictEntry:=de P "__name__" 165 (vs "changehall.stairs" 433)::(o3_5L P).tail++[de P "nought" 398 (.ref 178),de P "apart" 407 (.ref 185),de P "bridge" 415 (.ref 190),de P "rest" 423 (.ref 197),de P "product" 432 (.ref 204),de P "lowering" 447 (.ref 211),de P "lowered" 455 (.ref 218),de P "crossed" 467 (.ref 225),de P "turned_up" 474 (.ref 232),de P "with_row" 480 (.ref 237),de P "evened" 489 (.ref 244),de P "climbed" 498 (.ref 251)]
abbrev o3_6(P:Params):Obj:=⟨.type "dict",none,.dict (o3_6L P).toArray 45,#[]⟩
abbrev z32:aF:=z2D++[.int 66 0,.int 0 0,.ref 177,.int 68 0,.int 0 0,.ref 184,.int 73 0,.int 0 0,.ref 189,.int 84 0,.int 0 0,.ref 196,.int 88 0,.int 0 0,.ref 203,.int 94 0,.int 0 0,.ref 210,.int 104 0,.int 0 0,.ref 217,.int 106 0,.int 0 0,.ref 224,.int 112 0,.int 0 0,.ref 231,.int 114 0,.int 0 0,.ref 236,.int 125 0,.int 0 0,.ref 243,.int 130 0,.int 0 0,.ref 250]
abbrev o12_6:=fi z32
abbrev TB:=tu []
abbrev z33:=fi []
abbrev TC:=tu [vs "hall" 395]
abbrev TD:=tu []
abbrev z34:=fo .none 27 0 .none .none
abbrev TF:=co "nought" "/claim/cut.py" 392 393 394 66 1 3 172 true 181 173 .none (.ref 174) (.ref 175) (.ref 176) 396 397
abbrev TH:=fo (.type "function") 27 3 (vs "changehall.halls" 327) (.ref 177)
abbrev TJ:=tu []
abbrev z35:=fi []
abbrev TK:=tu [vs "hall" 402,vs "one" 403,vs "other" 404]
abbrev TL:=tu []
abbrev z36:=fo .none 28 0 .none .none
abbrev TM:=co "apart" "/claim/cut.py" 399 400 401 68 3 3 179 true 181 180 .none (.ref 181) (.ref 182) (.ref 183) 405 406
abbrev TN:=fo (.type "function") 28 3 (vs "changehall.halls" 327) (.ref 184)
abbrev TQ:=tu []
abbrev z37:=fi []
abbrev z38:=fo .none 30 0 .none .none
abbrev TR:=co "bridge" "/claim/cut.py" 410 411 412 73 2 3 186 true 181 187 .none .none .none (.ref 188) 413 414
abbrev TU:=fo (.type "function") 30 3 (vs "changehall.whole" 408) (.ref 189)
abbrev TV:=tu []
abbrev z39:=fi []
abbrev TW:=tu [vs "a" 419,vs "part" 420]
abbrev TX:=tu []
abbrev z3a:=fo .none 31 0 .none .none
abbrev TY:=co "rest" "/claim/cut.py" 416 417 418 84 2 3 191 true 181 192 .none (.ref 193) (.ref 194) (.ref 195) 421 422
abbrev TZ:=fo (.type "function") 31 3 (vs "changehall.whole" 408) (.ref 196)
abbrev Ua:=tu []
abbrev z3b:=fi []
abbrev Ub:=tu [vs "numbers" 427,vs "found" 428,vs "number" 429]
abbrev Uc:=tu []
abbrev z3c:=fo .none 32 0 .none .none
abbrev Ud:=co "product" "/claim/cut.py" 424 425 426 88 1 3 198 true 181 199 .none (.ref 200) (.ref 201) (.ref 202) 430 431
abbrev Ue:=fo (.type "function") 32 3 (vs "changehall.whole" 408) (.ref 203)
abbrev Uf:=tu []
abbrev z3d:=fi []
abbrev Ug:=tu [vs "row" 438,vs "rungs" 439,vs "left" 440,vs "counts" 441,vs "rung" 442,vs "spot" 443,vs "often" 444]
abbrev Uh:=tu []
abbrev z3e:=fo .none 34 0 .none .none
abbrev Ui:=co "lowering" "/claim/cut.py" 435 436 437 94 2 3 205 true 181 206 .none (.ref 207) (.ref 208) (.ref 209) 445 446
abbrev Uj:=fo (.type "function") 34 3 (vs "changehall.stairs" 433) (.ref 210)
abbrev Uk:=tu []
abbrev z3f:=fi []
abbrev Ul:=tu [vs "row" 451,vs "rungs" 452]
abbrev Um:=tu []
abbrev z3g:=fo .none 35 0 .none .none
abbrev Uo:=co "lowered" "/claim/cut.py" 448 449 450 104 2 3 212 true 181 213 .none (.ref 214) (.ref 215) (.ref 216) 453 454
abbrev Up:=fo (.type "function") 35 3 (vs "changehall.stairs" 433) (.ref 217)
abbrev Uq:=tu []
abbrev z3h:=fi []
abbrev Ur:=tu [vs "rung" 459,vs "row" 460,vs "spot" 461,vs "found" 462,vs "upper" 463,vs "lower" 464]
abbrev Us:=tu []
abbrev z3i:=fo .none 36 0 .none .none
abbrev Ut:=co "crossed" "/claim/cut.py" 456 457 458 106 2 3 219 true 181 220 .none (.ref 221) (.ref 222) (.ref 223) 465 466
abbrev Uu:=fo (.type "function") 36 3 (vs "changehall.stairs" 433) (.ref 224)
abbrev Uv:=tu []
abbrev z3j:=fi []
abbrev Uw:=tu [vs "row" 471]
abbrev Ux:=tu []
abbrev z3k:=fo .none 37 0 .none .none
abbrev Uy:=co "turned_up" "/claim/cut.py" 468 469 470 112 1 3 226 true 181 227 .none (.ref 228) (.ref 229) (.ref 230) 472 473
abbrev Uz:=fo (.type "function") 37 3 (vs "changehall.stairs" 433) (.ref 231)
abbrev UA:=tu []
abbrev z3l:=fi []
abbrev z3m:=fo .none 38 0 .none .none
abbrev UB:=co "with_row" "/claim/cut.py" 475 476 477 114 2 3 233 true 181 234 .none .none .none (.ref 235) 478 479
abbrev UC:=fo (.type "function") 38 3 (vs "changehall.stairs" 433) (.ref 236)
abbrev UD:=tu []
abbrev z3n:=fi []
abbrev UE:=tu [vs "rungs" 484,vs "found" 485,vs "rung" 486]
abbrev UF:=tu []
abbrev z3o:=fo .none 39 0 .none .none
abbrev UG:=co "evened" "/claim/cut.py" 481 482 483 125 1 3 238 true 181 239 .none (.ref 240) (.ref 241) (.ref 242) 487 488
abbrev UH:=fo (.type "function") 39 3 (vs "changehall.stairs" 433) (.ref 243)
abbrev UI:=tu []
abbrev z3p:=fi []
abbrev UJ:=tu [vs "rows" 493,vs "rungs" 494,vs "row" 495]
abbrev UK:=tu []
abbrev z3q:=fo .none 40 0 .none .none
abbrev UL:=co "climbed" "/claim/cut.py" 490 491 492 130 1 3 245 true 181 246 .none (.ref 247) (.ref 248) (.ref 249) 496 497
abbrev UM:=fo (.type "function") 40 3 (vs "changehall.stairs" 433) (.ref 250)
abbrev t6(P:Params):BT:=ins (t5 P) [(3,o3_6 P),(12,o12_6),(172,TB),(173,z33),(174,TC),(175,TD),(176,z34),(177,TF),(178,TH),(179,TJ),(180,z35),(181,TK),(182,TL),(183,z36),(184,TM),(185,TN),(186,TQ),(187,z37),(188,z38),(189,TR),(190,TU),(191,TV),(192,z39),(193,TW),(194,TX),(195,z3a),(196,TY),(197,TZ),(198,Ua),(199,z3b),(200,Ub),(201,Uc),(202,z3c),(203,Ud),(204,Ue),(205,Uf),(206,z3d),(207,Ug),(208,Uh),(209,z3e),(210,Ui),(211,Uj),(212,Uk),(213,z3f),(214,Ul),(215,Um),(216,z3g),(217,Uo),(218,Up),(219,Uq),(220,z3h),(221,Ur),(222,Us),(223,z3i),(224,Ut),(225,Uu),(226,Uv),(227,z3j),(228,Uw),(229,Ux),(230,z3k),(231,Uy),(232,Uz),(233,UA),(234,z3l),(235,z3m),(236,UB),(237,UC),(238,UD),(239,z3n),(240,UE),(241,UF),(242,z3o),(243,UG),(244,UH),(245,UI),(246,z3p),(247,UJ),(248,UK),(249,z3q),(250,UL),(251,UM)]
abbrev s6(w:World)(os:OsState):SharedT:=⟨t6 w.params,252,{ },#[],{ },499,os⟩
abbrev l5:List Stmt:=[top 27,top 28,top 29,top 30,top 31,top 32,top 33,top 34,top 35,top 36,top 37,top 38,top 39,top 40]
theorem run_5(w:World)(os:OsState):segRunT treeTable pw w 11 ann 1 382 (s5 w os) (piecesOf l5 env cE ⟨64,0,65,35⟩ fB)=some (.next,s6 w os,cE,⟨130,0,134,16⟩):=by
 rewrite[te_sT,te_tb];kernel_rfl
abbrev o3_7L(P:Params):List DictEntry:=de P "__name__" 165 (vs "changehall.tables" 575)::(o3_6L P).tail++[de P "tagged_stair" 504 (.ref 256),de P "tags_at_nought" 510 (.ref 261),de P "stair" 517 (.ref 268),de P "stair_with_uses" 523 (.ref 273),de P "turned" 531 (.ref 278),de P "is_slant" 537 (.ref 283),de P "rests" 543 (.ref 288),de P "slanted" 549 (.ref 293),de P "linked" 562 (.ref 300),de P "chained" 568 (.ref 305),de P "measures" 574 (.ref 310),de P "is_table" 582 (.ref 315),de P "need_table" 591 (.ref 322)]
abbrev o3_7(P:Params):Obj:=⟨.type "dict",none,.dict (o3_7L P).toArray 58,#[]⟩
abbrev z3r:aF:=z32++[.int 135 0,.int 0 0,.ref 255,.int 137 0,.int 0 0,.ref 260,.int 139 0,.int 0 0,.ref 267,.int 141 0,.int 0 0,.ref 272,.int 145 0,.int 0 0,.ref 277,.int 147 0,.int 0 0,.ref 282,.int 152 0,.int 0 0,.ref 287,.int 154 0,.int 0 0,.ref 292,.int 164 0,.int 0 0,.ref 299,.int 171 0,.int 0 0,.ref 304,.int 179 0,.int 0 0,.ref 309,.int 189 0,.int 0 0,.ref 314,.int 193 0,.int 0 0,.ref 321]
abbrev o12_7:=fi z3r
abbrev UN:=tu []
abbrev z3s:=fi []
abbrev z3t:=fo .none 41 0 .none .none
abbrev UO:=co "tagged_stair" "/claim/cut.py" 499 500 501 135 2 3 252 true 181 253 .none .none .none (.ref 254) 502 503
abbrev UP:=fo (.type "function") 41 3 (vs "changehall.stairs" 433) (.ref 255)
abbrev UQ:=tu []
abbrev z3u:=fi []
abbrev z3v:=fo .none 42 0 .none .none
abbrev UR:=co "tags_at_nought" "/claim/cut.py" 505 506 507 137 2 3 257 true 181 258 .none .none .none (.ref 259) 508 509
abbrev US:=fo (.type "function") 42 3 (vs "changehall.stairs" 433) (.ref 260)
abbrev UT:=tu []
abbrev z3w:=fi []
abbrev UU:=tu [vs "hall" 514]
abbrev UV:=tu []
abbrev z3x:=fo .none 43 0 .none .none
abbrev UW:=co "stair" "/claim/cut.py" 511 512 513 139 1 3 262 true 181 263 .none (.ref 264) (.ref 265) (.ref 266) 515 516
abbrev UX:=fo (.type "function") 43 3 (vs "changehall.stairs" 433) (.ref 267)
abbrev UY:=tu []
abbrev z3y:=fi []
abbrev z3z:=fo .none 44 0 .none .none
abbrev UZ:=co "stair_with_uses" "/claim/cut.py" 518 519 520 141 1 3 269 true 181 270 .none .none .none (.ref 271) 521 522
abbrev Va:=fo (.type "function") 44 3 (vs "changehall.stairs" 433) (.ref 272)
abbrev Vb:=tu []
abbrev z3A:=fi []
abbrev z3B:=fo .none 46 0 .none .none
abbrev Vc:=co "turned" "/claim/cut.py" 526 527 528 145 2 3 274 true 181 275 .none .none .none (.ref 276) 529 530
abbrev Vd:=fo (.type "function") 46 3 (vs "changehall.grids" 524) (.ref 277)
abbrev Ve:=tu []
abbrev z3C:=fi []
abbrev z3D:=fo .none 47 0 .none .none
abbrev Vf:=co "is_slant" "/claim/cut.py" 532 533 534 147 1 3 279 true 181 280 .none .none .none (.ref 281) 535 536
abbrev Vg:=fo (.type "function") 47 3 (vs "changehall.grids" 524) (.ref 282)
abbrev Vh:=tu []
abbrev z3E:=fi []
abbrev z3F:=fo .none 48 0 .none .none
abbrev Vi:=co "rests" "/claim/cut.py" 538 539 540 152 2 3 284 true 181 285 .none .none .none (.ref 286) 541 542
abbrev Vj:=fo (.type "function") 48 3 (vs "changehall.grids" 524) (.ref 287)
abbrev Vk:=tu []
abbrev z3G:=fi []
abbrev z3H:=fo .none 49 0 .none .none
abbrev Vl:=co "slanted" "/claim/cut.py" 544 545 546 154 3 3 289 true 181 290 .none .none .none (.ref 291) 547 548
abbrev Vm:=fo (.type "function") 49 3 (vs "changehall.grids" 524) (.ref 292)
abbrev Vn:=tu []
abbrev z3I:=fi []
abbrev Vo:=tu [vs "one" 553,vs "other" 554,vs "found" 555,vs "common" 556,vs "least" 557,vs "upper" 558,vs "lower" 559]
abbrev Vp:=tu []
abbrev z3J:=fo .none 50 0 .none .none
abbrev Vq:=co "linked" "/claim/cut.py" 550 551 552 164 2 3 294 true 181 295 .none (.ref 296) (.ref 297) (.ref 298) 560 561
abbrev Vr:=fo (.type "function") 50 3 (vs "changehall.grids" 524) (.ref 299)
abbrev Vs:=tu []
abbrev z3K:=fi []
abbrev z3L:=fo .none 51 0 .none .none
abbrev Vt:=co "chained" "/claim/cut.py" 563 564 565 171 1 3 301 true 181 302 .none .none .none (.ref 303) 566 567
abbrev Vu:=fo (.type "function") 51 3 (vs "changehall.grids" 524) (.ref 304)
abbrev Vv:=tu []
abbrev z3M:=fi []
abbrev z3N:=fo .none 52 0 .none .none
abbrev Vw:=co "measures" "/claim/cut.py" 569 570 571 179 1 3 306 true 181 307 .none .none .none (.ref 308) 572 573
abbrev Vx:=fo (.type "function") 52 3 (vs "changehall.grids" 524) (.ref 309)
abbrev Vy:=tu []
abbrev z3O:=fi []
abbrev z3P:=fo .none 54 0 .none .none
abbrev Vz:=co "is_table" "/claim/cut.py" 577 578 579 189 3 3 311 true 181 312 .none .none .none (.ref 313) 580 581
abbrev VA:=fo (.type "function") 54 3 (vs "changehall.tables" 575) (.ref 314)
abbrev VB:=tu []
abbrev z3Q:=fi []
abbrev VC:=tu [vs "one" 586,vs "table" 587,vs "other" 588]
abbrev VD:=tu []
abbrev z3R:=fo .none 55 0 .none .none
abbrev VE:=co "need_table" "/claim/cut.py" 583 584 585 193 3 3 316 true 181 317 .none (.ref 318) (.ref 319) (.ref 320) 589 590
abbrev VF:=fo (.type "function") 55 3 (vs "changehall.tables" 575) (.ref 321)
abbrev t7(P:Params):BT:=ins (t6 P) [(3,o3_7 P),(12,o12_7),(252,UN),(253,z3s),(254,z3t),(255,UO),(256,UP),(257,UQ),(258,z3u),(259,z3v),(260,UR),(261,US),(262,UT),(263,z3w),(264,UU),(265,UV),(266,z3x),(267,UW),(268,UX),(269,UY),(270,z3y),(271,z3z),(272,UZ),(273,Va),(274,Vb),(275,z3A),(276,z3B),(277,Vc),(278,Vd),(279,Ve),(280,z3C),(281,z3D),(282,Vf),(283,Vg),(284,Vh),(285,z3E),(286,z3F),(287,Vi),(288,Vj),(289,Vk),(290,z3G),(291,z3H),(292,Vl),(293,Vm),(294,Vn),(295,z3I),(296,Vo),(297,Vp),(298,z3J),(299,Vq),(300,Vr),(301,Vs),(302,z3K),(303,z3L),(304,Vt),(305,Vu),(306,Vv),(307,z3M),(308,z3N),(309,Vw),(310,Vx),(311,Vy),(312,z3O),(313,z3P),(314,Vz),(315,VA),(316,VB),(317,z3Q),(318,VC),(319,VD),(320,z3R),(321,VE),(322,VF)]
abbrev s7(w:World)(os:OsState):SharedT:=⟨t7 w.params,323,{ },#[],{ },592,os⟩
abbrev l6:List Stmt:=[top 41,top 42,top 43,top 44,top 45,top 46,top 47,top 48,top 49,top 50,top 51,top 52,top 53,top 54,top 55]
theorem run_6(w:World)(os:OsState):segRunT treeTable pw w 11 ann 1 374 (s6 w os) (piecesOf l6 env cE ⟨130,0,134,16⟩ fB)=some (.next,s7 w os,cE,⟨193,0,195,102⟩):=by
 rewrite[te_sT,te_tb];kernel_rfl
abbrev o3_8L(P:Params):List DictEntry:=de P "__name__" 165 (vs "law_changehall_k26_whole_pulled" 689)::(o3_7L P).tail++[de P "carried" 600 (.ref 329),de P "sound" 606 (.ref 334),de P "pulled" 612 (.ref 339),de P "plan" 623 (.ref 346),de P "settled" 634 (.ref 353),de P "scales" 642 (.ref 358),de P "tilt" 650 (.ref 365),de P "measured_scale" 658 (.ref 372),de P "denial" 670 (.ref 379),de P "need_like" 680 (.ref 386),de P "joined" 688 (.ref 393),de P "_law_cell_at" 698 (.ref 400)]
abbrev o3_8(P:Params):Obj:=⟨.type "dict",none,.dict (o3_8L P).toArray 70,#[]⟩
abbrev z3S:aF:=z3r++[.int 196 0,.int 0 0,.ref 328,.int 199 0,.int 0 0,.ref 333,.int 203 0,.int 0 0,.ref 338,.int 210 0,.int 0 0,.ref 345,.int 212 0,.int 0 0,.ref 352,.int 219 0,.int 0 0,.ref 357,.int 221 0,.int 0 0,.ref 364,.int 223 0,.int 0 0,.ref 371,.int 225 0,.int 0 0,.ref 378,.int 233 0,.int 0 0,.ref 385,.int 236 0,.int 0 0,.ref 392,.int 240 0,.int 0 0,.ref 399]
abbrev o12_8:=fi z3S
abbrev VG:=tu []
abbrev z3T:=fi []
abbrev VH:=tu [vs "table" 595,vs "basket" 596,vs "kinds" 597]
abbrev VI:=tu []
abbrev z3U:=fo .none 56 0 .none .none
abbrev VJ:=co "carried" "/claim/cut.py" 592 593 594 196 3 3 323 true 181 324 .none (.ref 325) (.ref 326) (.ref 327) 598 599
abbrev VL:=fo (.type "function") 56 3 (vs "changehall.tables" 575) (.ref 328)
abbrev VM:=tu []
abbrev z3V:=fi []
abbrev z3W:=fo .none 57 0 .none .none
abbrev VN:=co "sound" "/claim/cut.py" 601 602 603 199 3 3 330 true 181 331 .none .none .none (.ref 332) 604 605
abbrev VO:=fo (.type "function") 57 3 (vs "changehall.tables" 575) (.ref 333)
abbrev VP:=tu []
abbrev z3X:=fi []
abbrev z3Y:=fo .none 58 0 .none .none
abbrev VQ:=co "pulled" "/claim/cut.py" 607 608 609 203 3 3 335 true 181 336 .none .none .none (.ref 337) 610 611
abbrev VR:=fo (.type "function") 58 3 (vs "changehall.tables" 575) (.ref 338)
abbrev VS:=tu []
abbrev z3Z:=fi []
abbrev VT:=tu [vs "hall" 618,vs "one" 619,vs "other" 620]
abbrev VU:=tu []
abbrev z40:=fo .none 60 0 .none .none
abbrev VV:=co "plan" "/claim/cut.py" 615 616 617 210 3 3 340 true 181 341 .none (.ref 342) (.ref 343) (.ref 344) 621 622
abbrev VW:=fo (.type "function") 60 3 (vs "changehall.plans" 613) (.ref 345)
abbrev VX:=tu []
abbrev z41:=fi []
abbrev VY:=tu [vs "hall" 627,vs "one" 628,vs "other" 629,vs "back" 630,vs "left" 631]
abbrev VZ:=tu []
abbrev z42:=fo .none 61 0 .none .none
abbrev Wa:=co "settled" "/claim/cut.py" 624 625 626 212 3 3 347 true 181 348 .none (.ref 349) (.ref 350) (.ref 351) 632 633
abbrev Wb:=fo (.type "function") 61 3 (vs "changehall.plans" 613) (.ref 352)
abbrev Wc:=tu []
abbrev z43:=fi []
abbrev z44:=fo .none 63 0 .none .none
abbrev Wd:=co "scales" "/claim/cut.py" 637 638 639 219 1 3 354 true 181 355 .none .none .none (.ref 356) 640 641
abbrev We:=fo (.type "function") 63 3 (vs "changehall.scales" 635) (.ref 357)
abbrev Wf:=tu []
abbrev z45:=fi []
abbrev Wg:=tu [vs "way" 646,vs "scale" 647]
abbrev Wh:=tu []
abbrev z46:=fo .none 64 0 .none .none
abbrev Wj:=co "tilt" "/claim/cut.py" 643 644 645 221 2 3 359 true 181 360 .none (.ref 361) (.ref 362) (.ref 363) 648 649
abbrev Wk:=fo (.type "function") 64 3 (vs "changehall.scales" 635) (.ref 364)
abbrev Wl:=tu []
abbrev z47:=fi []
abbrev Wm:=tu [vs "scale" 654,vs "found" 655]
abbrev Wn:=tu []
abbrev z48:=fo .none 65 0 .none .none
abbrev Wo:=co "measured_scale" "/claim/cut.py" 651 652 653 223 2 3 366 true 181 367 .none (.ref 368) (.ref 369) (.ref 370) 656 657
abbrev Wp:=fo (.type "function") 65 3 (vs "changehall.scales" 635) (.ref 371)
abbrev Wq:=tu []
abbrev z49:=fi []
abbrev Wr:=tu [vs "hall" 662,vs "one" 663,vs "other" 664,vs "way" 665,vs "scale" 666,vs "found" 667]
abbrev Ws:=tu []
abbrev z4a:=fo .none 66 0 .none .none
abbrev Wt:=co "denial" "/claim/cut.py" 659 660 661 225 3 3 373 true 181 374 .none (.ref 375) (.ref 376) (.ref 377) 668 669
abbrev Wu:=fo (.type "function") 66 3 (vs "changehall.scales" 635) (.ref 378)
abbrev Wv:=tu []
abbrev z4b:=fi []
abbrev Ww:=tu [vs "one" 676,vs "other" 677]
abbrev Wx:=tu []
abbrev z4c:=fo .none 68 0 .none .none
abbrev Wy:=co "need_like" "/claim/cut.py" 673 674 675 233 2 3 380 true 181 381 .none (.ref 382) (.ref 383) (.ref 384) 678 679
abbrev Wz:=fo (.type "function") 68 3 (vs "changehall.several" 671) (.ref 385)
abbrev WA:=tu []
abbrev z4d:=fi []
abbrev WB:=tu [vs "one" 684,vs "other" 685]
abbrev WD:=tu []
abbrev z4e:=fo .none 69 0 .none .none
abbrev WE:=co "joined" "/claim/cut.py" 681 682 683 236 2 3 387 true 181 388 .none (.ref 389) (.ref 390) (.ref 391) 686 687
abbrev WG:=fo (.type "function") 69 3 (vs "changehall.several" 671) (.ref 392)
abbrev WH:=tu []
abbrev z4f:=fi []
abbrev WI:=tu [vs "_law_script" 694,vs "_law_k" 695]
abbrev WJ:=tu []
abbrev z4g:=fo .none 71 0 .none .none
abbrev WK:=co "_law_cell_at" "/claim/cut.py" 691 692 693 240 2 3 394 true 181 395 .none (.ref 396) (.ref 397) (.ref 398) 696 697
abbrev WL:=fo (.type "function") 71 3 (vs "law_changehall_k26_whole_pulled" 689) (.ref 399)
abbrev t8(P:Params):BT:=ins (t7 P) [(3,o3_8 P),(12,o12_8),(323,VG),(324,z3T),(325,VH),(326,VI),(327,z3U),(328,VJ),(329,VL),(330,VM),(331,z3V),(332,z3W),(333,VN),(334,VO),(335,VP),(336,z3X),(337,z3Y),(338,VQ),(339,VR),(340,VS),(341,z3Z),(342,VT),(343,VU),(344,z40),(345,VV),(346,VW),(347,VX),(348,z41),(349,VY),(350,VZ),(351,z42),(352,Wa),(353,Wb),(354,Wc),(355,z43),(356,z44),(357,Wd),(358,We),(359,Wf),(360,z45),(361,Wg),(362,Wh),(363,z46),(364,Wj),(365,Wk),(366,Wl),(367,z47),(368,Wm),(369,Wn),(370,z48),(371,Wo),(372,Wp),(373,Wq),(374,z49),(375,Wr),(376,Ws),(377,z4a),(378,Wt),(379,Wu),(380,Wv),(381,z4b),(382,Ww),(383,Wx),(384,z4c),(385,Wy),(386,Wz),(387,WA),(388,z4d),(389,WB),(390,WD),(391,z4e),(392,WE),(393,WG),(394,WH),(395,z4f),(396,WI),(397,WJ),(398,z4g),(399,WK),(400,WL)]
abbrev s8(w:World)(os:OsState):SharedT:=⟨t8 w.params,401,{ },#[],{ },699,os⟩
abbrev l7:List Stmt:=[top 56,top 57,top 58,top 59,top 60,top 61,top 62,top 63,top 64,top 65,top 66,top 67,top 68,top 69,top 70,top 71]
theorem run_7(w:World)(os:OsState):segRunT treeTable pw w 11 ann 1 394 (s7 w os) (piecesOf l7 env cE ⟨193,0,195,102⟩ fB)=some (.next,s8 w os,cE,⟨240,0,245,63⟩):=by
 rewrite[te_sT,te_tb];kernel_rfl
abbrev o3_9L(P:Params):List DictEntry:=de P "__name__" 165 (vs "law_changehall_k26_whole_pulled" 689)::(o3_8L P).tail++[de P "_law_whole" 705 (.ref 407),de P "_law_is_row" 714 (.ref 414),de P "_law_number" 724 (.ref 421),de P "_law_row" 730 (.ref 426),de P "_law_sum" 736 (.ref 431),de P "_law_plus" 742 (.ref 436),de P "_law_heavy" 752 (.ref 443),de P "_law_leads" 762 (.ref 450),de P "_law_denies" 773 (.ref 457),de P "_law_two" 779 (.ref 462),de P "_law_copied" 785 (.ref 467),de P "_law_same" 797 (.ref 474),de P "_law_sound" 803 (.ref 479)]
abbrev o3_9(P:Params):Obj:=⟨.type "dict",none,.dict (o3_9L P).toArray 83,#[]⟩
abbrev z4h:aF:=z3S++[.int 246 0,.int 0 0,.ref 406,.int 248 0,.int 0 0,.ref 413,.int 255 0,.int 0 0,.ref 420,.int 266 0,.int 0 0,.ref 425,.int 268 0,.int 0 0,.ref 430,.int 273 0,.int 0 0,.ref 435,.int 275 0,.int 0 0,.ref 442,.int 280 0,.int 0 0,.ref 449,.int 284 0,.int 0 0,.ref 456,.int 293 0,.int 0 0,.ref 461,.int 313 0,.int 0 0,.ref 466,.int 315 0,.int 0 0,.ref 473,.int 323 0,.int 0 0,.ref 478]
abbrev o12_9:=fi z4h
abbrev WM:=tu []
abbrev z4i:=fi []
abbrev WN:=tu [vs "_law_found" 702]
abbrev WO:=tu []
abbrev z4j:=fo .none 72 0 .none .none
abbrev WP:=co "_law_whole" "/claim/cut.py" 699 700 701 246 1 3 401 true 181 402 .none (.ref 403) (.ref 404) (.ref 405) 703 704
abbrev WQ:=fo (.type "function") 72 3 (vs "law_changehall_k26_whole_pulled" 689) (.ref 406)
abbrev WR:=tu []
abbrev z4k:=fi []
abbrev WS:=tu [vs "_law_found" 709,vs "_law_size" 710,vs "_law_number_here" 711]
abbrev WT:=tu []
abbrev z4l:=fo .none 73 0 .none .none
abbrev WU:=co "_law_is_row" "/claim/cut.py" 706 707 708 248 2 3 408 true 181 409 .none (.ref 410) (.ref 411) (.ref 412) 712 713
abbrev WV:=fo (.type "function") 73 3 (vs "law_changehall_k26_whole_pulled" 689) (.ref 413)
abbrev WW:=tu []
abbrev z4m:=fi []
abbrev WX:=tu [vs "_law_cell" 718,vs "_law_mode" 719,vs "_law_number_here" 720,vs "_law_wide" 721]
abbrev WY:=tu []
abbrev z4n:=fo .none 74 0 .none .none
abbrev WZ:=co "_law_number" "/claim/cut.py" 715 716 717 255 2 3 415 true 181 416 .none (.ref 417) (.ref 418) (.ref 419) 722 723
abbrev Xa:=fo (.type "function") 74 3 (vs "law_changehall_k26_whole_pulled" 689) (.ref 420)
abbrev Xb:=tu []
abbrev z4o:=fi []
abbrev z4p:=fo .none 75 0 .none .none
abbrev Xc:=co "_law_row" "/claim/cut.py" 725 726 727 266 4 3 422 true 181 423 .none .none .none (.ref 424) 728 729
abbrev Xd:=fo (.type "function") 75 3 (vs "law_changehall_k26_whole_pulled" 689) (.ref 425)
abbrev Xe:=tu []
abbrev z4q:=fi []
abbrev z4r:=fo .none 76 0 .none .none
abbrev Xf:=co "_law_sum" "/claim/cut.py" 731 732 733 268 3 3 427 true 181 428 .none .none .none (.ref 429) 734 735
abbrev Xg:=fo (.type "function") 76 3 (vs "law_changehall_k26_whole_pulled" 689) (.ref 430)
abbrev Xh:=tu []
abbrev z4s:=fi []
abbrev z4t:=fo .none 77 0 .none .none
abbrev Xi:=co "_law_plus" "/claim/cut.py" 737 738 739 273 3 3 432 true 181 433 .none .none .none (.ref 434) 740 741
abbrev Xj:=fo (.type "function") 77 3 (vs "law_changehall_k26_whole_pulled" 689) (.ref 435)
abbrev Xk:=tu []
abbrev z4u:=fi []
abbrev Xl:=tu [vs "_law_weights" 746,vs "_law_row_here" 747,vs "_law_made" 748,vs "_law_k" 749]
abbrev Xm:=tu []
abbrev z4v:=fo .none 78 0 .none .none
abbrev Xn:=co "_law_heavy" "/claim/cut.py" 743 744 745 275 2 3 437 true 181 438 .none (.ref 439) (.ref 440) (.ref 441) 750 751
abbrev Xo:=fo (.type "function") 78 3 (vs "law_changehall_k26_whole_pulled" 689) (.ref 442)
abbrev Xp:=tu []
abbrev z4w:=fi []
abbrev Xq:=tu [vs "_law_bills" 756,vs "_law_one" 757,vs "_law_other" 758,vs "_law_uses" 759]
abbrev Xr:=tu []
abbrev z4x:=fo .none 79 0 .none .none
abbrev Xs:=co "_law_leads" "/claim/cut.py" 753 754 755 280 4 3 444 true 181 445 .none (.ref 446) (.ref 447) (.ref 448) 760 761
abbrev Xu:=fo (.type "function") 79 3 (vs "law_changehall_k26_whole_pulled" 689) (.ref 449)
abbrev Xv:=tu []
abbrev z4y:=fi []
abbrev Xw:=tu [vs "_law_bills" 766,vs "_law_one" 767,vs "_law_other" 768,vs "_law_scale" 769,vs "_law_bill" 770]
abbrev Xx:=tu []
abbrev z4z:=fo .none 80 0 .none .none
abbrev Xy:=co "_law_denies" "/claim/cut.py" 763 764 765 284 4 3 451 true 181 452 .none (.ref 453) (.ref 454) (.ref 455) 771 772
abbrev Xz:=fo (.type "function") 80 3 (vs "law_changehall_k26_whole_pulled" 689) (.ref 456)
abbrev XA:=tu []
abbrev z4A:=fi []
abbrev z4B:=fo .none 81 0 .none .none
abbrev XB:=co "_law_two" "/claim/cut.py" 774 775 776 293 1 3 458 true 181 459 .none .none .none (.ref 460) 777 778
abbrev XC:=fo (.type "function") 81 3 (vs "law_changehall_k26_whole_pulled" 689) (.ref 461)
abbrev XD:=tu []
abbrev z4C:=fi []
abbrev z4D:=fo .none 82 0 .none .none
abbrev XE:=co "_law_copied" "/claim/cut.py" 780 781 782 313 1 3 463 true 181 464 .none .none .none (.ref 465) 783 784
abbrev XF:=fo (.type "function") 82 3 (vs "law_changehall_k26_whole_pulled" 689) (.ref 466)
abbrev XG:=tu []
abbrev z4E:=fi []
abbrev XH:=tu [vs "_law_hall" 789,vs "_law_bills" 790,vs "_law_one" 791,vs "_law_other" 792,vs "_law_uses" 793,vs "_law_scale" 794]
abbrev XI:=tu []
abbrev z4F:=fo .none 83 0 .none .none
abbrev XJ:=co "_law_same" "/claim/cut.py" 786 787 788 315 4 3 468 true 181 469 .none (.ref 470) (.ref 471) (.ref 472) 795 796
abbrev XM:=fo (.type "function") 83 3 (vs "law_changehall_k26_whole_pulled" 689) (.ref 473)
abbrev XO:=tu []
abbrev z4G:=fi []
abbrev z4H:=fo .none 84 0 .none .none
abbrev XQ:=co "_law_sound" "/claim/cut.py" 798 799 800 323 4 3 475 true 181 476 .none .none .none (.ref 477) 801 802
abbrev XR:=fo (.type "function") 84 3 (vs "law_changehall_k26_whole_pulled" 689) (.ref 478)
abbrev t9(P:Params):BT:=ins (t8 P) [(3,o3_9 P),(12,o12_9),(401,WM),(402,z4i),(403,WN),(404,WO),(405,z4j),(406,WP),(407,WQ),(408,WR),(409,z4k),(410,WS),(411,WT),(412,z4l),(413,WU),(414,WV),(415,WW),(416,z4m),(417,WX),(418,WY),(419,z4n),(420,WZ),(421,Xa),(422,Xb),(423,z4o),(424,z4p),(425,Xc),(426,Xd),(427,Xe),(428,z4q),(429,z4r),(430,Xf),(431,Xg),(432,Xh),(433,z4s),(434,z4t),(435,Xi),(436,Xj),(437,Xk),(438,z4u),(439,Xl),(440,Xm),(441,z4v),(442,Xn),(443,Xo),(444,Xp),(445,z4w),(446,Xq),(447,Xr),(448,z4x),(449,Xs),(450,Xu),(451,Xv),(452,z4y),(453,Xw),(454,Xx),(455,z4z),(456,Xy),(457,Xz),(458,XA),(459,z4A),(460,z4B),(461,XB),(462,XC),(463,XD),(464,z4C),(465,z4D),(466,XE),(467,XF),(468,XG),(469,z4E),(470,XH),(471,XI),(472,z4F),(473,XJ),(474,XM),(475,XO),(476,z4G),(477,z4H),(478,XQ),(479,XR)]
abbrev s9(w:World)(os:OsState):SharedT:=⟨t9 w.params,480,{ },#[],{ },804,os⟩
abbrev l8:List Stmt:=[top 72,top 73,top 74,top 75,top 76,top 77,top 78,top 79,top 80,top 81,top 82,top 83,top 84]
theorem run_8(w:World)(os:OsState):segRunT treeTable pw w 11 ann 1 380 (s8 w os) (piecesOf l8 env cE ⟨240,0,245,63⟩ fB)=some (.next,s9 w os,cE,⟨323,0,331,21⟩):=by
 rewrite[te_sT,te_tb];kernel_rfl
abbrev o3_10L(P:Params):List DictEntry:=de P "__name__" 165 (vs "law_changehall_k26_whole_pulled" 689)::(o3_9L P).tail++[de P "law" 809 (.ref 484)]
abbrev z4I(P:Params):Obj:=⟨.type "dict",none,.dict (o3_10L P).toArray 84,#[]⟩
abbrev z5V:aF:=z4h++[.int 332 0,.int 0 0,.ref 483]
abbrev z4J:=fi z5V
abbrev OC:=tu []
abbrev YL:=fi []
abbrev YM:=fo .none 85 0 .none .none
abbrev OD:=co "law" "/claim/cut.py" 804 805 806 332 1 3 480 true 181 481 .none .none .none (.ref 482) 807 808
abbrev OE:=fo (.type "function") 85 3 (vs "law_changehall_k26_whole_pulled" 689) (.ref 483)
abbrev t10(P:Params):BT:=ins (t9 P) [(3,z4I P),(12,z4J),(480,OC),(481,YL),(482,YM),(483,OD),(484,OE)]
abbrev s10(w:World)(os:OsState):SharedT:=⟨t10 w.params,485,{ },#[],{ },810,os⟩
abbrev l9:List Stmt:=[top 85]
theorem run_9(w:World)(os:OsState):segRunT treeTable pw w 11 ann 1 27 (s9 w os) (piecesOf l9 env cE ⟨323,0,331,21⟩ fB)=some (.next,s10 w os,cE,⟨332,0,359,62⟩):=by
 rewrite[te_sT,te_tb];kernel_rfl
def h1(P:Params):Heap:=⟨⟨[boot_o_0 P,boot_o_1 P,boot_o_2 P,z4I P,boot_o_4 P,boot_o_5 P,boot_o_6 P,boot_o_7 P,boot_o_8 P,boot_o_9 P,boot_o_10 P,o11a,z4J,o13a,o14a,z1Z,o16_1,o17_1 P,o18_1,o19_1,o20_1,o21_1,z20,z21 P,z2e,z22,o26_1,o27_1,z24,o29_2,o30_2 P,o31_2,o32_2,o33_2,o34_2,z25,z26 P,z27,o38_2,o39_2,z29,o41_3,o42_3 P,o43_3,o44_3,o45_3,o46_3,z2a,z2b P,z2c,o50_3,o51_3,z2f,o53_4,o54_4 P,o55_4,o56_4,o57_4,o58_4,z2g,z2h P,z2i,o62_4,o63_4,z2j,o65_4,z2k,z2l,o68_4,z2m,z2n,z2o,o72_4,o73_4,z2p,z2q,z2r,o77_4,o78_4,z2s,z2t,z2u,o82_4,o83_4,z2v,z2w,z2x,o87_4,o88_4,z2y,z2z,z2A,o92_4,o93_4,z2B,z2C,z2E,o97_5,o98_5,z2F,Sx,Sy,z2G,z2H,SA,SB,SC,z2I,SD,SE,z2J,SG,SH,SI,z2K,SJ,SK,z2L,SL,SM,SN,z2M,SO,SQ,z2N,SR,SS,SU,z2O,z2P,SV,SW,SX,z2Q,SY,SZ,z2R,Ta,Tb,Tc,z2S,Td,Te,z2T,Tf,Th,Ti,z2U,Tj,Tk,z2V,Tl,Tm,Tn,z2W,z2X,To,Tp,Tq,z2Y,Tr,Ts,z2Z,Tt,Tu,Tv,z30,Tw,Tx,z31,Ty,Tz,TB,z33,TC,TD,z34,TF,TH,TJ,z35,TK,TL,z36,TM,TN,TQ,z37,z38,TR,TU,TV,z39,TW,TX,z3a,TY,TZ,Ua,z3b,Ub,Uc,z3c,Ud,Ue,Uf,z3d,Ug,Uh,z3e,Ui,Uj,Uk,z3f,Ul,Um,z3g,Uo,Up,Uq,z3h,Ur,Us,z3i,Ut,Uu,Uv,z3j,Uw,Ux,z3k,Uy,Uz,UA,z3l,z3m,UB,UC,UD,z3n,UE,UF,z3o,UG,UH,UI,z3p,UJ,UK,z3q,UL,UM,UN,z3s,z3t,UO,UP,UQ,z3u,z3v,UR,US,UT,z3w,UU,UV,z3x,UW,UX,UY,z3y,z3z,UZ,Va,Vb,z3A,z3B,Vc,Vd,Ve,z3C,z3D,Vf,Vg,Vh,z3E,z3F,Vi,Vj,Vk,z3G,z3H,Vl,Vm,Vn,z3I,Vo,Vp,z3J,Vq,Vr,Vs,z3K,z3L,Vt,Vu,Vv,z3M,z3N,Vw,Vx,Vy,z3O,z3P,Vz,VA,VB,z3Q,VC,VD,z3R,VE,VF,VG,z3T,VH,VI,z3U,VJ,VL,VM,z3V,z3W,VN,VO,VP,z3X,z3Y,VQ,VR,VS,z3Z,VT,VU,z40,VV,VW,VX,z41,VY,VZ,z42,Wa,Wb,Wc,z43,z44,Wd,We,Wf,z45,Wg,Wh,z46,Wj,Wk,Wl,z47,Wm,Wn,z48,Wo,Wp,Wq,z49,Wr,Ws,z4a,Wt,Wu,Wv,z4b,Ww,Wx,z4c,Wy,Wz,WA,z4d,WB,WD,z4e,WE,WG,WH,z4f,WI,WJ,z4g,WK,WL,WM,z4i,WN,WO,z4j,WP,WQ,WR,z4k,WS,WT,z4l,WU,WV,WW,z4m,WX,WY,z4n,WZ,Xa,Xb,z4o,z4p,Xc,Xd,Xe,z4q,z4r,Xf,Xg,Xh,z4s,z4t,Xi,Xj,Xk,z4u,Xl,Xm,z4v,Xn,Xo,Xp,z4w,Xq,Xr,z4x,Xs,Xu,Xv,z4y,Xw,Xx,z4z,Xy,Xz,XA,z4A,z4B,XB,XC,XD,z4C,z4D,XE,XF,XG,z4E,XH,XI,z4F,XJ,XM,XO,z4G,z4H,XQ,XR,OC,YL,YM,OD,OE]⟩,{ }⟩
abbrev v7:Drawn:={ }
theorem run_z(w:World)(os:OsState):topRun treeTable pw w 11 ann 2 (s10 w os).abs ⟨doneF .next,cE,⟨332,0,359,62⟩,fB⟩=some ⟨h1 w.params,#[],v7,810,os⟩:=by
 rewrite[te_tr,te_tb];kernel_rfl
theorem z5W:behindTheImports pw=(l0++(l1++(l2++(l3++(l4++(l5++(l6++(l7++(l8++(l9++[])))))))))):=by kernel_rfl
theorem run_all(w:World)(os:OsState):topRun treeTable pw w 11 ann (12+(1+(196+(214+(214+(382+(376+(382+(374+(394+(380+(27+2)))))))))))) ⟨boot_heap w.params,#[],boot_drawn,boot_toks,os⟩ (topStub pw)=some ⟨h1 w.params,#[],v7,810,os⟩ :=
 go_top (run_a w os) (piece_block (env:=env) (run_b w os) (by rw[z5W];exact(piece_app (segRun_of (run_0 w os)) (piece_app (segRun_of (run_1 w os)) (piece_app (segRun_of (run_2 w os)) (piece_app (segRun_of (run_3 w os)) (piece_app (segRun_of (run_4 w os)) (piece_app (segRun_of (run_5 w os)) (piece_app (segRun_of (run_6 w os)) (piece_app (segRun_of (run_7 w os)) (piece_app (segRun_of (run_8 w os)) (piece_app (segRun_of (run_9 w os)) (run_z w os)))))))))))))
abbrev keep:List Nat:=[1,2,3,4,6,7,8,9,10,11,12,13,14,15,17,18,19,20,21,22,23,24,25,26,27,28,30,31,32,34,35,36,37,38,39,40,41,42,43,44,46,47,48,49,50,51,52,54,55,56,57,58,60,61,63,64,65,66,68,69,71,72,73,74,75,76,77,78,79,80,81,82,83,84,85]
def K:Params->PySem.W.Frag:=λP=>(nat_lit 2,boot_o_2 P)::(nat_lit 3,z4I P)::(nat_lit 15,z1Z)::(nat_lit 22,z20)::(nat_lit 23,z21 P)::(nat_lit 24,z2e)::(nat_lit 25,z22)::(nat_lit 28,z24)::(nat_lit 35,z25)::(nat_lit 36,z26 P)::(nat_lit 37,z27)::(nat_lit 40,z29)::(nat_lit 47,z2a)::(nat_lit 48,z2b P)::(nat_lit 49,z2c)::(nat_lit 52,z2f)::(nat_lit 59,z2g)::(nat_lit 60,z2h P)::(nat_lit 61,z2i)::(nat_lit 64,z2j)::(nat_lit 66,z2k)::(nat_lit 67,z2l)::(nat_lit 69,z2m)::(nat_lit 70,z2n)::(nat_lit 71,z2o)::(nat_lit 74,z2p)::(nat_lit 75,z2q)::(nat_lit 76,z2r)::(nat_lit 79,z2s)::(nat_lit 80,z2t)::(nat_lit 81,z2u)::(nat_lit 84,z2v)::(nat_lit 85,z2w)::(nat_lit 86,z2x)::(nat_lit 89,z2y)::(nat_lit 90,z2z)::(nat_lit 91,z2A)::(nat_lit 94,z2B)::(nat_lit 95,z2C)::(nat_lit 96,z2E)::(nat_lit 99,z2F)::(nat_lit 100,Sx)::(nat_lit 101,Sy)::(nat_lit 104,SA)::(nat_lit 105,SB)::(nat_lit 106,SC)::(nat_lit 108,SD)::(nat_lit 109,SE)::(nat_lit 111,SG)::(nat_lit 112,SH)::(nat_lit 113,SI)::(nat_lit 115,SJ)::(nat_lit 116,SK)::(nat_lit 118,SL)::(nat_lit 119,SM)::(nat_lit 120,SN)::(nat_lit 122,SO)::(nat_lit 123,SQ)::(nat_lit 125,SR)::(nat_lit 126,SS)::(nat_lit 127,SU)::(nat_lit 130,SV)::(nat_lit 131,SW)::(nat_lit 132,SX)::(nat_lit 134,SY)::(nat_lit 135,SZ)::(nat_lit 137,Ta)::(nat_lit 138,Tb)::(nat_lit 139,Tc)::(nat_lit 141,Td)::(nat_lit 142,Te)::(nat_lit 144,Tf)::(nat_lit 145,Th)::(nat_lit 146,Ti)::(nat_lit 148,Tj)::(nat_lit 149,Tk)::(nat_lit 151,Tl)::(nat_lit 152,Tm)::(nat_lit 153,Tn)::(nat_lit 156,To)::(nat_lit 157,Tp)::(nat_lit 158,Tq)::(nat_lit 160,Tr)::(nat_lit 161,Ts)::(nat_lit 163,Tt)::(nat_lit 164,Tu)::(nat_lit 165,Tv)::(nat_lit 167,Tw)::(nat_lit 168,Tx)::(nat_lit 170,Ty)::(nat_lit 171,Tz)::(nat_lit 172,TB)::(nat_lit 174,TC)::(nat_lit 175,TD)::(nat_lit 177,TF)::(nat_lit 178,TH)::(nat_lit 179,TJ)::(nat_lit 181,TK)::(nat_lit 182,TL)::(nat_lit 184,TM)::(nat_lit 185,TN)::(nat_lit 186,TQ)::(nat_lit 189,TR)::(nat_lit 190,TU)::(nat_lit 191,TV)::(nat_lit 193,TW)::(nat_lit 194,TX)::(nat_lit 196,TY)::(nat_lit 197,TZ)::(nat_lit 198,Ua)::(nat_lit 200,Ub)::(nat_lit 201,Uc)::(nat_lit 203,Ud)::(nat_lit 204,Ue)::(nat_lit 205,Uf)::(nat_lit 207,Ug)::(nat_lit 208,Uh)::(nat_lit 210,Ui)::(nat_lit 211,Uj)::(nat_lit 212,Uk)::(nat_lit 214,Ul)::(nat_lit 215,Um)::(nat_lit 217,Uo)::(nat_lit 218,Up)::(nat_lit 219,Uq)::(nat_lit 221,Ur)::(nat_lit 222,Us)::(nat_lit 224,Ut)::(nat_lit 225,Uu)::(nat_lit 226,Uv)::(nat_lit 228,Uw)::(nat_lit 229,Ux)::(nat_lit 231,Uy)::(nat_lit 232,Uz)::(nat_lit 233,UA)::(nat_lit 236,UB)::(nat_lit 237,UC)::(nat_lit 238,UD)::(nat_lit 240,UE)::(nat_lit 241,UF)::(nat_lit 243,UG)::(nat_lit 244,UH)::(nat_lit 245,UI)::(nat_lit 247,UJ)::(nat_lit 248,UK)::(nat_lit 250,UL)::(nat_lit 251,UM)::(nat_lit 252,UN)::(nat_lit 255,UO)::(nat_lit 256,UP)::(nat_lit 257,UQ)::(nat_lit 260,UR)::(nat_lit 261,US)::(nat_lit 262,UT)::(nat_lit 264,UU)::(nat_lit 265,UV)::(nat_lit 267,UW)::(nat_lit 268,UX)::(nat_lit 269,UY)::(nat_lit 272,UZ)::(nat_lit 273,Va)::(nat_lit 274,Vb)::(nat_lit 277,Vc)::(nat_lit 278,Vd)::(nat_lit 279,Ve)::(nat_lit 282,Vf)::(nat_lit 283,Vg)::(nat_lit 284,Vh)::(nat_lit 287,Vi)::(nat_lit 288,Vj)::(nat_lit 289,Vk)::(nat_lit 292,Vl)::(nat_lit 293,Vm)::(nat_lit 294,Vn)::(nat_lit 296,Vo)::(nat_lit 297,Vp)::(nat_lit 299,Vq)::(nat_lit 300,Vr)::(nat_lit 301,Vs)::(nat_lit 304,Vt)::(nat_lit 305,Vu)::(nat_lit 306,Vv)::(nat_lit 309,Vw)::(nat_lit 310,Vx)::(nat_lit 311,Vy)::(nat_lit 314,Vz)::(nat_lit 315,VA)::(nat_lit 316,VB)::(nat_lit 318,VC)::(nat_lit 319,VD)::(nat_lit 321,VE)::(nat_lit 322,VF)::(nat_lit 323,VG)::(nat_lit 325,VH)::(nat_lit 326,VI)::(nat_lit 328,VJ)::(nat_lit 329,VL)::(nat_lit 330,VM)::(nat_lit 333,VN)::(nat_lit 334,VO)::(nat_lit 335,VP)::(nat_lit 338,VQ)::(nat_lit 339,VR)::(nat_lit 340,VS)::(nat_lit 342,VT)::(nat_lit 343,VU)::(nat_lit 345,VV)::(nat_lit 346,VW)::(nat_lit 347,VX)::(nat_lit 349,VY)::(nat_lit 350,VZ)::(nat_lit 352,Wa)::(nat_lit 353,Wb)::(nat_lit 354,Wc)::(nat_lit 357,Wd)::(nat_lit 358,We)::(nat_lit 359,Wf)::(nat_lit 361,Wg)::(nat_lit 362,Wh)::(nat_lit 364,Wj)::(nat_lit 365,Wk)::(nat_lit 366,Wl)::(nat_lit 368,Wm)::(nat_lit 369,Wn)::(nat_lit 371,Wo)::(nat_lit 372,Wp)::(nat_lit 373,Wq)::(nat_lit 375,Wr)::(nat_lit 376,Ws)::(nat_lit 378,Wt)::(nat_lit 379,Wu)::(nat_lit 380,Wv)::(nat_lit 382,Ww)::(nat_lit 383,Wx)::(nat_lit 385,Wy)::(nat_lit 386,Wz)::(nat_lit 387,WA)::(nat_lit 389,WB)::(nat_lit 390,WD)::(nat_lit 392,WE)::(nat_lit 393,WG)::(nat_lit 394,WH)::(nat_lit 396,WI)::(nat_lit 397,WJ)::(nat_lit 399,WK)::(nat_lit 400,WL)::(nat_lit 401,WM)::(nat_lit 403,WN)::(nat_lit 404,WO)::(nat_lit 406,WP)::(nat_lit 407,WQ)::(nat_lit 408,WR)::(nat_lit 410,WS)::(nat_lit 411,WT)::(nat_lit 413,WU)::(nat_lit 414,WV)::(nat_lit 415,WW)::(nat_lit 417,WX)::(nat_lit 418,WY)::(nat_lit 420,WZ)::(nat_lit 421,Xa)::(nat_lit 422,Xb)::(nat_lit 425,Xc)::(nat_lit 426,Xd)::(nat_lit 427,Xe)::(nat_lit 430,Xf)::(nat_lit 431,Xg)::(nat_lit 432,Xh)::(nat_lit 435,Xi)::(nat_lit 436,Xj)::(nat_lit 437,Xk)::(nat_lit 439,Xl)::(nat_lit 440,Xm)::(nat_lit 442,Xn)::(nat_lit 443,Xo)::(nat_lit 444,Xp)::(nat_lit 446,Xq)::(nat_lit 447,Xr)::(nat_lit 449,Xs)::(nat_lit 450,Xu)::(nat_lit 451,Xv)::(nat_lit 453,Xw)::(nat_lit 454,Xx)::(nat_lit 456,Xy)::(nat_lit 457,Xz)::(nat_lit 458,XA)::(nat_lit 461,XB)::(nat_lit 462,XC)::(nat_lit 463,XD)::(nat_lit 466,XE)::(nat_lit 467,XF)::(nat_lit 468,XG)::(nat_lit 470,XH)::(nat_lit 471,XI)::(nat_lit 473,XJ)::(nat_lit 474,XM)::(nat_lit 475,XO)::(nat_lit 478,XQ)::(nat_lit 479,XR)::(nat_lit 480,OC)::(nat_lit 483,OD)::(nat_lit 484,OE)::[]
abbrev Ka:List Addr:=[2,3,15,22,23,24,25,28,35,36,37,40,47,48,49,52,59,60,61,64,66,67,69,70,71,74,75,76,79,80,81,84,85,86,89,90,91,94,95,96,99,100,101,104,105,106,108,109,111,112,113,115,116,118,119,120,122,123,125,126,127,130,131,132,134,135,137,138,139,141,142,144,145,146,148,149,151,152,153,156,157,158,160,161,163,164,165,167,168,170,171,172,174,175,177,178,179,181,182,184,185,186,189,190,191,193,194,196,197,198,200,201,203,204,205,207,208,210,211,212,214,215,217,218,219,221,222,224,225,226,228,229,231,232,233,236,237,238,240,241,243,244,245,247,248,250,251,252,255,256,257,260,261,262,264,265,267,268,269,272,273,274,277,278,279,282,283,284,287,288,289,292,293,294,296,297,299,300,301,304,305,306,309,310,311,314,315,316,318,319,321,322,323,325,326,328,329,330,333,334,335,338,339,340,342,343,345,346,347,349,350,352,353,354,357,358,359,361,362,364,365,366,368,369,371,372,373,375,376,378,379,380,382,383,385,386,387,389,390,392,393,394,396,397,399,400,401,403,404,406,407,408,410,411,413,414,415,417,418,420,421,422,425,426,427,430,431,432,435,436,437,439,440,442,443,444,446,447,449,450,451,453,454,456,457,458,461,462,463,466,467,468,470,471,473,474,475,478,479,480,483,484]
theorem Ke(P:Params):Ka=(K P).map (·.1):=by kernel_rfl
abbrev qv:Program:=view pw keep
abbrev Xt:Shared->Bool:=λs=>xlAt qv [] s&&recOk [] s
theorem opened:∀ w:World,(fencedOpening treeTable pw w 5984).map (λs=>(s.heap,s.gens,s.drawn,s.toks))=some (boot_heap w.params,Array.mk [],boot_drawn,boot_toks):=boot_open (by kernel_rfl) (by kernel_rfl) (λs=>by kernel_rfl)
theorem sized(w:World):((boot_heap w.params).isNs mainGlobals&&(Array.mk []:Array GenState).size==0,(boot_heap w.params).objs.size,(boot_heap w.params).nsMap mainGlobals "__annotations__")=(true,11,ann):=by
 rewrite[te_ns];kernel_rfl
theorem lk0(w:World)(os:OsState):(staticsOk (importedModules pw.main.body) (boot_heap w.params) (h1 w.params)&&namesBound pw (h1 w.params)&&gensDone ⟨h1 w.params,#[],v7,810,os⟩&&laidKept (boot_heap w.params) (h1 w.params))=true:=by
 rewrite[te_im];kernel_rfl
theorem lk1(w:World)(os:OsState):seen ((recsOf qv).map (·.name)) (ownsOf qv) [] { (⟨h1 w.params,#[],v7,810,os⟩:Shared)with gens:=#[] }=expectedOf qv:=by
 rewrite[te_seen,te_recs,te_owns];kernel_rfl
theorem lk2(w:World)(os:OsState):(⟨h1 w.params,#[],v7,810,os⟩:Shared).heap.bltView=bltViewBooted:=by
 kernel_rfl
theorem lk3(w:World)(os:OsState):((⟨h1 w.params,#[],v7,810,os⟩:Shared).heap.keysOk (looseW qv []) ((recsOf qv).map (·.name)) ((litsOf qv).map (·.1)) ((clssOf qv (looseW qv [])).map (·.name))&&(⟨h1 w.params,#[],v7,810,os⟩:Shared).heap.accountedOkI (importedModules pw.main.body)&&(⟨h1 w.params,#[],v7,810,os⟩:Shared).heap.isNs mainGlobals&&(⟨h1 w.params,#[],v7,810,os⟩:Shared).heap.isNs builtinsNs&&tablesOk qv (⟨h1 w.params,#[],v7,810,os⟩:Shared).heap&&Xt ⟨h1 w.params,#[],v7,810,os⟩&&(if true=true then(⟨h1 w.params,#[],v7,810,os⟩:Shared).gens.size==0 else !leftWithCleanup (⟨h1 w.params,#[],v7,810,os⟩:Shared).gens))=true:=by
 rewrite[te_keys,te_loose,te_recs,te_lits,te_clss,te_acc,te_im,te_tabl];kernel_rfl
theorem lk4(w:World)(os:OsState):tabsOk qv ⟨h1 w.params,#[],v7,810,os⟩=true:=by
 rewrite[te_tabs];kernel_rfl
theorem lk5(w:World)(os:OsState):pinSeenD qv (drecsOf qv) ⟨h1 w.params,#[],v7,810,os⟩=pinGoodD (drecsOf qv):=by
 rewrite[te_pin,te_drecs];kernel_rfl
theorem lk6(w:World)(os:OsState):plainSeenE qv (looseW qv []) ⟨h1 w.params,#[],v7,810,os⟩=plainGoodE qv (looseW qv []):=by
 rewrite[te_pE,te_loose];kernel_rfl
theorem lk7(w:World)(os:OsState):plainSeenD qv [] ⟨h1 w.params,#[],v7,810,os⟩=plainGoodD qv []:=by
 rewrite[te_pD];kernel_rfl
theorem lk8(w:World)(os:OsState):wideSeen qv ⟨h1 w.params,#[],v7,810,os⟩=wideGood qv:=by
 rewrite[te_wide];kernel_rfl
theorem lk9(w:World)(os:OsState):clsSeenW qv [] ⟨h1 w.params,#[],v7,810,os⟩=clsGoodW qv []:=by
 rewrite[te_cls];kernel_rfl
theorem lk10(w:World)(os:OsState):Hook.obs (kHook K Ka Ke) ⟨h1 w.params,#[],v7,810,os⟩=Hook.val (kHook K Ka Ke) w:=by
 kernel_rfl
theorem sn(w:World)(os:OsState):openSeen qv [] (importedModules pw.main.body) Xt true ⟨h1 w.params,#[],v7,810,os⟩=(seen ((recsOf qv).map (·.name)) (ownsOf qv) [] { (⟨h1 w.params,#[],v7,810,os⟩:Shared)with gens:=#[] },(⟨h1 w.params,#[],v7,810,os⟩:Shared).heap.bltView,((⟨h1 w.params,#[],v7,810,os⟩:Shared).heap.keysOk (looseW qv []) ((recsOf qv).map (·.name)) ((litsOf qv).map (·.1)) ((clssOf qv (looseW qv [])).map (·.name))&&(⟨h1 w.params,#[],v7,810,os⟩:Shared).heap.accountedOkI (importedModules pw.main.body)&&(⟨h1 w.params,#[],v7,810,os⟩:Shared).heap.isNs mainGlobals&&(⟨h1 w.params,#[],v7,810,os⟩:Shared).heap.isNs builtinsNs&&tablesOk qv (⟨h1 w.params,#[],v7,810,os⟩:Shared).heap&&Xt ⟨h1 w.params,#[],v7,810,os⟩&&(if true=true then(⟨h1 w.params,#[],v7,810,os⟩:Shared).gens.size==0 else !leftWithCleanup (⟨h1 w.params,#[],v7,810,os⟩:Shared).gens)),tabsOk qv ⟨h1 w.params,#[],v7,810,os⟩,pinSeenD qv (drecsOf qv) ⟨h1 w.params,#[],v7,810,os⟩,plainSeenE qv (looseW qv []) ⟨h1 w.params,#[],v7,810,os⟩,plainSeenD qv [] ⟨h1 w.params,#[],v7,810,os⟩,wideSeen qv ⟨h1 w.params,#[],v7,810,os⟩,clsSeenW qv [] ⟨h1 w.params,#[],v7,810,os⟩):=by kernel_rfl
theorem gd:openGood qv []=(expectedOf qv,bltViewBooted,true,true,pinGoodD (drecsOf qv),plainGoodE qv (looseW qv []),plainGoodD qv [],wideGood qv,clsGoodW qv []):=by kernel_rfl
theorem lkS(w:World)(os:OsState):openSeen qv [] (importedModules pw.main.body) Xt true ⟨h1 w.params,#[],v7,810,os⟩=openGood qv []:=(sn w os).trans (Eq.trans (looks_pair (lk1 w os) (looks_pair (lk2 w os) (looks_pair (lk3 w os) (looks_pair (lk4 w os) (looks_pair (lk5 w os) (looks_pair (lk6 w os) (looks_pair (lk7 w os) (looks_pair (lk8 w os) (lk9 w os))))))))) gd.symm)
theorem left:LeftO pw qv [] Xt (Hook.obs (kHook K Ka Ke)) (Hook.val (kHook K Ka Ke)) 5984 :=
 LeftO.of_pieces (H₀:=boot_heap) (H₁:=h1) (gs₀:=Array.mk []) (gs₁:=#[]) (d₀:=boot_drawn) (d₁:=v7) (k₀:=boot_toks) (k₁:=810) (m₀:=11) (ann:=ann) (M:=(12+(1+(196+(214+(214+(382+(376+(382+(374+(394+(380+(27+2))))))))))))) opened sized run_all (by kernel_rfl) (λw=>funext λos =>
  looks_pair (lk0 w os) (looks_pair (lkS w os) (lk10 w os)))
end
end H
end K26
noncomputable def PySem.W.Fast.tw13656299945354723841:PySem.Program:=PySem.Challenge.pw_changehall_k26_whole_pulled
theorem PySem.W.Fast.te13656299945354723841:PySem.Challenge.pw_changehall_k26_whole_pulled=PySem.W.Fast.tw13656299945354723841:=rfl
open PySem PySem.W PyProof.Rows
set_option maxRecDepth 100000 in
set_option maxHeartbeats 0 in
theorem PySem.Challenge.cw_changehall_k26_whole_pulled_holds : PySem.Challenge.rw_changehall_k26_whole_pulled.Holds := by
 w_on;o_law
 refine PySem.W.holds_open (q:=K26.H.qv) (loose:=[]) (Xt:=K26.H.Xt) (XP:=XL K26.H.qv []) (Yf:=Hook.obs (kHook K26.H.K K26.H.Ka K26.H.Ke)) (Ya:=Hook.val (kHook K26.H.K K26.H.Ka K26.H.Ke)) (YP:=Hook.says (kHook K26.H.K K26.H.Ka K26.H.Ke)) (N:=5984) K26.H.left (Hook.of _) (Hook.keeps _) (λs e=>xl_of s (w0E.mp e).1) XL.keeps (by rfl) (by rfl) (by rfl) (λs e=>recFacts_of (w0E.mp e).2) (by rfl) (by first|assumption|decide +kernel) (by decide +kernel) ⟨rfl,rfl,rfl,rfl,rfl,by decide +kernel⟩ ?hw ?hc
 (case hw=>w_witness2)
 k_fill
 refine L2.ZC (x := "_law_script") (k:=13) (fr:=true) (c:=K26.YD) (l:=PySem.Challenge.rw_changehall_k26_whole_pulled) rfl rfl (λw h Y=>PySem.W.kIn_of Y) ?F (λns hl=>K26.z1O ns hl) ⟨rfl,by decide,by decide⟩
 case F =>
  intro w mg fa h KX G hmg
  refine' K26.z1X KX G hmg (L2.dh ?e0 ?l0 ?c0 ?k0) (L2.dh ?e1 ?l1 ?c1 ?k1) (L2.dh ?e2 ?l2 ?c2 ?k2) (L2.dh ?e3 ?l3 ?c3 ?k3) (L2.dh ?e4 ?l4 ?c4 ?k4) (L2.dh ?e5 ?l5 ?c5 ?k5) (L2.dh ?e6 ?l6 ?c6 ?k6) (L2.dh ?e7 ?l7 ?c7 ?k7) (L2.dh ?e8 ?l8 ?c8 ?k8) (L2.dh ?e9 ?l9 ?c9 ?k9) (L2.dh ?e10 ?l10 ?c10 ?k10) (L2.dh ?e11 ?l11 ?c11 ?k11) (L2.dh ?e12 ?l12 ?c12 ?k12) (L2.dh ?e13 ?l13 ?c13 ?k13) (L2.dh ?e14 ?l14 ?c14 ?k14) (L2.dh ?e15 ?l15 ?c15 ?k15) (L2.dh ?e16 ?l16 ?c16 ?k16) (L2.dh ?e17 ?l17 ?c17 ?k17) (L2.dh ?e18 ?l18 ?c18 ?k18) (L2.dh ?e19 ?l19 ?c19 ?k19) (L2.dh ?e20 ?l20 ?c20 ?k20) (L2.dh ?e21 ?l21 ?c21 ?k21) (L2.dh ?e22 ?l22 ?c22 ?k22) (L2.dh ?e23 ?l23 ?c23 ?k23) (L2.dh ?e24 ?l24 ?c24 ?k24) (L2.dh ?e25 ?l25 ?c25 ?k25) (L2.dh ?e26 ?l26 ?c26 ?k26) (L2.dh ?e27 ?l27 ?c27 ?k27) (L2.dh ?e28 ?l28 ?c28 ?k28) (L2.dh ?e29 ?l29 ?c29 ?k29) (L2.dh ?e30 ?l30 ?c30 ?k30) (L2.dh ?e31 ?l31 ?c31 ?k31) (L2.dh ?e32 ?l32 ?c32 ?k32) (L2.dh ?e33 ?l33 ?c33 ?k33) (L2.dh ?e34 ?l34 ?c34 ?k34) (L2.dh ?e35 ?l35 ?c35 ?k35) (L2.dh ?e36 ?l36 ?c36 ?k36) (L2.dh ?e37 ?l37 ?c37 ?k37) (L2.dh ?e38 ?l38 ?c38 ?k38) (L2.dh ?e39 ?l39 ?c39 ?k39) (L2.dh ?e40 ?l40 ?c40 ?k40) (L2.dh ?e41 ?l41 ?c41 ?k41) (L2.dh ?e42 ?l42 ?c42 ?k42) (L2.dh ?e43 ?l43 ?c43 ?k43) (L2.dh ?e44 ?l44 ?c44 ?k44) (L2.dh ?e45 ?l45 ?c45 ?k45) (L2.dh ?e46 ?l46 ?c46 ?k46) (L2.dh ?e47 ?l47 ?c47 ?k47) (L2.dh ?e48 ?l48 ?c48 ?k48) (L2.dh ?e49 ?l49 ?c49 ?k49) (L2.dh ?e50 ?l50 ?c50 ?k50) (L2.dh ?e51 ?l51 ?c51 ?k51) (L2.dh ?e52 ?l52 ?c52 ?k52) (L2.dh ?e53 ?l53 ?c53 ?k53) (L2.dh ?e54 ?l54 ?c54 ?k54) (L2.dh ?e55 ?l55 ?c55 ?k55) (L2.dh ?e56 ?l56 ?c56 ?k56) (L2.dh ?e57 ?l57 ?c57 ?k57) (L2.dh ?e58 ?l58 ?c58 ?k58) (L2.dh ?e59 ?l59 ?c59 ?k59) (L2.dh ?e60 ?l60 ?c60 ?k60) (L2.dh ?e61 ?l61 ?c61 ?k61) (L2.dh ?e62 ?l62 ?c62 ?k62) (L2.dh ?e63 ?l63 ?c63 ?k63) (L2.dh ?e64 ?l64 ?c64 ?k64) (L2.dh ?e65 ?l65 ?c65 ?k65) (L2.dh ?e66 ?l66 ?c66 ?k66) (L2.dh ?e67 ?l67 ?c67 ?k67) (L2.dh ?e68 ?l68 ?c68 ?k68) ?z_abs ?z_all ?z_any ?z_bool ?z_enumerate ?z_int ?z_isinstance ?z_len ?z_list ?z_range ?z_reversed ?z_sorted ?z_sum ?z_tuple ?z_zip ?y_MOST_BILLS ?y_MOST_KINDS
  all_goals try k_is
  all_goals kernel_rfl

end

