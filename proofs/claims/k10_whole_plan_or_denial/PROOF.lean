import PyProof.Rows.All
import Wide.All
import OpenK.AllK
import Wide.FinOn
import Lean
import PyProof.EqAt
import PyProof.EqKinds
import PyProof.TupleCall
import PyProof.CompFree
import PyProof.Cells
import PySem.Challenge.RW_changehall_k10_whole_plan_or_denial
set_option Elab.async false
set_option linter.all false
set_option maxRecDepth 100000
set_option exponentiation.threshold 20000
section
local macro_rules|`(tactic| omega)=>`(tactic| first|lia|omega +splitDisjunctions)
set_option Elab.async false
set_option linter.all false
set_option maxRecDepth 100000
namespace L2
open PySem PySem.Spec PyProof.Rows
abbrev Key:=Sum Int Str
def keyIs:Key→Value→Bool
 | .inl k,v=>Value.isInt k v
 | .inr x,v=>Value.isStrOf x v
def keyH(w:World):Key→Int
 | .inl k=>hashInt k
 | .inr x=>hashStr w x
theorem z1d:∀{k:Key} {v:Value},keyIs k v=true→(∃ i t,k=Sum.inl i∧v=Value.int i t)∨(∃ x t,k=Sum.inr x∧v=Value.str x t)
 | .inl i,v,h=>by
  obtain⟨t,e⟩:=Value.isInt_shape (k:=i) (v:=v) h
  exact .inl ⟨i,t,rfl,e⟩
 | .inr x,v,h=>by
  obtain⟨t,e⟩:=Value.isStrOf_shape (x:=x) (v:=v) h
  exact .inr ⟨x,t,rfl,e⟩
theorem key_ll(a b:Int):decide ((Sum.inl a:Key)=Sum.inl b)=(a==b):=by
 by_cases e:a=b
 · subst e;simp
 · have h:¬(Sum.inl a:Key)=Sum.inl b:=fun q=>e (Sum.inl.inj q)
   rw[decide_eq_false h]
   exact(beq_eq_false_iff_ne.mpr e).symm
theorem key_rr(a b:Str):decide ((Sum.inr a:Key)=Sum.inr b)=decide (a=b):=by
 by_cases e:a=b
 · subst e;simp
 · have h:¬(Sum.inr a:Key)=Sum.inr b:=fun q=>e (Sum.inr.inj q)
   rw[decide_eq_false h,decide_eq_false e]
theorem key_lr(a:Int)(b:Str):decide ((Sum.inl a:Key)=Sum.inr b)=false:=decide_eq_false (fun q=>nomatch q)
theorem key_rl(a:Str)(b:Int):decide ((Sum.inr a:Key)=Sum.inl b)=false:=decide_eq_false (fun q=>nomatch q)
def zcy(prog:Program)(w:World):PySem.KeyKind prog w Key where
 is:=keyIs
 hash:=keyH w
 inj:=fun v a b ha hb=>by
  rcases z1d ha with⟨i,t,rfl,rfl⟩|⟨x,t,rfl,rfl⟩
  · rcases z1d hb with⟨j,u,rfl,e⟩|⟨y,u,rfl,e⟩
    · injection e with e1 _;rw[e1]
    · exact nomatch e
  · rcases z1d hb with⟨j,u,rfl,e⟩|⟨y,u,rfl,e⟩
    · exact nomatch e
    · injection e with e1 _;rw[e1]
 byValue:=fun k v h=>by
  rcases z1d h with⟨i,t,rfl,rfl⟩|⟨x,t,rfl,rfl⟩<;>rfl
 pyHash:=fun hv h=>by
  rcases z1d hv with⟨i,t,rfl,rfl⟩|⟨x,t,rfl,rfl⟩
  · exact wpAny_pyHash_int h
  · exact wpAny_pyHash_str h
 eqBool:=fun hu hv h=>by
  rcases z1d hu with⟨i,t,rfl,rfl⟩|⟨x,t,rfl,rfl⟩
  · rcases z1d hv with⟨j,u,rfl,rfl⟩|⟨y,u,rfl,rfl⟩
    · rw[key_ll]at h;exact wpAny_eqBool_int h
    · rw[key_lr]at h;exact SeqAt.EqAt.int_str i t y u _ _ _ _ h
  · rcases z1d hv with⟨j,u,rfl,rfl⟩|⟨y,u,rfl,rfl⟩
    · rw[key_rl]at h;exact SeqAt.EqAt.str_int x t j u _ _ _ _ h
    · rw[key_rr]at h;exact wpAny_eqBool_str h
 «strs»:=fun k x t v h=>by
  rcases z1d h with⟨i,u,rfl,e⟩|⟨y,u,rfl,e⟩
  · exact nomatch e
  · injection e with e1 _
    subst e1
    cases v<;>rfl
end L2
namespace L2
open PySem PySem.Spec PyProof.Rows
inductive V where
 | non|bl (b:Bool)|int (i:Int)|str (x:Str)|byt (b:Array UInt8)|flt (b:UInt64)|ref (a:Addr)|ty (n:String)
 deriving DecidableEq
def RelV:V→Value→Prop
 | .non,u=>u=Value.none
 | .bl b,u=>u=Value.bool b
 | .int i,u=>∃ t,u=Value.int i t
 | .str x,u=>∃ t,u=Value.str x t
 | .byt b,u=>∃ t,u=Value.bytes b t
 | .flt b,u=>∃ t,u=Value.float b t
 | .ref a,u=>u=Value.ref a
 | .ty n,u=>u=Value.type n
abbrev Vals:List V→List Value→Prop:=Paired RelV
theorem Vals.length{xs:List V}{us:List Value}(r:Vals xs us):xs.length=us.length:=Paired.length r
theorem Vals.get:∀{xs:List V} {us:List Value} {i:Nat} {x:V},Vals xs us→xs[i]?=some x→∃ u,us[i]?=some u∧RelV x u
 | _,_,_,_,.nil,e=>by simp at e
 | _,_,0,_,.cons r _,e=>by simp at e;subst e;exact⟨_,rfl,r⟩
 | _,_,i+1,x,.cons _ t,e=>by
  obtain⟨u,h1,h2⟩:=Vals.get (i:=i) (x:=x) t (by simpa using e)
  exact⟨u,by simpa using h1,h2⟩
theorem Vals.set{x:V}{u:Value}(r:RelV x u):∀{xs:List V} {us:List Value} (i:Nat),Vals xs us→Vals (xs.set i x) (us.set i u)
 | _,_,_,.nil => .nil
 | _,_,0,.cons _ t => .cons r t
 | _,_,i+1,.cons q t => .cons q (Vals.set r i t)
theorem Vals.append:∀{xs ys:List V} {us ws:List Value},Vals xs us→Vals ys ws→Vals (xs++ys) (us++ws)
 | _,_,_,_,.nil,s=>s
 | _,_,_,_,.cons r t,s => .cons r (Vals.append t s)
theorem Vals.take:∀{xs:List V} {us:List Value} (n:Nat),Vals xs us→Vals (xs.take n) (us.take n)
 | _,_,0,_ => .nil
 | _,_,_+1,.nil => .nil
 | _,_,n+1,.cons r t => .cons r (Vals.take n t)
theorem Vals.drop:∀{xs:List V} {us:List Value} (n:Nat),Vals xs us→Vals (xs.drop n) (us.drop n)
 | _,_,0,r=>r
 | _,_,_+1,.nil => .nil
 | _,_,n+1,.cons _ t=>Vals.drop n t
theorem Vals.none_of:∀{xs:List V} {us:List Value} {i:Nat},Vals xs us→xs[i]?=none→us[i]?=none:=fun{xs us i} r e=>by
 have h1:=r.length
 have h2:xs.length≤i:=List.getElem?_eq_none_iff.mp e
 exact List.getElem?_eq_none_iff.mpr (by omega)
def RelO:Option V→Option Value→Prop
 | some v,some u=>RelV v u
 | none,none=>True
 | _,_=>False
def KV{κ:Type}:List (κ×V)→List (κ×Value)→Prop:=Paired fun(p:κ×V) (q:κ×Value)=>p.1=q.1∧RelV p.2 q.2
def kV:Key→V
 | .inl i => .int i
 | .inr x => .str x
inductive HO where
 | lst (xs:List V)
 | tup (xs:List V)
 | dK (kvs:List (Key×V))|dT (kvs:List (List Key×V))
 | set (S:Int→Bool) (n:Nat)
 | ins (C dx:Addr) (fs:List (Str×V))
 | own (x:Addr)
 | xd (fs:List (Str×V))
 | met (f x:Addr)
 | rng (lo hi:Int)
 | frz (o:Obj) (u:HO)
 | tbl (ps:Array Value)
 | ext (φ:Heap→Prop)
abbrev Hp:=Addr→Option HO
def upd(H:Hp)(a:Addr)(o:HO):Hp:=fun b=>if b=a then some o else H b
theorem z13{H:Hp}{a:Addr}{o:HO}:upd H a o a=some o:=by unfold upd;rw[if_pos rfl]
theorem z0x{H:Hp}{a b:Addr}{o:HO}(h:b≠a):upd H a o b=H b:=by unfold upd;rw[if_neg h]
theorem z2z{H:Hp}{a b:Addr}{o:HO}(h:H a=some o)(h':H b=none):a≠b:=by
 intro e;subst e;rw[h]at h';cases h'
section
variable (P:Program)(w:World)
def ObjOk(H:Hp)(h:Heap)(a:Addr):HO→Prop
 | .lst xs=>xs.length≤sizeLine∧∃(its:List Value) (n:Nat),Vals xs its∧h.get? a=some { cls := .type "list",data := .seq its.toArray n }
 | .tup xs=>xs.length≤sizeLine∧∃ its:List Value,Vals xs its∧IsTup h a its.toArray
 | .dK kvs=>kvs.length≤sizeLine∧(a==sysModules)=false∧∃ vs,KV kvs vs∧h.DictOf (zcy P w) a vs
 | .dT kvs=>kvs.length≤sizeLine∧(a==sysModules)=false∧∃ xs:List (List Key×Addr×Value),
  Paired (fun(p:List Key×V) (q:List Key×Addr×Value)=>p.1=q.1∧H q.2.1=some (.tup (p.1.map kV))∧RelV p.2 q.2.2) kvs xs ∧
  ∃ o es ep,h.get? a=some o∧o.ExactDict∧o.data = .dict es ep∧es.toList=xs.map (entryOfKey (tupleKind (zcy P w)))∧(xs.map (·.1)).Nodup
 | .set S n=>h.SetOf (intKind P w) a S n
 | .ins C dx fs=>H dx=some (.own a)∧fs.length≤1000∧dx≠a∧h.get? a=some (PySem.W.instObj C dx) ∧
  ∃ mA,h.Ns1 dx mA∧(∀ f,RelO (fs.lookup f) (mA f))∧PySem.Within mA (fs.map (·.1))
 | .own _=>∃ o,h.get? a=some o
 | .xd fs=>∃ mA,h.Ns1 a mA∧∀ f,RelO (fs.lookup f) (mA f)
 | .rng lo hi=>∃ t u v,h.get? a=some { cls := .type "range",data := .fields #[.int lo t,.int hi u,.int 1 v] }
 | .frz o u=>h.get? a=some o∧ObjOk H h a u
 | .tbl ps=>h.get? a=some { cls := .none,data := .fields ps }
 | .met f x=>h.get? a=some (PySem.W.methodObj (.ref f) (.ref x))
 | .ext φ=>φ h∧(∃ o,h.get? a=some o)∧∀ h1 h2:Heap,φ h1→(∀ o,h1.get? a=some o→h2.get? a=some o)→φ h2
def HOk(H:Hp)(h:Heap):Prop:=∀ a o,H a=some o→ObjOk P w H h a o
end
section
variable {P:Program}{w:World}{H H':Hp}{h h':Heap}{a:Addr}{o:HO}
theorem ObjOk.lt(x:ObjOk P w H h a o):a<h.objs.size:=by
 cases o with
 | lst xs=>obtain⟨_,_,_,_,e⟩:=x;exact Heap.lt_size e
 | tup xs=>obtain⟨_,_,_,p⟩:=x;exact p.lt
 | dK kvs=>obtain⟨_,_,_,_,o,_,_,e,_⟩:=x;exact Heap.lt_size e
 | dT kvs=>obtain⟨_,_,_,_,o,_,_,e,_⟩:=x;exact Heap.lt_size e
 | set S n=>obtain⟨o,_,_,_,e,_⟩:=x;exact Heap.lt_size e
 | ins C dx fs=>obtain⟨_,_,_,e,_⟩:=x;exact Heap.lt_size e
 | own y=>obtain⟨_,e⟩:=x;exact Heap.lt_size e
 | xd fs=>obtain⟨_,⟨_,_,_,e,_⟩,_⟩:=x;exact Heap.lt_size e
 | rng lo hi=>obtain⟨_,_,_,e⟩:=x;exact Heap.lt_size e
 | frz ob u=>obtain⟨e,_⟩:=x;exact Heap.lt_size e
 | tbl ps=>exact Heap.lt_size (show h.get? a=some _ from x)
 | met f y=>exact Heap.lt_size (show h.get? a=some _ from x)
 | ext φ=>obtain⟨_,⟨_,e⟩,_⟩:=x;exact Heap.lt_size e
theorem Paired.mapP{α β:Type}{F G:α→β→Prop}:∀{l₁:List α} {l₂:List β},Paired F l₁ l₂→(∀ a b,F a b→G a b)→Paired G l₁ l₂
 | _,_,.nil,_ => .nil
 | _,_,.cons r t,f => .cons (f _ _ r) (Paired.mapP t f)
theorem ObjOk.stay(x:ObjOk P w H h a o)(k:∀ b u,(b=a∨H b=some (.own a))→h.get? b=some u→h'.get? b=some u)
  (ho:∀ b,H b=some (.own a)→H' b=some (.own a)) (ht:∀ b xs,H b=some (.tup xs)→H' b=some (.tup xs)):ObjOk P w H' h' a o:=by
 induction o with
 | lst xs=>obtain⟨z,its,n,r,e⟩:=x;exact⟨z,its,n,r,k _ _ (.inl rfl) e⟩
 | tup xs=>obtain⟨z,its,r,ob,e,c⟩:=x;exact⟨z,its,r,ob,k _ _ (.inl rfl) e,c⟩
 | dK kvs=>obtain⟨z,y,vs,r,ob,es,ep,e,c⟩:=x;exact⟨z,y,vs,r,ob,es,ep,k _ _ (.inl rfl) e,c⟩
 | dT kvs =>
  obtain⟨z,y,xs,r,ob,es,ep,e,c⟩:=x
  exact⟨z,y,xs,Paired.mapP r fun p q z=>⟨z.1,ht _ _ z.2.1,z.2.2⟩,ob,es,ep,k _ _ (.inl rfl) e,c⟩
 | set S n=>obtain⟨ob,es,ep,t,e,c⟩:=x;exact⟨ob,es,ep,t,k _ _ (.inl rfl) e,c⟩
 | ins C dx fs =>
  obtain⟨d,z,ne,e,mA,⟨od,es,ep,e2,c⟩,r⟩:=x
  exact⟨ho _ d,z,ne,k _ _ (.inl rfl) e,mA,⟨od,es,ep,k _ _ (.inr d) e2,c⟩,r⟩
 | own y=>obtain⟨ob,e⟩:=x;exact⟨ob,k _ _ (.inl rfl) e⟩
 | xd fs=>obtain⟨mA,⟨od,es,ep,e,c⟩,r⟩:=x;exact⟨mA,⟨od,es,ep,k _ _ (.inl rfl) e,c⟩,r⟩
 | rng lo hi=>obtain⟨t,u,v,e⟩:=x;exact⟨t,u,v,k _ _ (.inl rfl) e⟩
 | frz ob u ih=>obtain⟨e,q⟩:=x;exact⟨k _ _ (.inl rfl) e,ih q⟩
 | tbl ps =>
  have e:h.get? a=some { cls := .none,data := .fields ps }:=x
  show h'.get? a=some { cls := .none,data := .fields ps }
  exact k a _ (.inl rfl) e
 | met f y =>
  have e:h.get? a=some (PySem.W.methodObj (.ref f) (.ref y)):=x
  show h'.get? a=some (PySem.W.methodObj (.ref f) (.ref y))
  exact k a _ (.inl rfl) e
 | ext φ=>obtain⟨p,⟨o,e⟩,st⟩:=x;exact⟨st _ _ p fun o q=>k _ _ (.inl rfl) q,⟨o,k _ _ (.inl rfl) e⟩,st⟩
theorem HOk.lt(x:HOk P w H h)(e:H a=some o):a<h.objs.size:=(x a o e).lt
theorem HOk.fresh(x:HOk P w H h)(e:h.objs.size≤a):H a=none:=by
 cases q:H a with
 | none=>rfl
 | some u=>exact absurd (Nat.lt_of_lt_of_le (x.lt q) e) (Nat.lt_irrefl _)
theorem HOk.kept(x:HOk P w H h)(k:∀ b u,h.get? b=some u→h'.get? b=some u):HOk P w H h':=fun a o e =>
 (x a o e).stay (fun b u _ q=>k b u q) (fun _ q=>q) fun _ _ q=>q
theorem HOk.laid(x:HOk P w H h)(k:∀ b u,h.get? b=some u→h'.get? b=some u)(hp:h.objs.size≤a)(new:ObjOk P w (upd H a o) h' a o):HOk P w (upd H a o) h':=fun b u e=>by
 have hn:=x.fresh hp
 by_cases hb:b=a
 · subst hb;rw[z13]at e;cases e;exact new
 · rw[z0x hb]at e
   exact(x b u e).stay (fun c v _ q=>k c v q) (fun c q=>by rw[z0x (z2z q hn)];exact q) fun c xs q=>by rw[z0x (z2z q hn)];exact q
end
def Rd(H:Hp)(a:Addr)(u:HO):Prop:=H a=some u∨∃ o,H a=some (.frz o u)
theorem Rd.ok{P:Program}{w:World}{H:Hp}{h:Heap}{a:Addr}{u:HO}(r:Rd H a u)(x:HOk P w H h):ObjOk P w H h a u:=by
 rcases r with r|⟨o,r⟩
 · exact x a u r
 · obtain⟨_,q⟩:=x a _ r
   exact q
def Mut:Option HO→Prop
 | some (.lst _)=>True
 | some (.dK _)=>True
 | some (.dT _)=>True
 | some (.set _ _)=>True
 | some (.ins _ _ _)=>True
 | some (.ext _)=>True
 | _=>False
section
variable {P:Program}{w:World}{H:Hp}{h h':Heap}{x e:Addr}{o':HO}
theorem HOk.write(ok:HOk P w H h)(mu:Mut (H x))(he:e=x∨H e=some (.own x))(k:∀ b u,b≠e→h.get? b=some u→h'.get? b=some u)(heo:∃ u,h'.get? e=some u)
   (new:ObjOk P w (upd H x o') h' x o'):HOk P w (upd H x o') h':=fun b u q=>by
 have nown:∀ c y,H c=some (.own y)→c≠x:=fun c y r z=>by subst z;rw[r]at mu;exact mu
 have ntup:∀ c xs,H c=some (.tup xs)→c≠x:=fun c xs r z=>by subst z;rw[r]at mu;exact mu
 by_cases hb:b=x
 · subst hb;rw[z13]at q;cases q;exact new
 · rw[z0x hb]at q
   by_cases hbe:b=e
   · have q':H b=some (.own x):=by
       rcases he with z|z
       · exact absurd (hbe.trans z) hb
       · rw[hbe];exact z
     rw[q]at q';cases q'
     obtain⟨v,hv⟩:=heo
     exact⟨v,by rw[hbe];exact hv⟩
   · refine(ok b u q).stay (fun c v hc r=>k c v ?_ r) (fun c r=>by rw[z0x (nown c b r)];exact r) fun c xs r=>by rw[z0x (ntup c xs r)];exact r
     rcases hc with rfl|hc
     · exact hbe
     · rintro rfl
       rcases he with z|z
       · exact nown c b hc z
       · rw[hc]at z;cases z;exact hb rfl
end
structure Un(fs ex:List Addr)(H H':Hp)(h h':Heap):Prop where
 keep:∀ b o,h.get? b=some o→H b=none→b ∉ fs→b ∉ ex→h'.get? b=some o
 slot:∀ b o,h.get? b=some o→H b=none→b∈fs→b ∉ ex→∃ sl,h'.get? b=some { o with slots:=sl }
 free:∀ b o,h.get? b=some o→H b=none→b ∉ ex→H' b=none
 there:∀ b o,h.get? b=some o→b ∉ ex→∃ o',h'.get? b=some o'
 tups:∀ b xs,H b=some (.tup xs)→H' b=some (.tup xs)
 frzs:∀ b o u,H b=some (.frz o u)→H' b=some (.frz o u)
 tbls:∀ b ps,H b=some (.tbl ps)→∃ more,H' b=some (.tbl (ps++more))
section
variable {fs fs' ex ex':List Addr}{H H1 H2:Hp}{h h1 h2 h':Heap}{a x e:Addr}{o:HO}
theorem Un.any(u:Un fs ex H H1 h h1){b:Addr}{ob:Obj}(q:h.get? b=some ob)(n:H b=none)(hx:b ∉ ex):∃ sl,h1.get? b=some { ob with slots:=sl }:=by
 by_cases hb:b∈fs
 · exact u.slot b ob q n hb hx
 · exact⟨ob.slots,u.keep b ob q n hb hx⟩
theorem Un.trans(a:Un fs ex H H1 h h1)(b:Un fs ex H1 H2 h1 h2):Un fs ex H H2 h h2 where
 keep:=fun c ob q n hc hx=>b.keep c ob (a.keep c ob q n hc hx) (a.free c ob q n hx) hc hx
 slot:=fun c ob q n hc hx=>by
  obtain⟨sl,e1⟩:=a.slot c ob q n hc hx
  obtain⟨sl',e2⟩:=b.slot c _ e1 (a.free c ob q n hx) hc hx
  exact⟨sl',e2⟩
 free:=fun c ob q n hx=>by
  obtain⟨o',e1⟩:=a.there c ob q hx
  exact b.free c o' e1 (a.free c ob q n hx) hx
 there:=fun c ob q hx=>by
  obtain⟨o',e1⟩:=a.there c ob q hx
  exact b.there c o' e1 hx
 tups:=fun c xs q=>b.tups c xs (a.tups c xs q)
 frzs:=fun c ob xs q=>b.frzs c ob xs (a.frzs c ob xs q)
 tbls:=fun c ps q=>by
  obtain⟨m1,e1⟩:=a.tbls c ps q
  obtain⟨m2,e2⟩:=b.tbls c _ e1
  exact⟨m1++m2,by rw[e2,Array.append_assoc]⟩
theorem Un.kept(k:∀ b u,h.get? b=some u→h'.get? b=some u):Un fs ex H H h h' :=
 ⟨fun b ob q _ _ _=>k b ob q,fun b ob q _ _ _=>⟨ob.slots,k b ob q⟩,fun _ _ _ n _=>n,fun b ob q _=>⟨ob,k b ob q⟩,fun _ _ q=>q,fun _ _ _ q=>q,fun _ ps q=>⟨#[],by rw[q];simp⟩⟩
theorem Un.refl:Un fs ex H H h h:=Un.kept fun _ _ q=>q
theorem Un.laid(k:∀ b u,h.get? b=some u→h'.get? b=some u)(hp:h.objs.size≤a)(hn:H a=none):Un fs ex H (upd H a o) h h' where
 keep:=fun b u q _ _ _=>k b u q
 slot:=fun b u q _ _ _=>⟨u.slots,k b u q⟩
 free:=fun b u q n _=>by rw[z0x (Nat.ne_of_lt (Nat.lt_of_lt_of_le (Heap.lt_size q) hp))];exact n
 there:=fun b u q _=>⟨u,k b u q⟩
 tups:=fun b xs q=>by rw[z0x (z2z q hn)];exact q
 frzs:=fun b u xs q=>by rw[z0x (z2z q hn)];exact q
 tbls:=fun b ps q=>⟨#[],by rw[z0x (z2z q hn),q];simp⟩
theorem Un.write(mu:Mut (H x))(he:e=x∨H e=some (.own x))(k:∀ b u,b≠e→h.get? b=some u→h'.get? b=some u)(heo:∃ u,h'.get? e=some u):Un fs ex H (upd H x o) h h':=by
 have hx:∀ b,H b=none→b≠x:=fun b n z=>by subst z;rw[n]at mu;exact mu
 have hb:∀ b,H b=none→b≠e:=fun b n z=>by
   subst z
   rcases he with r|r
   · exact hx b n r
   · rw[n]at r;cases r
 have hm:∀ b u,H b=some u→¬Mut (some u)→b≠x:=fun b u q nm z=>by subst z;rw[q]at mu;exact nm mu
 refine⟨fun b u q n _ _=>k b u (hb b n) q,fun b u q n _ _=>⟨u.slots,k b u (hb b n) q⟩,fun b u q n _=>by rw[z0x (hx b n)];exact n,fun b u q _=>?_,
   fun b xs q=>by rw[z0x (hm b _ q fun z=>z)];exact q,fun b u xs q=>by rw[z0x (hm b _ q fun z=>z)];exact q,fun b ps q=>⟨#[],by rw[z0x (hm b _ q fun z=>z),q];simp⟩⟩
 by_cases hbe:b=e
 · subst hbe;exact heo
 · exact⟨u,k b u hbe q⟩
end
def trk(h:Heap)(H:Hp):List Addr:=(List.range h.objs.size).filter fun a=>(H a).isSome
def hidT(h:Heap)(H:Hp):Heap:=PySem.W.hideAll h (trk h H)
theorem zks(h:Heap)(H:Hp):(hidT h H).objs.size=h.objs.size:=PySem.W.hideAll_size _ _
theorem zlr{h:Heap}{H:Hp}{b:Addr}{o:Obj}(e:h.get? b=some o)(n:H b=none):(hidT h H).get? b=some o :=
 PySem.W.hideAll_get _ e fun hm=>by
  have q:(H b).isSome=true:=(List.mem_filter.mp hm).2
  rw[n]at q;simp at q
theorem zpu{h:Heap}{H:Hp}{b:Addr}{o:Obj}(e:(hidT h H).get? b=some o):h.get? b=some o∧H b=none:=by
 have e':h.get? b=some o:=PySem.W.of_hideAll (trk h H) e
 refine⟨e',?_⟩
 cases q:H b with
 | none=>rfl
 | some x =>
  have hm:b∈trk h H:=List.mem_filter.mpr ⟨List.mem_range.mpr (Heap.lt_size e'),by simp[q]⟩
  have z:(hidT h H).get? b=none:=PySem.W.hideAll_none (trk h H) hm
  rw[z]at e;cases e
def zpv(g h:Heap)(L:Addr):List (Addr×Obj):=(List.range h.objs.size).filterMap fun a=>if a=L∨(g.get? a).isSome=true then none else(h.get? a).map fun o=>(a,o)
def rest(g h:Heap)(L d:Addr):List (Addr×Obj):=(zpv g h L).filter fun p=>decide (p.1≠d)
end L2
namespace L2
open PySem PySem.Spec PyProof.Rows
structure Mod(K:PySem.W.Frag)(mg:Str→Option Value)(base:Heap):Prop where
 kin:K.In base
 glob:base.Ns mainGlobals mg
 blt:∃ mb,base.Ns builtinsNs mb∧∀ x:Str,x ≠ "__name__" → mb x=bootBuiltins x
 nolimit:base.NoLimit
structure Cx where
 prog:Program
 w:World
 K:PySem.W.Frag
 mg:Str→Option Value
 base:Heap
 A:Around
 N:List Str
 s₀:Shared
 H₀:Hp
 env:Env
 outer:List Env
 stack:List Env
 ex:List Addr
 fn:Str→Bool
 calm:Bool
 pn:List (Addr×Obj)
 xe:Value→Shared→Prop
def frs(l:List Env):List Addr:=l.filterMap (·.frame)
abbrev Cx.fs(X:Cx):List Addr:=frs X.outer
def Vis(sc:Scope)(x:Str):Prop:=sc.names.lookup x=some .local∨sc.names.lookup x=some .cell∨sc.names.lookup x=some .free
def Loc(sc:Scope)(x:Str):Prop:=sc.names.lookup x=some .local∨sc.names.lookup x=some .cell
def Look(env:Env)(h:Heap)(m:Str→Option Value)(x:Str)(u:Value):Prop :=
 (env.kindOf x=some .local∧m x=some u)∨((env.kindOf x=some .cell∨env.kindOf x=some .free)∧∃ c,env.cells.lookup x=some c∧h.IsCell c (some u))
structure Cx.Ok(X:Cx):Prop where
 mod:Mod X.K X.mg X.base
 kind:X.env.scope.kind = .function
 glob:X.env.globals=mainGlobals
 blt:X.env.builtins=builtinsNs
 above:X.s₀.heap.objs.size≤X.env.locals
 inj:∀ x y c,X.env.cells.lookup x=some c→X.env.cells.lookup y=some c→x=y
 has:∀ x,(X.env.kindOf x=some .cell∨X.env.kindOf x=some .free)→∃ c,X.env.cells.lookup x=some c
 cab:∀ x c,X.fn x=true→X.env.cells.lookup x=some c→X.s₀.heap.objs.size≤c
 hd:X.calm=true→X.A.handled=none
 frames:X.A.frames=some X.stack
 stk:X.stack=X.outer∨(X.stack=X.env::X.outer∧X.env.frame=some X.env.locals)
 exf:∀ b∈X.ex,b≠X.env.locals∧∀ x c,X.env.cells.lookup x=some c→c≠b
 bs:∀ b o,X.base.get? b=some o→X.s₀.heap.get? b=some o∧X.H₀ b=none
 bsz:X.base.objs.size≤X.s₀.heap.objs.size
 noex:∀ b o,X.base.get? b=some o→b ∉ X.ex
 exfs:∀ b∈X.ex,b ∉ X.fs
 funs:X.s₀.heap.FunFrames X.base X.outer
 frf:∀ b∈X.fs,X.H₀ b=none
structure Inv(X:Cx)(pins:List (Addr×Obj))(σ:List (Option V))(H:Hp)(s:Shared):Prop where
 ok:X.Ok
 os:s.os=X.s₀.os
 bare:AllBare s.gens
 base:Un X.fs X.ex X.H₀ H X.s₀.heap s.heap
 loc:∃ m,s.heap.Ns X.env.locals m∧∀(i:Nat) (x:Str) (v:V),X.N[i]?=some x→σ[i]?=some (some v)→Vis X.env.scope x→∃ u,RelV v u∧Look X.env s.heap m x u
 cell:∀ x c,X.env.cells.lookup x=some c→∃ v,s.heap.IsCell c v
 free:H X.env.locals=none
 freeC:∀ x c,X.env.cells.lookup x=some c→H c=none
 pin:∀ p∈X.pn++pins,s.heap.get? p.1=some p.2∧H p.1=none∧p.1≠X.env.locals∧p.1 ∉ X.fs∧∀ v,p.2.data ≠ .cell v
 hok:HOk X.prog X.w H s.heap
 len:σ.length=X.N.length
section
variable {X:Cx}{pins:List (Addr×Obj)}{σ:List (Option V)}{H H':Hp}{s:Shared}{h':Heap}
theorem Cx.Ok.nofr(ok:X.Ok){b:Addr}{o:Obj}(e:X.base.get? b=some o):b ∉ X.fs:=fun hb=>by
 have:=(ok.funs.mem hb).1
 rw[e]at this;cases this
theorem Inv.bs(I:Inv X pins σ H s):∀ b o,X.base.get? b=some o→s.heap.get? b=some o∧H b=none:=fun b o e =>
 ⟨I.base.keep b o (I.ok.bs b o e).1 (I.ok.bs b o e).2 (I.ok.nofr e) (I.ok.noex b o e),I.base.free b o (I.ok.bs b o e).1 (I.ok.bs b o e).2 (I.ok.noex b o e)⟩
theorem Inv.bk(I:Inv X pins σ H s):∀ b o,X.base.get? b=some o→s.heap.get? b=some o:=fun b o e=>(I.bs b o e).1
theorem Inv.mod(I:Inv X pins σ H s):Mod X.K X.mg X.base:=I.ok.mod
theorem Inv.kIn(I:Inv X pins σ H s):X.K.In s.heap:=I.ok.mod.kin.keeps I.bk
theorem Inv.fr(I:Inv X pins σ H s):∃ m,Fr X.base X.env.locals s.heap m :=
 let ⟨m,hn,_⟩:=I.loc
 ⟨m,hn,I.bk,Nat.le_trans I.ok.bsz I.ok.above⟩
theorem Inv.lt(I:Inv X pins σ H s):X.env.locals<s.heap.objs.size:=let ⟨_,hn,_⟩:=I.loc;hn.lt
theorem Inv.sz(I:Inv X pins σ H s):X.s₀.heap.objs.size≤s.heap.objs.size:=Nat.le_trans I.ok.above (Nat.le_of_lt I.lt)
theorem Inv.nofs(I:Inv X pins σ H s){a:Addr}(h:s.heap.objs.size≤a):a ∉ X.fs:=fun hb=>by
 obtain⟨_,o,ho,_⟩:=I.ok.funs.mem hb
 exact absurd (Nat.lt_of_lt_of_le (Heap.lt_size ho) (Nat.le_trans I.sz h)) (Nat.lt_irrefl _)
theorem Inv.cne(I:Inv X pins σ H s):∀ x c,X.env.cells.lookup x=some c→c≠X.env.locals:=fun x c e z=>by
 obtain⟨v,o,ho,hd⟩:=I.cell x c e
 obtain⟨m,⟨o',es,ep,ho',hd',_⟩,_⟩:=I.loc
 rw[z,ho']at ho;cases ho;rw[hd']at hd;cases hd
theorem Inv.funs(I:Inv X pins σ H s):s.heap.FunFrames X.base X.outer:=by
 have all:∀(l:List Env),(∀ b∈frs l,b∈X.fs)→X.s₀.heap.FunFrames X.base l→s.heap.FunFrames X.base l:=by
  intro l
  induction l with
  | nil=>intro _ _;trivial
  | cons env r ih =>
   intro hs hl
   obtain⟨hk,⟨L,o,hf,hn,ho,hd⟩,hr⟩:=hl
   have hL:L∈X.fs:=hs L (by unfold frs;rw[List.filterMap_cons,hf];exact List.mem_cons_self)
   obtain⟨sl,e⟩:=I.base.slot L o ho (I.ok.frf L hL) hL fun z=>I.ok.exfs L z hL
   exact⟨hk,⟨L,_,hf,hn,e,hd⟩,ih (fun b hb=>hs b (by unfold frs;rw[List.filterMap_cons,hf];exact List.mem_cons_of_mem _ hb)) hr⟩
 exact all X.outer (fun _ hb=>hb) I.ok.funs
theorem Inv.stack(I:Inv X pins σ H s):s.heap.FunFrames X.base X.stack:=by
 rcases I.ok.stk with e|⟨e,hf⟩
 · rw[e];exact I.funs
 · rw[e]
   obtain⟨m,hn,_⟩:=I.loc
   refine .cons (by rw[I.ok.kind];decide) hf hn ?_ I.funs
   exact Heap.get?_none_of_le (Nat.le_trans I.ok.bsz I.ok.above)
theorem Inv.stkSub(I:Inv X pins σ H s):∀ b∈frs X.stack,b∈X.env.locals::X.fs:=fun b hb=>by
 rcases I.ok.stk with e|⟨e,hf⟩
 · rw[e]at hb;exact List.mem_cons_of_mem _ hb
 · rw[e]at hb
   unfold frs at hb
   rw[List.filterMap_cons,hf]at hb
   exact hb
theorem Inv.stkFree(I:Inv X pins σ H s):∀ b∈frs X.stack,H b=none:=fun b hb=>by
 rcases List.mem_cons.mp (I.stkSub b hb)with e|hb
 · rw[e];exact I.free
 · obtain⟨_,o,ho,_⟩:=I.ok.funs.mem hb
   exact I.base.free b o ho (I.ok.frf b hb) fun z=>I.ok.exfs b z hb
theorem Inv.step{g':Array GenState}{t':Nat}{d':Drawn}{ch:List Addr}(I:Inv X pins σ H s)
   (hch:∀ b∈ch,(b∈X.ex∨X.s₀.heap.objs.size≤b)∧b≠X.env.locals∧(∀ x c,X.env.cells.lookup x=some c→c≠b)∧∀ p∈X.pn++pins,p.1≠b)
   (keep:∀ b o,b≠X.env.locals→b ∉ X.fs→b ∉ ch→s.heap.get? b=some o→H b=none→h'.get? b=some o)
   (slot:∀ b o,b≠X.env.locals→b∈X.fs→b ∉ ch→s.heap.get? b=some o→H b=none→∃ sl,h'.get? b=some { o with slots:=sl }) (free:∀ b o,b ∉ ch→s.heap.get? b=some o→H b=none→H' b=none)
   (there:∀ b o,b ∉ ch→s.heap.get? b=some o→∃ o',h'.get? b=some o')
   (tups:∀ b xs,H b=some (.tup xs)→H' b=some (.tup xs)) (frzs:∀ b o u,H b=some (.frz o u)→H' b=some (.frz o u)) (tbls:∀ b ps,H b=some (.tbl ps)→∃ more,H' b=some (.tbl (ps++more)))
   (ns:∀ m,s.heap.Ns X.env.locals m→h'.Ns X.env.locals m) (hok:HOk X.prog X.w H' h') (hg:AllBare g') :
   Inv X pins σ H' { s with heap:=h',gens:=g',drawn:=d',toks:=t' }:=by
 have neL:∀ b o,X.s₀.heap.get? b=some o→b≠X.env.locals:=fun b o e=>Nat.ne_of_lt (Nat.lt_of_lt_of_le (Heap.lt_size e) I.ok.above)
 have neC:∀ b o,X.s₀.heap.get? b=some o→b ∉ X.ex→b ∉ ch:=fun b o e hx hb=>by
   rcases(hch b hb).1 with z|z
   · exact hx z
   · exact absurd (Nat.lt_of_lt_of_le (Heap.lt_size e) z) (Nat.lt_irrefl _)
 have cellK:∀ x c,X.env.cells.lookup x=some c→∀ v,s.heap.IsCell c v→h'.IsCell c v:=fun x c e v hZ=>hZ.elim fun o hZ=>hZ.elim fun ho hd=>by
   have nch:c ∉ ch:=fun z=>(hch c z).2.2.1 x c e rfl
   by_cases hc:c∈X.fs
   · obtain⟨sl,q⟩:=slot c o (I.cne x c e) hc nch ho (I.freeC x c e)
     exact⟨_,q,hd⟩
   · exact⟨o,keep c o (I.cne x c e) hc nch ho (I.freeC x c e),hd⟩
 refine⟨I.ok,I.os,hg,⟨fun b o e n hb hx=>?_,fun b o e n hb hx=>?_,fun b o e n hx=>?_,fun b o e hx=>?_,fun b xs e=>tups b xs (I.base.tups b xs e),fun b o xs e=>frzs b o xs (I.base.frzs b o xs e),fun b ps e=>?_⟩,?_,fun x c e=>?_,?_,fun x c e=>?_,fun p hp=>?_,hok,I.len⟩
 · exact keep b o (neL b o e) hb (neC b o e hx) (I.base.keep b o e n hb hx) (I.base.free b o e n hx)
 · obtain⟨sl,e1⟩:=I.base.slot b o e n hb hx
   obtain⟨sl',e2⟩:=slot b _ (neL b o e) hb (neC b o e hx) e1 (I.base.free b o e n hx)
   exact⟨sl',e2⟩
 · obtain⟨o',e1⟩:=I.base.there b o e hx
   exact free b o' (neC b o e hx) e1 (I.base.free b o e n hx)
 · obtain⟨o',e1⟩:=I.base.there b o e hx
   exact there b o' (neC b o e hx) e1
 · obtain⟨m1,e1⟩:=I.base.tbls b ps e
   obtain⟨m2,e2⟩:=tbls b _ e1
   exact⟨m1++m2,by rw[e2,Array.append_assoc]⟩
 · obtain⟨m,hn,hl⟩:=I.loc
   refine⟨m,ns m hn,fun i x v e1 e2 e3=>?_⟩
   obtain⟨u,r,l⟩:=hl i x v e1 e2 e3
   refine⟨u,r,?_⟩
   rcases l with l|⟨k,c,e,z⟩
   · exact .inl l
   · exact .inr ⟨k,c,e,cellK x c e _ z⟩
 · obtain⟨v,z⟩:=I.cell x c e
   exact⟨v,cellK x c e v z⟩
 · obtain⟨m,⟨o,_,_,ho,_⟩,_⟩:=I.loc
   exact free _ o (fun z=>(hch _ z).2.1 rfl) ho I.free
 · obtain⟨v,o,ho,hd⟩:=I.cell x c e
   exact free c o (fun z=>(hch c z).2.2.1 x c e rfl) ho (I.freeC x c e)
 · obtain⟨e,n,ne,nf,d⟩:=I.pin p hp
   have nch:p.1 ∉ ch:=fun z=>(hch p.1 z).2.2.2 p hp rfl
   exact⟨keep p.1 p.2 ne nf nch e n,free p.1 p.2 nch e n,ne,nf,d⟩
theorem Inv.un{t':Nat}(I:Inv X pins σ H s)(u:Un X.fs [] H H' s.heap h')(hok:HOk X.prog X.w H' h'):Inv X pins σ H' { s with heap:=h',toks:=t' }:=by
 obtain⟨m,⟨o,es,ep,ho,r⟩,_⟩:=id I.loc
 obtain⟨sl,hL⟩:=u.any ho I.free (by simp)
 exact I.step (g':=s.gens) (d':=s.drawn) (ch:=[]) (fun _ z=>nomatch z) (fun b o _ hb _ e n=>u.keep b o e n hb (by simp)) (fun b o _ hb _ e n=>u.slot b o e n hb (by simp)) (fun b o _ e n=>u.free b o e n (by simp)) (fun b o _ e=>u.there b o e (by simp)) u.tups u.frzs u.tbls (fun m' hm=>by
  obtain⟨o',es',ep',ho',r'⟩:=hm
  rw[ho]at ho';cases ho'
  exact⟨_,es',ep',hL,r'⟩) hok I.bare
theorem Inv.call{g':Array GenState}{t':Nat}{d':Drawn}{ch:List Addr}(I:Inv X pins σ H s)(u:Un (frs X.stack) ch H H' s.heap h')(hok:HOk X.prog X.w H' h')(hg:AllBare g')
  (hch:∀ b∈ch,(b∈X.ex∨X.s₀.heap.objs.size≤b)∧b≠X.env.locals∧(∀ x c,X.env.cells.lookup x=some c→c≠b)∧∀ p∈X.pn++pins,p.1≠b) :
  Inv X pins σ H' { s with heap:=h',gens:=g',drawn:=d',toks:=t' }:=by
 obtain⟨m,⟨o,es,ep,ho,r⟩,_⟩:=id I.loc
 obtain⟨sl,hL⟩:=u.any ho I.free fun z=>(hch _ z).2.1 rfl
 exact I.step (ch:=ch) hch (fun b o hL hb hc e n=>u.keep b o e n (fun z=>(List.mem_cons.mp (I.stkSub b z)).elim hL hb) hc) (fun b o _ _ hc e n=>u.any e n hc) (fun b o hc e n=>u.free b o e n hc) (fun b o hc e=>u.there b o e hc) u.tups u.frzs u.tbls (fun m' hm=>by
  obtain⟨o',es',ep',ho',r'⟩:=hm
  rw[ho]at ho';cases ho'
  exact⟨_,es',ep',hL,r'⟩) hok hg
theorem Inv.turned{t':Nat}{it:Addr}(I:Inv X pins σ H s)(k:∀ b o,b≠it→s.heap.get? b=some o→h'.get? b=some o)(hn:H it=none)(hL:it≠X.env.locals)
   (h1:it∈X.ex∨X.s₀.heap.objs.size≤it) (h2:∀ x c,X.env.cells.lookup x=some c→c≠it) (h3:∀ p∈X.pn++pins,p.1≠it):Inv X pins σ H { s with heap:=h',toks:=t' }:=by
 have nit:∀ b u,H b=some u→b≠it:=fun b u e z=>by rw[z,hn]at e;cases e
 refine I.step (g':=s.gens) (d':=s.drawn) (ch:=[it]) (fun b hb=>?_) (fun b o _ _ hc e _=>k b o (fun z=>hc (by simp[z])) e) (fun b o _ _ hc e _=>⟨o.slots,k b o (fun z=>hc (by simp[z])) e⟩) (fun _ _ _ _ n=>n)
   (fun b o hc e=>⟨o,k b o (fun z=>hc (by simp[z])) e⟩) (fun _ _ e=>e) (fun _ _ _ e=>e) (fun b ps e=>⟨#[],by rw[e];simp⟩) (fun m hm=>?_) (fun b u e=>?_) I.bare
 · have e:b=it:=by simpa using hb
   subst e
   exact⟨h1,hL,h2,h3⟩
 · obtain⟨o,es,ep,ho,r⟩:=hm
   exact⟨o,es,ep,k _ o (Ne.symm hL) ho,r⟩
 · refine(I.hok b u e).stay (fun c v hc q=>k c v ?_ q) (fun _ q=>q) fun _ _ q=>q
   rcases hc with z|z
   · rw[z];exact nit b u e
   · exact nit c _ z
theorem Inv.tok(I:Inv X pins σ H s)(t:Nat):Inv X pins σ H { s with toks:=t }:=I.un (h':=s.heap) (t':=t) Un.refl I.hok
theorem Inv.kept{t':Nat}(I:Inv X pins σ H s)(k:∀ b u,s.heap.get? b=some u→h'.get? b=some u):Inv X pins σ H { s with heap:=h',toks:=t' }:=I.un (Un.kept k) (I.hok.kept k)
theorem Inv.laid{a:Addr}{o:HO}{t':Nat}(I:Inv X pins σ H s)(k:∀ b u,s.heap.get? b=some u→h'.get? b=some u)(hp:s.heap.objs.size≤a)(new:ObjOk X.prog X.w (upd H a o) h' a o):
 Inv X pins σ (upd H a o) { s with heap:=h',toks:=t' }:=I.un (Un.laid k hp (I.hok.fresh hp)) (I.hok.laid k hp new)
theorem Inv.write{x e:Addr}{o:HO}{t':Nat}(I:Inv X pins σ H s)(mu:Mut (H x))(he:e=x∨H e=some (.own x))(k:∀ b u,b≠e→s.heap.get? b=some u→h'.get? b=some u)(heo:∃ u,h'.get? e=some u)
 (new:ObjOk X.prog X.w (upd H x o) h' x o):Inv X pins σ (upd H x o) { s with heap:=h',toks:=t' }:=I.un (Un.write mu he k heo) (I.hok.write mu he k heo new)
theorem Inv.weak{σ':List (Option V)}(I:Inv X pins σ H s)(hl:σ'.length=σ.length)(w:∀(i:Nat) v,σ'[i]?=some (some v)→σ[i]?=some (some v)):Inv X pins σ' H s :=
 ⟨I.ok,I.os,I.bare,I.base,let ⟨m,hn,hl'⟩:=I.loc;⟨m,hn,fun i x v e1 e2 e3=>hl' i x v e1 (w i v e2) e3⟩,I.cell,I.free,I.freeC,I.pin,I.hok,hl.trans I.len⟩
theorem Inv.pins_of{pins':List (Addr×Obj)}(I:Inv X pins σ H s)(h:∀ p∈pins',s.heap.get? p.1=some p.2∧H p.1=none∧p.1≠X.env.locals∧p.1 ∉ X.fs∧∀ v,p.2.data ≠ .cell v):Inv X pins' σ H s :=
 ⟨I.ok,I.os,I.bare,I.base,I.loc,I.cell,I.free,I.freeC,fun p hp=>(List.mem_append.mp hp).elim (fun z=>I.pin p (List.mem_append_left _ z)) (h p),I.hok,I.len⟩
theorem zdn{N:List Str}(hN:N.Nodup){i j:Nat}{x:Str}(a:N[i]?=some x)(b:N[j]?=some x):i=j:=by
 obtain⟨h1,e1⟩:=List.getElem?_eq_some_iff.mp a
 obtain⟨h2,e2⟩:=List.getElem?_eq_some_iff.mp b
 exact(List.getElem_inj hN).mp (e1.trans e2.symm)
theorem zba{M:Model}{A:Around}{E:Value→Shared→Prop}{i:Nat}{x:Str}{v:V}{u:Value}{Q:Unit→Shared→Prop}(I:Inv X pins σ H s)(hN:X.N.Nodup)(hi:X.N[i]?=some x)(hx:Loc X.env.scope x)(r:RelV v u)
   (h:∀ s',Inv X pins (σ.set i (some v)) H s'→(∃ a,Heap.SameBut a s.heap s'.heap∧(a=X.env.locals∨X.env.cells.lookup x=some a))→Q () s') (hf:X.fn x=true∨X.env.scope.names.lookup x=some .local:=by first|exact .inl rfl|exact .inr rfl|assumption):wpAny M A (storeName X.env x u) Q E s:=by
 obtain⟨m,hn,hl⟩:=id I.loc
 have hcls:(X.env.scope.kind == .class||(X.env.scope.kind == .module&&X.env.locals != X.env.globals))=false:=by rw[I.ok.kind];rfl
 have hiσ:i<σ.length:=by rw[I.len];exact(List.getElem?_eq_some_iff.mp hi).1
 have cne:=I.cne
 have tracked:∀{a:Addr} {h':Heap},(∃ o,s.heap.get? a=some o∧H a=none)→Heap.SameBut a s.heap h'→HOk X.prog X.w H h':=fun{a h'} ha hs b ob e=>by
   obtain⟨_,_,hfree⟩:=ha
   refine(I.hok b ob e).stay (fun c w' hc q=>(hs.2 c ?_).trans q) (fun _ q=>q) fun _ _ q=>q
   rintro rfl
   rcases hc with rfl|hc
   · rw[hfree]at e;cases e
   · rw[hfree]at hc;cases hc
 rcases hx with hk|hk
 · refine wpAny_storeName_local hk hn (fun h' hn' hs=>?_) hcls
   obtain⟨oL,_,_,hoL,_⟩:=id hn
   refine h _ ⟨I.ok,I.os,I.bare,⟨fun b o e n hb hx=>?_,fun b o e n hb hx=>?_,I.base.free,fun b o e hx=>?_,I.base.tups,I.base.frzs,I.base.tbls⟩,⟨_,hn',fun j y v' e1 e2 e3=>?_⟩,fun y c e=>?_,I.free,I.freeC,fun p hp=>?_,tracked ⟨oL,hoL,I.free⟩ hs,by simpa using I.len⟩ ⟨_,hs,.inl rfl⟩
   · exact(hs.2 b (Nat.ne_of_lt (Nat.lt_of_lt_of_le (Heap.lt_size e) I.ok.above))).trans (I.base.keep b o e n hb hx)
   · obtain⟨sl,e1⟩:=I.base.slot b o e n hb hx
     exact⟨sl,(hs.2 b (Nat.ne_of_lt (Nat.lt_of_lt_of_le (Heap.lt_size e) I.ok.above))).trans e1⟩
   · obtain⟨o',e1⟩:=I.base.there b o e hx
     exact⟨o',(hs.2 b (Nat.ne_of_lt (Nat.lt_of_lt_of_le (Heap.lt_size e) I.ok.above))).trans e1⟩
   · by_cases hj:j=i
     · subst hj
       rw[hi]at e1;cases e1
       rw[List.getElem?_set_self hiσ]at e2
       cases e2
       exact⟨u,r,.inl ⟨hk,by simp⟩⟩
     · rw[List.getElem?_set_ne (Ne.symm hj)]at e2
       obtain⟨u',r',q⟩:=hl j y v' e1 e2 e3
       refine⟨u',r',?_⟩
       rcases q with⟨k,e⟩|⟨k,c,e,z⟩
       · refine .inl ⟨k,?_⟩
         have:y≠x:=fun e=>hj (zdn hN e1 (e ▸ hi))
         simp[this,e]
       · exact .inr ⟨k,c,e,z.sameBut hs (cne y c e)⟩
   · obtain⟨w',z⟩:=I.cell y c e
     exact⟨w',z.sameBut hs (cne y c e)⟩
   · obtain⟨e,n,ne,nf,d⟩:=I.pin p hp
     exact⟨(hs.2 p.1 ne).trans e,n,ne,nf,d⟩
 · have hfn:X.fn x=true:=by
     rcases hf with z|z
     · exact z
     · rw[z]at hk;cases hk
   obtain⟨c,hc⟩:=I.ok.has x (.inl hk)
   obtain⟨w',z⟩:=I.cell x c hc
   refine wpAny_storeName_cell I.ok.kind hk hc z (fun h' hc' hs=>?_)
   obtain⟨oc,hoc,hocd⟩:=id z
   refine h { s with heap:=h' } ⟨I.ok,I.os,I.bare,⟨fun b o e n hb hx=>?_,fun b o e n hb hx=>?_,I.base.free,fun b o e hx=>?_,I.base.tups,I.base.frzs,I.base.tbls⟩,⟨m,hn.sameBut hs (Ne.symm (cne x c hc)),fun j y v' e1 e2 e3=>?_⟩,fun y c' e=>?_,I.free,I.freeC,fun p hp=>?_,tracked ⟨oc,hoc,I.freeC x c hc⟩ hs,by simpa using I.len⟩ ⟨c,hs,.inr hc⟩
   · exact(hs.2 b (Nat.ne_of_lt (Nat.lt_of_lt_of_le (Heap.lt_size e) (I.ok.cab x c hfn hc)))).trans (I.base.keep b o e n hb hx)
   · obtain⟨sl,e1⟩:=I.base.slot b o e n hb hx
     exact⟨sl,(hs.2 b (Nat.ne_of_lt (Nat.lt_of_lt_of_le (Heap.lt_size e) (I.ok.cab x c hfn hc)))).trans e1⟩
   · obtain⟨o',e1⟩:=I.base.there b o e hx
     exact⟨o',(hs.2 b (Nat.ne_of_lt (Nat.lt_of_lt_of_le (Heap.lt_size e) (I.ok.cab x c hfn hc)))).trans e1⟩
   · by_cases hj:j=i
     · subst hj
       rw[hi]at e1;cases e1
       rw[List.getElem?_set_self hiσ]at e2
       cases e2
       exact⟨u,r,.inr ⟨.inl hk,c,hc,hc'⟩⟩
     · rw[List.getElem?_set_ne (Ne.symm hj)]at e2
       obtain⟨u',r',q⟩:=hl j y v' e1 e2 e3
       refine⟨u',r',?_⟩
       rcases q with q|⟨k,c',e,z'⟩
       · exact .inl q
       · refine .inr ⟨k,c',e,z'.sameBut hs ?_⟩
         rintro rfl
         exact hj (zdn hN e1 (I.ok.inj _ _ _ e hc ▸ hi))
   · by_cases hcc:c'=c
     · subst hcc;exact⟨_,hc'⟩
     · obtain⟨w2,z2⟩:=I.cell y c' e
       exact⟨w2,z2.sameBut hs hcc⟩
   · obtain⟨e,n,ne,nf,d⟩:=I.pin p hp
     refine⟨(hs.2 p.1 ?_).trans e,n,ne,nf,d⟩
     intro q
     rw[q,hoc]at e
     have q':oc=p.2:=Option.some.inj e
     exact d w' (by rw[←q'];exact hocd)
theorem zdo{M:Model}{A:Around}{E:Value→Shared→Prop}{i:Nat}{x:Str}{v:V}{u:Value}{Q:Unit→Shared→Prop}(I:Inv X pins σ H s)(hN:X.N.Nodup)(hi:X.N[i]?=some x)(hx:Loc X.env.scope x)(r:RelV v u)
  (h:∀ s',Inv X pins (σ.set i (some v)) H s'→Q () s') (hf:X.fn x=true∨X.env.scope.names.lookup x=some .local:=by first|exact .inl rfl|exact .inr rfl|assumption):wpAny M A (storeName X.env x u) Q E s :=
 zba I hN hi hx r (fun s' I' _=>h s' I') hf
theorem Inv.call'{s':Shared}{ch:List Addr}(I:Inv X pins σ H s)(ho:s'.os=s.os)(u:Un (frs X.stack) ch H H' s.heap s'.heap)(hok:HOk X.prog X.w H' s'.heap)(hg:AllBare s'.gens)
  (hch:∀ b∈ch,(b∈X.ex∨X.s₀.heap.objs.size≤b)∧b≠X.env.locals∧(∀ x c,X.env.cells.lookup x=some c→c≠b)∧∀ p∈X.pn++pins,p.1≠b):Inv X pins σ H' s':=by
 obtain⟨h',g',d',t',o'⟩:=s'
 have e:o'=s.os:=ho
 subst e
 exact I.call (g':=g') (t':=t') (d':=d') u hok hg hch
end
abbrev XK:=Value→Option Addr→Hp→Prop
abbrev St:=List (Option V)
abbrev VK:=V→Hp→Prop
abbrev TE:=St→Hp→VK→Prop
abbrev TT:=St→Hp→(Bool→Hp→Prop)→Prop
abbrev TA:=St→Hp→(List V→Hp→Prop)→Prop
structure Ends where
 nx:St→Hp→Prop
 rt:VK
 bk:St→Hp→Prop:=fun _ _=>False
 ct:St→Hp→Prop:=fun _ _=>False
abbrev TS:=Ends→St→Hp→Prop
def EP(X:Cx)(pins:List (Addr×Obj))(σ:St)(Q:VK)(u:Value)(s':Shared):Prop:=∃ v H',Inv X pins σ H' s'∧RelV v u∧Q v H'
def TP(X:Cx)(pins:List (Addr×Obj))(σ:St)(Q:Bool→Hp→Prop)(b:Bool)(s':Shared):Prop:=∃ H',Inv X pins σ H' s'∧Q b H'
def AP(X:Cx)(pins:List (Addr×Obj))(σ:St)(Q:List V→Hp→Prop)(us:List Value)(s':Shared):Prop:=∃ vs H',Inv X pins σ H' s'∧Vals vs us∧Q vs H'
def SP(X:Cx)(pins:List (Addr×Obj))(D:Ends)(f:Flow)(s':Shared):Prop :=
 match f with
 | .next=>∃ σ' H',Inv X pins σ' H' s'∧D.nx σ' H'
 | .brk=>∃ σ' H',Inv X pins σ' H' s'∧D.bk σ' H'
 | .cont=>∃ σ' H',Inv X pins σ' H' s'∧D.ct σ' H'
 | .ret u=>∃ v σ' H',Inv X pins σ' H' s'∧RelV v u∧D.rt v H'
def PE(X:Cx)(e:Expr)(t:TE):Prop :=
 ∀(pins:List (Addr×Obj)) (s:Shared) (σ:St) (H:Hp) (Q:VK),Inv X pins σ H s→t σ H Q→wpAny (model X.prog X.w) X.A (eval e X.env) (EP X pins σ Q) X.xe s
def PT(X:Cx)(e:Expr)(t:TT):Prop :=
 ∀(pins:List (Addr×Obj)) (s:Shared) (σ:St) (H:Hp) (Q:Bool→Hp→Prop),Inv X pins σ H s→t σ H Q→wpAny (model X.prog X.w) X.A (isTrue e X.env (eval e X.env)) (TP X pins σ Q) X.xe s
def PW(X:Cx)(e:Expr)(t:TT):Prop :=
 ∀(whole:Sem Value) (pins:List (Addr×Obj)) (s:Shared) (σ:St) (H:Hp) (Q:Bool→Hp→Prop),Inv X pins σ H s→t σ H Q→wpAny (model X.prog X.w) X.A (isTrue e X.env whole) (TP X pins σ Q) X.xe s
theorem PW.pt{X:Cx}{e:Expr}{t:TT}(h:PW X e t):PT X e t:=h _
def PA(X:Cx)(es:List Expr)(t:TA):Prop :=
 ∀(pos:Pos) (pins:List (Addr×Obj)) (s:Shared) (σ:St) (H:Hp) (Q:List V→Hp→Prop),Inv X pins σ H s→t σ H Q→wpAny (model X.prog X.w) X.A (spliced (backTo pos (starEach es X.env))) (AP X pins σ Q) X.xe s
def PS(X:Cx)(st:Stmt)(t:TS):Prop :=
 ∀(pins:List (Addr×Obj)) (s:Shared) (σ:St) (H:Hp) (D:Ends),Inv X pins σ H s→t D σ H→wpAny (model X.prog X.w) X.A (exec st X.env) (SP X pins D) X.xe s
def PSs(X:Cx)(st:List Stmt)(t:TS):Prop :=
 ∀(pins:List (Addr×Obj)) (s:Shared) (σ:St) (H:Hp) (D:Ends),Inv X pins σ H s→t D σ H→wpAny (model X.prog X.w) X.A (execs st X.env) (SP X pins D) X.xe s
theorem thn{α:Type}{t:Sem α}{Q Q':α→Shared→Prop}{M:Model}{A:Around}{E:Value→Shared→Prop}{s:Shared}(h:wpAny M A t Q E s)(hQ:∀ a s,Q a s→Q' a s):wpAny M A t Q' E s:=wpAny_mono h hQ fun _ _ x=>x
end L2
namespace L2
open PySem PySem.Spec PyProof.Rows
section
variable {X:Cx}
def tVar(i:Nat):TE:=fun σ H Q=>∃ v,σ[i]?=some (some v)∧Q v H
def tC(v:V):TE:=fun _ H Q=>Q v H
theorem zcz{i:Nat}{x:Str}{pos:Pos}(hN:X.N[i]?=some x)(hv:Vis X.env.scope x)(hd:(x==("__debug__" : Str))=false:=by decide)(hcd:(x==("__classdict__" : Str))=false:=by decide):PE X (.Name x pos) (tVar i):=by
 intro pins s σ H Q I h
 obtain⟨v,e,h⟩:=h
 obtain⟨m,hn,hl⟩:=I.loc
 obtain⟨u,r,l⟩:=hl i x v hN e hv
 have fin:EP X pins σ Q u s:=⟨v,H,I,r,h⟩
 rcases l with⟨hk,hm⟩|⟨hk,c,hc,hcell⟩
 · exact wpAny_Name (wpAny_loadName_local I.ok.kind hk hn hm fin) hd
 · rcases hk with hk|hk
   · exact wpAny_Name (wpAny_loadName_cell I.ok.kind hk hc hcell fin) hd
   · exact wpAny_Name (wpAny_loadName_free I.ok.kind hk hc hcell fin hcd) hd
theorem pe_int{i j pos}:PE X (.Constant (.int i) j pos) (tC (.int i)):=fun _ _ _ H _ I h=>wpAny_Constant_int ⟨.int i,H,I.tok _,⟨_,rfl⟩,h⟩
theorem pe_bl{b j pos}:PE X (.Constant (.bool b) j pos) (tC (.bl b)):=fun _ _ _ H _ I h=>Constant_bool ⟨.bl b,H,I,rfl,h⟩
theorem pe_non{j pos}:PE X (.Constant .none j pos) (tC .non):=fun _ _ _ H _ I h=>Constant_none ⟨.non,H,I,rfl,h⟩
theorem pe_str{x j pos}:PE X (.Constant (.str x) j pos) (tC (.str x)):=fun _ _ _ H _ I h=>Calls.Constant_str ⟨.str x,H,I.tok _,⟨_,rfl⟩,h⟩
def Gl(X:Cx)(x:Str):Prop:=X.env.kindOf x=some .globalImplicit
theorem zju{E:Value→Shared→Prop}{pins:List (Addr×Obj)}{s:Shared}{σ:St}{H:Hp}{x:Str}{u:Value}{pos:Pos}{Q:Value→Shared→Prop}(I:Inv X pins σ H s)(hg:Gl X x)(hm:X.mg x=some u)(h:Q u s)
  (hd:(x==("__debug__" : Str))=false:=by decide):wpAny (model X.prog X.w) X.A (eval (.Name x pos) X.env) Q E s :=
 Calls.Name_function_global I.ok.kind hg (Calls.loadGlobal_global (by rw[I.ok.glob];exact I.mod.glob.keeps I.bk) hm h) hd
theorem z4x{E:Value→Shared→Prop}{pins:List (Addr×Obj)}{s:Shared}{σ:St}{H:Hp}{x:Str}{u:Value}{pos:Pos}{Q:Value→Shared→Prop}(I:Inv X pins σ H s)(hg:Gl X x)(hm:X.mg x=none)(hv:bootBuiltins x=some u)(h:Q u s)
  (hn:x ≠ "__name__" := by decide) (hd:(x==("__debug__" : Str))=false:=by decide):wpAny (model X.prog X.w) X.A (eval (.Name x pos) X.env) Q E s:=by
 obtain⟨mb,h1,h2⟩:=I.mod.blt
 exact Calls.Name_function_global I.ok.kind hg (Calls.loadGlobal_builtin (by rw[I.ok.glob];exact I.mod.glob.keeps I.bk) hm (by rw[I.ok.blt];exact h1.keeps I.bk) ((h2 x hn).trans hv) h) hd
theorem zjv{x:Str}{v:V}{u:Value}{pos:Pos}(hg:Gl X x)(hm:X.mg x=some u)(r:RelV v u)(hd:(x==("__debug__" : Str))=false:=by decide):PE X (.Name x pos) (tC v) :=
 fun _ _ _ H _ I h=>zju I hg hm ⟨v,H,I,r,h⟩ hd
theorem zpw{x:Str}{v:V}{u:Value}{pos:Pos}(hg:Gl X x)(hm:X.mg x=none)(hv:bootBuiltins x=some u)(r:RelV v u)(hn:x ≠ "__name__" := by decide)(hd:(x==("__debug__" : Str))=false:=by decide):PE X (.Name x pos) (tC v) :=
 fun _ _ _ H _ I h=>z4x I hg hm hv ⟨v,H,I,r,h⟩ hn hd
variable {a b:Expr}{ta tb:TE}{pos:Pos}
variable {tA tB':TT}{rest:List Expr}
def tOr(t u:TT):TT:=fun σ H Q=>t σ H fun c H1=>if c=true then Q true H1 else u σ H1 Q
def tNot(t:TT):TT:=fun σ H Q=>t σ H fun c H1=>Q (!c) H1
theorem pw_or1(ha:PT X a tA):PW X (.BoolOp .Or [a] pos) tA:=by
 intro wh pins s σ H Q I h
 refine isTrue_or (thn (ha pins s σ H Q I h) fun c s1 e=>?_)
 cases c with
 | false=>exact isTrue_or_nil e
 | true=>exact e
theorem pw_or(ha:PT X a tA)(hb:PW X (.BoolOp .Or (b::rest) pos) tB'):PW X (.BoolOp .Or (a::b::rest) pos) (tOr tA tB'):=by
 intro wh pins s σ H Q I h
 refine isTrue_or (thn (ha pins s σ H _ I h) ?_)
 rintro c s1 ⟨H1,I1,q1⟩
 cases c with
 | true=>exact⟨H1,I1,q1⟩
 | false=>exact hb wh pins s1 σ H1 Q I1 q1
theorem pt_not(ha:PT X a tA):PT X (.UnaryOp .Not a pos) (tNot tA):=by
 intro pins s σ H Q I h
 exact isTrue_not (ha pins s σ H (fun c H1=>Q (!c) H1) I h)
def tAndV(ta tb:TE):TE:=fun σ H Q=>ta σ H fun x H1=>∃ c,x = .bl c∧if c=true then tb σ H1 Q else Q (.bl false) H1
def tNotV(ta:TE):TE:=fun σ H Q=>ta σ H fun x H1=>∃ c,x = .bl c∧Q (.bl (!c)) H1
theorem pe_one{op}{t:TE}(h:PE X a t):PE X (.BoolOp op [a] pos) t:=fun pins s σ H Q I hw=>BoolOp_one (h pins s σ H Q I hw)
theorem pe_and(ha:PE X a ta)(hb:PE X (.BoolOp .And (b::rest) pos) tb):PE X (.BoolOp .And (a::b::rest) pos) (tAndV ta tb):=by
 intro pins s σ H Q I h
 refine BoolOp_and (thn (ha pins s σ H _ I h) ?_)
 rintro v s1 ⟨x,H1,I1,r1,q1⟩
 obtain⟨c,rfl,q1⟩:=q1
 cases r1
 refine wpAny_truthy_bool ?_
 cases c with
 | true=>exact hb pins s1 σ H1 Q I1 q1
 | false=>exact⟨.bl false,H1,I1,rfl,q1⟩
theorem pe_not(ha:PE X a ta):PE X (.UnaryOp .Not a pos) (tNotV ta):=by
 intro pins s σ H Q I h
 refine UnaryOp_ (thn (ha pins s σ H _ I h) ?_)
 rintro v s1 ⟨x,H1,I1,r1,q1⟩
 obtain⟨c,rfl,q1⟩:=q1
 cases r1
 exact not_of (wpAny_truthy_bool ⟨.bl (!c),H1,I1,rfl,q1⟩)
def tIf(t:TT)(ta tb:TE):TE:=fun σ H Q=>t σ H fun c H1=>if c=true then ta σ H1 Q else tb σ H1 Q
theorem zls{c:Expr}(hc:PT X c tA)(ha:PE X a ta)(hb:PE X b tb):PE X (.IfExp c a b pos) (tIf tA ta tb):=by
 intro pins s σ H Q I h
 refine wpAny_IfExp (thn (hc pins s σ H _ I h) ?_)
 rintro d s1 ⟨H1,I1,q1⟩
 cases d with
 | true=>exact ha pins s1 σ H1 Q I1 q1
 | false=>exact hb pins s1 σ H1 Q I1 q1
end
end L2
namespace L2
open PySem PySem.Spec PyProof.Rows
def SqL(K:PySem.W.Frag)(H:Hp)(a:Addr)(xs:List V):Prop :=
 Rd H a (.lst xs) ∨
  ∃(o:Obj) (its:Array Value) (n:Nat),K.lookup a=some o∧o.cls = .type "list" ∧ o.dict=none∧o.data = .seq its n∧its.size≤sizeLine∧Vals xs its.toList
def SqT(K:PySem.W.Frag)(H:Hp)(a:Addr)(xs:List V):Prop :=
 Rd H a (.tup xs) ∨
  ∃(o:Obj) (its:Array Value) (n:Nat),K.lookup a=some o∧o.cls = .type "tuple" ∧ o.data = .seq its n∧its.size≤sizeLine∧Vals xs its.toList
def absV:Value→Option V
 | .none=>some .non
 | .bool b=>some (.bl b)
 | .int i _=>some (.int i)
 | .str x _=>some (.str x)
 | .bytes b _=>some (.byt b)
 | .float b _=>some (.flt b)
 | .ref a=>some (.ref a)
 | .type n=>some (.ty n)
 | _=>none
theorem RelV.abs{x:V}{u:Value}(r:RelV x u):absV u=some x:=by
 cases x with
 | non=>cases r;rfl
 | bl _=>cases r;rfl
 | int _=>obtain⟨t,rfl⟩:=r;rfl
 | str _=>obtain⟨t,rfl⟩:=r;rfl
 | byt _=>obtain⟨t,rfl⟩:=r;rfl
 | flt _=>obtain⟨t,rfl⟩:=r;rfl
 | ref _=>cases r;rfl
 | ty _=>cases r;rfl
theorem RelV.inj{x y:V}{u:Value}(r:RelV x u)(q:RelV y u):x=y:=Option.some.inj (r.abs.symm.trans q.abs)
theorem Vals.inj:∀{xs ys:List V} {us:List Value},Vals xs us→Vals ys us→xs=ys
 | _,_,_,.nil,.nil=>rfl
 | _,_,_,.cons r t,.cons r' t'=>by rw[r.inj r',Vals.inj t t']
section
variable {X:Cx}{pins:List (Addr×Obj)}{σ:St}{H:Hp}{s:Shared}{a:Addr}{xs ys:List V}
theorem SqL.of{K:PySem.W.Frag}(h:H a=some (.lst xs)):SqL K H a xs := .inl (.inl h)
theorem SqT.of{K:PySem.W.Frag}(h:H a=some (.tup xs)):SqT K H a xs := .inl (.inl h)
theorem Inv.list(I:Inv X pins σ H s)(h:SqL X.K H a xs):∃ its:List Value,Vals xs its∧PlainL s.heap a its.toArray∧xs.length≤sizeLine:=by
 rcases h with h|⟨o,its,n,hk,hc,hd,hs,hz,r⟩
 · obtain⟨z,its,n,r,e⟩:=h.ok I.hok
   exact⟨its,r,⟨_,n,e,rfl,rfl,rfl⟩,z⟩
 · refine⟨its.toList,r,⟨o,n,I.kIn a o hk,hc,hd,by simpa using hs⟩,?_⟩
   have e:=r.length
   simp only[Array.length_toList]at e
   omega
theorem Inv.tuple(I:Inv X pins σ H s)(h:SqT X.K H a xs):∃ its:List Value,Vals xs its∧IsTup s.heap a its.toArray∧xs.length≤sizeLine:=by
 rcases h with h|⟨o,its,n,hk,hc,hs,hz,r⟩
 · obtain⟨z,its,r,p⟩:=h.ok I.hok
   exact⟨its,r,p,z⟩
 · refine⟨its.toList,r,⟨o,I.kIn a o hk,hc,n,by simpa using hs⟩,?_⟩
   have e:=r.length
   simp only[Array.length_toList]at e
   omega
theorem Inv.list_inj(I:Inv X pins σ H s)(h:SqL X.K H a xs)(h':SqL X.K H a ys):xs=ys:=by
 obtain⟨its,r,⟨o,n,e,_,_,d⟩,_⟩:=I.list h
 obtain⟨its',r',⟨o',n',e',_,_,d'⟩,_⟩:=I.list h'
 rw[e]at e';cases e'
 rw[d]at d'
 injection d' with d1 _
 have:its=its':=by simpa using congrArg Array.toList d1
 subst this
 exact r.inj r'
theorem Inv.tuple_inj(I:Inv X pins σ H s)(h:SqT X.K H a xs)(h':SqT X.K H a ys):xs=ys:=by
 obtain⟨its,r,⟨o,e,_,n,d⟩,_⟩:=I.tuple h
 obtain⟨its',r',⟨o',e',_,n',d'⟩,_⟩:=I.tuple h'
 rw[e]at e';cases e'
 rw[d]at d'
 injection d' with d1 _
 have:its=its':=by simpa using congrArg Array.toList d1
 subst this
 exact r.inj r'
end
abbrev Cx.wish(X:Cx)(E:Value→Shared→Prop):Cx:={ X with xe:=E }
abbrev Cx.nox(X:Cx):Cx:=X.wish fun _ _=>False
theorem Cx.Ok.wish{X:Cx}(ok:X.Ok)(E:Value→Shared→Prop):(X.wish E).Ok :=
 ⟨ok.mod,ok.kind,ok.glob,ok.blt,ok.above,ok.inj,ok.has,ok.cab,ok.hd,ok.frames,ok.stk,ok.exf,ok.bs,ok.bsz,ok.noex,ok.exfs,ok.funs,ok.frf⟩
theorem Cx.Ok.unwish{X:Cx}{E:Value→Shared→Prop}(ok:(X.wish E).Ok):X.Ok :=
 ⟨ok.mod,ok.kind,ok.glob,ok.blt,ok.above,ok.inj,ok.has,ok.cab,ok.hd,ok.frames,ok.stk,ok.exf,ok.bs,ok.bsz,ok.noex,ok.exfs,ok.funs,ok.frf⟩
section
variable {X:Cx}{pins:List (Addr×Obj)}{σ:St}{H:Hp}{s:Shared}{E:Value→Shared→Prop}
theorem Inv.wish(I:Inv X pins σ H s)(E:Value→Shared→Prop):Inv (X.wish E) pins σ H s:=⟨I.ok.wish E,I.os,I.bare,I.base,I.loc,I.cell,I.free,I.freeC,I.pin,I.hok,I.len⟩
theorem Inv.unwish(I:Inv (X.wish E) pins σ H s):Inv X pins σ H s:=⟨I.ok.unwish,I.os,I.bare,I.base,I.loc,I.cell,I.free,I.freeC,I.pin,I.hok,I.len⟩
theorem SP.unwish{D:Ends}{f:Flow}{s':Shared}(h:SP (X.wish E) pins D f s'):SP X pins D f s':=by
 cases f with
 | next=>obtain⟨σ',H',I,q⟩:=h;exact⟨σ',H',I.unwish,q⟩
 | brk=>obtain⟨σ',H',I,q⟩:=h;exact⟨σ',H',I.unwish,q⟩
 | cont=>obtain⟨σ',H',I,q⟩:=h;exact⟨σ',H',I.unwish,q⟩
 | ret u=>obtain⟨v,σ',H',I,r,q⟩:=h;exact⟨v,σ',H',I.unwish,r,q⟩
theorem PSs.nox{st:List Stmt}{t:TS}(h:PSs X.nox st t):PSs X st t:=fun pins s σ H D I hw =>
 wpAny_mono (h pins s σ H D (I.wish _) hw) (fun _ _ q=>q.unwish) fun _ _ z=>False.elim z
end
section
variable {X:Cx}{st:Stmt}{rest:List Stmt}{t u:TS}{e:Expr}{te:TE}{pos:Pos}
def tNext:TS:=fun D σ H=>D.nx σ H
def tSeq(t u:TS):TS:=fun D σ H=>t { D with nx:=u D } σ H
theorem zpx:PSs X [] tNext:=fun _ _ σ H _ I h=>wpAny_execs_nil ⟨σ,H,I,h⟩
theorem zlt(h1:PS X st t)(h2:PSs X rest u):PSs X (st::rest) (tSeq t u):=by
 intro pins s σ H D I h
 refine wpAny_execs_cons (thn (h1 pins s σ H { D with nx:=u D } I h) fun f s1 q=>?_)
 cases f with
 | next =>
  obtain⟨σ',H',I',q⟩:=q
  exact h2 pins s1 σ' H' D I' q
 | ret v=>exact q
 | brk=>exact q
 | cont=>exact q
theorem zpy(h1:PS X st t):PSs X [st] t:=by
 intro pins s σ H D I h
 refine wpAny_execs_cons (thn (h1 pins s σ H D I h) fun f s1 q=>?_)
 cases f with
 | next=>exact wpAny_execs_nil q
 | ret v=>exact q
 | brk=>exact q
 | cont=>exact q
theorem Inv.quiet{pins:List (Addr×Obj)}{σ:St}{H:Hp}{s:Shared}(I:Inv X pins σ H s):interactive X.env=false:=by simp[interactive,I.ok.kind]
def tDrop(te:TE):TS:=fun D σ H=>te σ H fun _ H1=>D.nx σ H1
theorem zcA(he:PE X e te)(hs:swapsWith e none pos.line X.env=pure false:=by rfl):PS X (.Expr e pos) (tDrop te):=by
 intro pins s σ H D I h
 exact wpAny_Expr_any (thn (he pins s σ H _ I h) fun v s1 hZ=>hZ.elim fun x hZ=>hZ.elim fun H1 hZ=>hZ.elim fun I1 hZ=>hZ.elim fun r1 q1=>⟨σ,H1,I1,q1⟩) I.quiet hs
def tRet(te:TE):TS:=fun D σ H=>te σ H D.rt
theorem ps_ret(he:PE X e te):PS X (.Return (some e) pos) (tRet te):=by
 intro pins s σ H D I h
 exact wpAny_Return_some (thn (he pins s σ H _ I h) fun v s1 hZ=>hZ.elim fun x hZ=>hZ.elim fun H1 hZ=>hZ.elim fun I1 hZ=>hZ.elim fun r1 q1=>⟨x,σ,H1,I1,r1,q1⟩)
def tIfS(c:TT)(t u:TS):TS:=fun D σ H=>c σ H fun b H1=>if b=true then t D σ H1 else u D σ H1
theorem ps_if{c:Expr}{a b:List Stmt}{tc:TT}(hc:PT X c tc)(ha:PSs X a t)(hb:PSs X b u):PS X (.If c a b pos) (tIfS tc t u):=by
 intro pins s σ H D I h
 refine wpAny_If (thn (hc pins s σ H _ I h) ?_)
 rintro d s1 ⟨H1,I1,q1⟩
 cases d with
 | true=>exact ha pins s1 σ H1 D I1 q1
 | false=>exact hb pins s1 σ H1 D I1 q1
end
abbrev TG:=V→St→Hp→(St→Hp→Prop)→Prop
abbrev TGs:=List V→St→Hp→(St→Hp→Prop)→Prop
def PG(X:Cx)(target:Expr)(t:TG):Prop :=
 ∀(pins:List (Addr×Obj)) (s:Shared) (σ:St) (H:Hp) (v:V) (u:Value) (Q:St→Hp→Prop),Inv X pins σ H s→RelV v u→t v σ H Q →
  wpAny (model X.prog X.w) X.A (assign target X.env u) (fun _ s'=>∃ σ' H',Inv X pins σ' H' s'∧Q σ' H') X.xe s
def PGs(X:Cx)(ts:List Expr)(t:TGs):Prop :=
 ∀(pins:List (Addr×Obj)) (s:Shared) (σ:St) (H:Hp) (vs:List V) (us:List Value) (Q:St→Hp→Prop),Inv X pins σ H s→Vals vs us→t vs σ H Q →
  wpAny (model X.prog X.w) X.A (assignInOrder ((assignEach ts X.env).map (·.2)) us) (fun _ s'=>∃ σ' H',Inv X pins σ' H' s'∧Q σ' H') X.xe s
abbrev TSet:=V→V→V→Hp→(Hp→Prop)→Prop
def PSet(X:Cx)(t:TSet):Prop :=
 ∀(pins:List (Addr×Obj)) (s:Shared) (σ:St) (H:Hp) (o i v:V) (ov iv u:Value) (Q:Hp→Prop),Inv X pins σ H s→RelV o ov→RelV i iv→RelV v u→t o i v H Q →
  wpAny (model X.prog X.w) X.A (setItem ov iv u) (fun _ s'=>∃ H',Inv X pins σ H' s'∧Q H') X.xe s
section
variable {X:Cx}{pos:Pos}
def z9s(i:Nat):TG:=fun v σ H Q=>Q (σ.set i (some v)) H
theorem z0J{i:Nat}{x:Str}(hN:X.N.Nodup)(hi:X.N[i]?=some x)(hx:Loc X.env.scope x)(hf:X.fn x=true∨X.env.scope.names.lookup x=some .local:=by first|exact .inl rfl|exact .inr rfl|assumption):PG X (.Name x pos) (z9s i):=by
 intro pins s σ H v u Q I r h
 exact wpAny_assign_Name (zdo I hN hi hx r (fun s' I'=>⟨_,H,I',h⟩) hf)
def gNil:TGs:=fun vs σ H Q=>vs=[]∧Q σ H
def gCons(t:TG)(u:TGs):TGs:=fun vs σ H Q=>∃ v r,vs=v::r∧t v σ H fun σ' H'=>u r σ' H' Q
theorem zpz:PGs X [] gNil:=by
 intro pins s σ H vs us Q I r h
 obtain⟨e,h⟩:=h
 subst e
 cases r
 exact assignInOrder_nil ⟨σ,H,I,h⟩
theorem zlu{e:Expr}{es:List Expr}{t:TG}{u:TGs}(h1:PG X e t)(h2:PGs X es u)
  (hs:(assignEach (e::es) X.env).map (·.2)=assign e X.env::(assignEach es X.env).map (·.2):=by rfl):PGs X (e::es) (gCons t u):=by
 intro pins s σ H vs us Q I r h
 obtain⟨v,vr,e1,h⟩:=h
 subst e1
 cases r with
 | cons r rr =>
  rw[hs]
  refine assignInOrder_cons (thn (h1 pins s σ H _ _ _ I r h) ?_)
  rintro _ s1 ⟨σ1,H1,I1,q1⟩
  exact h2 pins s1 σ1 H1 _ _ Q I1 rr q1
def gTup(K:PySem.W.Frag)(n:Nat)(t:TGs):TG:=fun v σ H Q=>∃ a xs,v = .ref a∧SqT K H a xs∧xs.length=n∧t xs σ H Q
theorem pg_tup{es:List Expr}{k:Nat}{t:TGs}{n:Nat}(hc:X.calm=true)(h:PGs X es t)
  (hn:(assignEach es X.env).length=n:=by rfl) (hst:(assignEach es X.env).findIdx? (·.1)=none:=by rfl):PG X (.Tuple es k pos) (gTup X.K n t):=by
 intro pins s σ H v u Q I r hw
 obtain⟨a,xs,e1,hq,hl,hw⟩:=hw
 subst e1
 cases r
 obtain⟨its,rv,ht,hz⟩:=I.tuple hq
 refine assign_Tuple_tuple (I.ok.hd hc) ht (by simp[hn,←hl,rv.length]) hst fun h' hx=>?_
 have I1:Inv X pins σ H { s with heap:=h' }:=I.kept (t':=s.toks) fun b o e=>hx b o (Nat.ne_of_lt (Heap.lt_size e)) e
 exact h pins _ σ H xs _ Q I1 (by simpa using rv) hw
def gSub(to ti:TE)(t:TSet):TG:=fun v σ H Q=>to σ H fun o H1=>ti σ H1 fun i H2=>t o i v H2 fun H3=>Q σ H3
theorem pg_sub{o i:Expr}{to ti:TE}{t:TSet}(ho:PE X o to)(hi:PE X i ti)(hs:PSet X t)
  (ha:∀ v,assign (.Subscript o i pos) X.env v=(do
   let ov ←holding [v] (eval o X.env)
   let iv ←holding [v,ov] (eval i X.env)
   standAt pos
   holding [v,ov,iv] (setItem ov iv v)
   release [v,ov,iv] []):=by intro _;rfl):PG X (.Subscript o i pos) (gSub to ti t):=by
 intro pins s σ H v u Q I r h
 rw[ha]
 refine wpAny_bind (wpAny_holding (thn (ho pins s σ H _ I h) ?_))
 rintro ov s1 ⟨x,H1,I1,r1,q1⟩
 refine wpAny_bind (wpAny_holding (thn (hi pins s1 σ H1 _ I1 q1) ?_))
 rintro iv s2 ⟨y,H2,I2,r2,q2⟩
 refine wpAny_bind (wpAny_standAt (wpAny_bind (wpAny_holding (thn (hs pins s2 σ H2 x y v ov iv u _ I2 r1 r2 r q2) ?_))))
 rintro _ s3 ⟨H3,I3,q3⟩
 exact wpAny_release ⟨σ,H3,I3,q3⟩
def tAsg(te:TE)(g:TG):TS:=fun D σ H=>te σ H fun x H1=>g x σ H1 D.nx
theorem ps_asg{tg e:Expr}{te:TE}{g:TG}(he:PE X e te)(hg:PG X tg g)(hs:swapsWithSole [tg] e pos.line X.env=pure false:=by rfl)(hw:swappedStores [tg] e X.env=pure none:=by rfl)
  (h1:(assignEach [tg] X.env).map (·.2)=[assign tg X.env]:=by rfl):PS X (.Assign [tg] e pos) (tAsg te g):=by
 intro pins s σ H D I h
 refine wpAny_Assign_stores (thn (he pins s σ H _ I h) fun v s1 hZ=>hZ.elim fun x hZ=>hZ.elim fun H1 hZ=>hZ.elim fun I1 hZ=>hZ.elim fun r1 q1=>?_) hs hw
 rw[h1]
 exact thn (hg pins s1 σ H1 x v _ I1 r1 q1) fun _ s2 q=>q
theorem ps_set{i:Nat}{x:Str}{e:Expr}{te:TE}{pos':Pos}(hN:X.N.Nodup)(hi:X.N[i]?=some x)(hx:Loc X.env.scope x)(he:PE X e te)(hs:swapsWith e (some (.Name x pos')) pos.line X.env=pure false:=by rfl)(hf:X.fn x=true∨X.env.scope.names.lookup x=some .local:=by first|exact .inl rfl|exact .inr rfl|assumption):
  PS X (.Assign [.Name x pos'] e pos) (tAsg te (z9s i)):=by
 intro pins s σ H D I h
 refine wpAny_Assign_Name (thn (he pins s σ H _ I h) fun v s1 hZ=>hZ.elim fun y hZ=>hZ.elim fun H1 hZ=>hZ.elim fun I1 hZ=>hZ.elim fun r1 q1=>?_) hs
 exact zdo I1 hN hi hx r1 (fun s2 I2=>⟨_,H1,I2,q1⟩) hf
end
section
variable {X:Cx}{pos:Pos}
def tWhile(c:TT)(tb:TS):TS:=fun D σ H=>∃ W:Nat→St→Hp→Prop,(∃ m,W m σ H)∧∀ m σ H,W m σ H →
 c σ H fun b H1=>if b=true then ∃ N:St→Hp→Prop,(∀ σ' H',N σ' H'→∃ m',m'<m∧W m' σ' H')∧tb { D with nx:=N,ct:=N,bk:=D.nx } σ H1 else D.nx σ H1
theorem zlv{c:Expr}{body:List Stmt}{tc:TT}{tb:TS}(hp:PassesOwn (model X.prog X.w) X.A X.env X.xe)(hc:PT X c tc)(hb:PSs X body tb):PS X (.While c body [] pos) (tWhile tc tb):=by
 intro pins s σ H D I h
 obtain⟨W,⟨m0,w0⟩,turn⟩:=h
 refine wpAny_While (codeAny_whileLoop (fun n s'=>∃ σ' H',Inv X pins σ' H' s'∧W n σ' H') ?_ m0 ⟨σ,H,I,w0⟩)
 rintro n s1 ⟨σ1,H1,I1,w1⟩
 refine wpAny_passesOwn hp (thn (hc pins s1 σ1 H1 _ I1 (turn n σ1 H1 w1)) ?_)
 rintro b s2 ⟨H2,I2,q2⟩
 cases b with
 | true =>
  obtain⟨N,hN,q2⟩:=q2
  rw[if_pos rfl]
  refine wpAny_passesOwn hp (thn (hb pins s2 σ1 H2 _ I2 q2) fun f s3 q3=>?_)
  cases f with
  | next =>
   obtain⟨σ3,H3,I3,n3⟩:=q3
   obtain⟨m',hm,w3⟩:=hN σ3 H3 n3
   exact⟨m',hm,σ3,H3,I3,w3⟩
  | cont =>
   obtain⟨σ3,H3,I3,n3⟩:=q3
   obtain⟨m',hm,w3⟩:=hN σ3 H3 n3
   exact⟨m',hm,σ3,H3,I3,w3⟩
  | brk=>exact q3
  | ret v=>exact q3
 | false =>
  rw[if_neg Bool.false_ne_true]
  exact wpAny_execs_nil ⟨σ1,H2,I2,q2⟩
end
structure It where
 go:Nat→Hp→Prop
 yld:Nat→Hp→V→Hp→Prop
 stop:Nat→Hp→Prop
def FpOk(X:Cx)(pins:List (Addr×Obj))(H:Hp)(b:Addr):Prop :=
 H b=none∧b≠X.env.locals∧b ∉ X.fs∧(b∈X.ex∨X.s₀.heap.objs.size≤b)∧(∀ x c,X.env.cells.lookup x=some c→c≠b)∧∀ p∈X.pn++pins,p.1≠b
theorem Inv.fpOk{X:Cx}{pins:List (Addr×Obj)}{σ:St}{H H':Hp}{s:Shared}{b:Addr}(I:Inv X pins σ H s)(hb:s.heap.objs.size≤b)(hn:H' b=none):FpOk X pins H' b:=by
 refine⟨hn,Nat.ne_of_gt (Nat.lt_of_lt_of_le I.lt hb),I.nofs hb,.inr (Nat.le_trans I.sz hb),fun x c e z=>?_,fun p hp z=>?_⟩
 · obtain⟨v,q⟩:=I.cell x c e
   exact absurd (Nat.lt_of_lt_of_le q.lt (by rw[z];exact hb)) (Nat.lt_irrefl _)
 · exact absurd (Nat.lt_of_lt_of_le (Heap.lt_size (I.pin p hp).1) (by rw[z];exact hb)) (Nat.lt_irrefl _)
structure Turn(P:Program)(w:World)(K:PySem.W.Frag)(tg:Expr)(J:It)(fp:List Addr)(it:Addr)(tn:Nat→Heap→Prop):Prop where
 mem:it∈fp
 obj:∀ i h,tn i h→∀ b∈fp,∃ o,h.get? b=some o∧∀ v,o.data ≠ .cell v
 keep:∀ i h h',tn i h→(∀ b∈fp,∀ o,h.get? b=some o→h'.get? b=some o)→tn i h'
 item:∀(X:Cx),X.prog=P→X.w=w→X.K=K→X.calm=true→∀(i:Nat) (pins:List (Addr×Obj)) (s:Shared) (σ:St) (H:Hp) (E:Value→Shared→Prop),Inv X pins σ H s→(∀ b∈fp,FpOk X pins H b)→tn i s.heap→J.go i H →
  wpAny (model P w) X.A (pyNext (.ref it)) (fun r s1=>∃ u,r=some u ∧
   wpAny (model P w) X.A (letOwnedTupleGo tg (.ref it) u) (fun _ s2=>∃ x H',Inv X pins σ H' s2∧RelV x u∧J.yld i H x H'∧tn (i+1) s2.heap∧∀ b∈fp,H' b=none) E s1) E s
 done:∀(X:Cx),X.prog=P→X.w=w→X.K=K→X.calm=true→∀(i:Nat) (pins:List (Addr×Obj)) (s:Shared) (σ:St) (H:Hp) (E:Value→Shared→Prop),Inv X pins σ H s→(∀ b∈fp,FpOk X pins H b)→tn i s.heap→J.stop i H →
  wpAny (model P w) X.A (pyNext (.ref it)) (fun r s1=>r=none∧Inv X pins σ H s1) E s
 self:∀(A:Around) (i:Nat) (s:Shared) (Q:Value→Shared→Prop) (E:Value→Shared→Prop),tn i s.heap→Q (.ref it) s→wpAny (model P w) A (pyIter (.ref it)) Q E s
abbrev TI:=St→Hp→(It→Hp→Prop)→Prop
def PIE(X:Cx)(pins:List (Addr×Obj))(σ:St)(tg:Expr)(R:It→Hp→Prop)(itv:Value)(s2:Shared):Prop :=
 ∃(it:Addr) (fp:List Addr) (tn:Nat→Heap→Prop) (J:It) (H':Hp),itv = .ref it∧Inv X pins σ H' s2∧Turn X.prog X.w X.K tg J fp it tn∧tn 0 s2.heap∧(∀ b∈fp,FpOk X pins H' b)∧R J H'
def PI(X:Cx)(tg iter:Expr)(wi:TI):Prop :=
 ∀(pins:List (Addr×Obj)) (s:Shared) (σ:St) (H:Hp) (R:It→Hp→Prop),Inv X pins σ H s→wi σ H R →
  wpAny (model X.prog X.w) X.A (eval iter X.env) (fun v s1=>wpAny (model X.prog X.w) X.A (pyIter v) (PIE X pins σ tg R) X.xe s1) X.xe s
theorem zjw{M:Model}{A:Around}{E:Value→Shared→Prop}{s:Shared}{tg:Expr}{it:Addr}{u:Value}{o:Obj}{n:String}{vs:Array Value}{Q:Unit→Shared→Prop}(ho:s.heap.get? it=some o)(hc:o.cls = .type n)(hd:o.data = .fields vs)
    (hn:["enumerate", "zip", "dict_itemiterator", "dict_reverseitemiterator", "odict_iterator", "itertools.zip_longest", "itertools.pairwise"].contains n=false) (hQ:Q () s):wpAny M A (letOwnedTupleGo tg (.ref it) u) Q E s:=by
  unfold letOwnedTupleGo
  cases tg<;>first
    | exact wpAny_pure hQ
    | (cases u<;>first
        | exact wpAny_pure hQ
        | (refine wpAny_bind (wpAny_load ho ?_)
           rw[hc,hd]
           show wpAny M A (if(["enumerate", "zip", "dict_itemiterator", "dict_reverseitemiterator", "odict_iterator", "itertools.zip_longest", "itertools.pairwise"].contains n&&vs[0]?==some (rawInt _))=true then _ else _) Q E s
           rw[if_neg (by intro h;rw[hn,Bool.false_and]at h;cases h)]
           exact wpAny_pure hQ))
def Itl(K:PySem.W.Frag)(a:Addr):It :=
 ⟨fun i H=>∃ xs x,SqL K H a xs∧xs[i]?=some x,fun i H x H'=>H'=H∧∀ xs,SqL K H a xs→xs[i]?=some x,fun i H=>∃ xs,SqL K H a xs∧xs.length≤i⟩
def Itt(K:PySem.W.Frag)(a:Addr):It :=
 ⟨fun i H=>∃ xs x,SqT K H a xs∧xs[i]?=some x,fun i H x H'=>H'=H∧∀ xs,SqT K H a xs→xs[i]?=some x,fun i H=>∃ xs,SqT K H a xs∧xs.length≤i⟩
def Itr(lo:Int)(n:Nat):It:=⟨fun i _=>i<n,fun i H x H'=>H'=H∧x = .int (lo+i),fun i _=>n≤i⟩
theorem zkt{P:Program}{w:World}{K:PySem.W.Frag}{tg:Expr}(a it:Addr):Turn P w K tg (Itl K a) [it] it (fun i h=>h.IsListIter it a i) where
 mem:=by simp
 obj:=fun i h st b hb=>by
  have e:b=it:=by simpa using hb
  subst e
  obtain⟨o,e,c,d⟩:=st
  exact⟨o,e,fun v z=>by rw[d]at z;cases z⟩
 keep:=fun i h h' st k=>st.at fun o e=>k it (by simp) o e
 item:=by
  intro X hP hw hK hc i pins s σ H E I hf st hg
  subst hP hw hK
  obtain⟨xs,x,hq,hx⟩:=hg
  obtain⟨its,rv,p,hz⟩:=I.list hq
  obtain⟨u,hu,ru⟩:=rv.get hx
  obtain⟨f0,f1,f2,f3,f4,f5⟩:=hf it (by simp)
  refine wpAny_pyNext_list_item st p.isList (x:=u) (by simpa using hu) fun h' st' sb=>?_
  have I1:Inv X pins σ H { s with heap:=h' }:=I.turned (t':=s.toks) (fun b o hb e=>(sb.2 b hb).trans e) f0 f1 f3 f4 f5
  obtain⟨o,e,c,d⟩:=id st'
  exact⟨u,rfl,zjw (s:={ s with heap:=h' }) e c d (by decide) ⟨x,H,I1,ru,⟨rfl,fun ys hy=>by rw[I.list_inj hy hq];exact hx⟩,st',fun b hb=>(hf b hb).1⟩⟩
 done:=by
  intro X hP hw hK hc i pins s σ H E I hf st hg
  subst hP hw hK
  obtain⟨xs,hq,hx⟩:=hg
  obtain⟨its,rv,p,hz⟩:=I.list hq
  obtain⟨f0,f1,f2,f3,f4,f5⟩:=hf it (by simp)
  have hl:=rv.length
  exact wpAny_pyNext_list_end (I.ok.hd hc) st p.isList (by simp;omega) fun h' eb=>⟨rfl,I.turned (t':=s.toks) (fun b o hb e=>eb b o hb e) f0 f1 f3 f4 f5⟩
 self:=fun _ _ _ _ _ st h=>wpAny_pyIter_listiter st h
theorem zeS{P:Program}{w:World}{K:PySem.W.Frag}{tg:Expr}(a it:Addr):Turn P w K tg (Itt K a) [it] it (fun i h=>h.IsTupleIter it a i) where
 mem:=by simp
 obj:=fun i h st b hb=>by
  have e:b=it:=by simpa using hb
  subst e
  obtain⟨o,e,c,d⟩:=st
  exact⟨o,e,fun v z=>by rw[d]at z;cases z⟩
 keep:=fun i h h' st k=>st.at fun o e=>k it (by simp) o e
 item:=by
  intro X hP hw hK hc i pins s σ H E I hf st hg
  subst hP hw hK
  obtain⟨xs,x,hq,hx⟩:=hg
  obtain⟨its,rv,p,hz⟩:=I.tuple hq
  obtain⟨u,hu,ru⟩:=rv.get hx
  obtain⟨f0,f1,f2,f3,f4,f5⟩:=hf it (by simp)
  refine wpAny_pyNext_tuple_item st (show s.heap.IsTuple a its.toArray from p) (x:=u) (by simpa using hu) fun h' st' sb=>?_
  have I1:Inv X pins σ H { s with heap:=h' }:=I.turned (t':=s.toks) (fun b o hb e=>(sb.2 b hb).trans e) f0 f1 f3 f4 f5
  obtain⟨o,e,c,d⟩:=id st'
  exact⟨u,rfl,zjw (s:={ s with heap:=h' }) e c d (by decide) ⟨x,H,I1,ru,⟨rfl,fun ys hy=>by rw[I.tuple_inj hy hq];exact hx⟩,st',fun b hb=>(hf b hb).1⟩⟩
 done:=by
  intro X hP hw hK hc i pins s σ H E I hf st hg
  subst hP hw hK
  obtain⟨xs,hq,hx⟩:=hg
  obtain⟨its,rv,p,hz⟩:=I.tuple hq
  obtain⟨f0,f1,f2,f3,f4,f5⟩:=hf it (by simp)
  have hl:=rv.length
  exact wpAny_pyNext_tuple_end (I.ok.hd hc) st (show s.heap.IsTuple a its.toArray from p) (by simp;omega) fun h' eb=>⟨rfl,I.turned (t':=s.toks) (fun b o hb e=>eb b o hb e) f0 f1 f3 f4 f5⟩
 self:=fun _ _ _ _ _ st h=>wpAny_pyIter_tupleiter st h
theorem zeT{P:Program}{w:World}{K:PySem.W.Frag}{tg:Expr}(it:Addr)(lo:Int)(n:Nat):Turn P w K tg (Itr lo n) [it] it (fun i h=>IsRangeIter h it (lo+(i:Nat)*1) ((n:Int)-(i:Nat)) 1) where
 mem:=by simp
 obj:=fun i h st b hb=>by
  have e:b=it:=by simpa using hb
  subst e
  exact⟨_,st,fun v z=>by
   have z':Data.fields _=Data.cell v:=z
   cases z'⟩
 keep:=fun i h h' st k=>k it (by simp) _ st
 item:=by
  intro X hP hw hK hc i pins s σ H E I hf st hg
  subst hP hw hK
  obtain⟨f0,f1,f2,f3,f4,f5⟩:=hf it (by simp)
  have W:=Walks.range (prog:=X.prog) (w:=X.w) (I.ok.hd hc) it lo 1 n
  refine W.item i s _ _ hg st fun v h' tk hv st' kk=>?_
  obtain⟨t,rfl⟩:=hv
  have I1:Inv X pins σ H { s with heap:=h',toks:=tk }:=I.turned (fun b o hb e=>kk b o (by simpa using hb) e) f0 f1 f3 f4 f5
  refine⟨_,rfl,zjw (s:={ s with heap:=h',toks:=tk }) (n := "range_iterator") st' rfl rfl (by decide) ⟨.int (lo+i),H,I1,⟨t,?_⟩,⟨rfl,rfl⟩,st',fun b hb=>(hf b hb).1⟩⟩
  rw[Int.mul_one]
 done:=by
  intro X hP hw hK hc i pins s σ H E I hf st hg
  subst hP hw hK
  obtain⟨f0,f1,f2,f3,f4,f5⟩:=hf it (by simp)
  exact wpAny_pyNext_range_end (I.ok.hd hc) st (by have:n≤i:=hg;omega) fun h' eb=>⟨rfl,I.turned (t':=s.toks) (fun b o hb e=>eb b o hb e) f0 f1 f3 f4 f5⟩
 self:=fun _ _ _ _ _ st h=>wpAny_pyIter_rangeiter st h
end L2
namespace L2
open PySem PySem.Spec PyProof.Rows
section
variable {X:Cx}{tg:Expr}
theorem zdp{pins:List (Addr×Obj)}{σ:St}{H:Hp}{s:Shared}{R:It→Hp→Prop}{E:Value→Shared→Prop}{lo hi:Int}{t u v:Tok}{tk:Nat}(I:Inv X pins σ H s)(h1 : -(2 ^ 62)≤lo)(h2:lo<2 ^ 62)(h3 : -(2 ^ 62)≤hi)(h4:hi<2 ^ 62)
   (q:R (Itr lo (hi-lo).toNat) H):wpAny (model X.prog X.w) X.A (pyIter (.ref s.heap.objs.size)) (PIE X pins σ tg R) E { s with heap:=s.heap.push { cls := .type "range",data := .fields #[.int lo t,.int hi u,.int 1 v] },toks:=tk }:=by
 refine wpAny_pyIter_range (IsRange.new ..) (small_one h1 h2 h3 h4) ?_
 have I1:Inv X pins σ H { s with heap:=s.heap.push { cls := .type "range",data := .fields #[.int lo t,.int hi u,.int 1 v] },toks:=tk }:=I.kept fun b o e=>Heap.get?_push_of_some _ e
 refine⟨(s.heap.push { cls := .type "range",data := .fields #[.int lo t,.int hi u,.int 1 v] }).objs.size,[(s.heap.push { cls := .type "range",data := .fields #[.int lo t,.int hi u,.int 1 v] }).objs.size],_,_,H,rfl,
   I1.kept (t':=tk) fun b o e=>Heap.get?_push_of_some _ e,zeT _ lo (hi-lo).toNat,?_,fun b hb=>?_,q⟩
 · have e1:lo+((0:Nat):Int)*1=lo:=by simp
   have e2:(((hi-lo).toNat:Nat):Int)-((0:Nat):Int)=Builtin.Range.rangeSize lo hi 1:=by rw[rangeSize_one];split<;>omega
   show IsRangeIter _ _ (lo+((0:Nat):Int)*1) ((((hi-lo).toNat:Nat):Int)-((0:Nat):Int)) 1
   rw[e1,e2]
   exact Heap.get?_push_size _ rfl
 · have e:b=(s.heap.push { cls := .type "range",data := .fields #[.int lo t,.int hi u,.int 1 v] }).objs.size:=by simpa using hb
   subst e
   exact I1.fpOk (Nat.le_refl _) (I1.hok.fresh (Nat.le_refl _))
def iRng1(ta:TA):TI:=fun σ H R=>ta σ H fun vs H1=>∃ j:Int,vs=[.int j] ∧ -(2 ^ 62)≤j∧j<2 ^ 62∧R (Itr 0 j.toNat) H1
def iRng2(ta:TA):TI:=fun σ H R=>ta σ H fun vs H1=>∃ i j:Int,vs=[.int i,.int j]∧(-(2 ^ 62)≤i∧i<2 ^ 62 ∧ -(2 ^ 62)≤j∧j<2 ^ 62)∧R (Itr i (j-i).toNat) H1
theorem zbb{a:Expr}{ta:TA}{p pos:Pos}(hg:Gl X "range")(hm:X.mg "range" = none)(ha:PA X [a] ta)(hs:starEach [a] X.env=[(false,eval a X.env)]:=by rfl):PI X tg (.Call (.Name "range" p) [a] [] pos) (iRng1 ta):=by
 intro pins s σ H R I h
 refine Call_ (z4x I hg hm boot_range (PyProof.Rows.callWith_type1 (thn (ha pos pins s σ H _ I h) fun us s1 hZ=>hZ.elim fun vs hZ=>hZ.elim fun H1 hZ=>hZ.elim fun I1 hZ=>hZ.elim fun r1 q1=>?_) hs rfl))
 obtain⟨j,e,q1,q2,q⟩:=q1
 subst e
 cases r1 with
 | cons r rr =>
  cases rr
  obtain⟨t,rfl⟩:=r
  exact call_range_1 (zdp I1 (by omega) (by omega) q1 q2 (by simpa using q))
theorem zku{a b:Expr}{ta:TA}{p pos:Pos}(hg:Gl X "range")(hm:X.mg "range" = none)(ha:PA X [a,b] ta)(hs:starEach [a,b] X.env=[(false,eval a X.env),(false,eval b X.env)]:=by rfl)(hs2:starEach [b] X.env=[(false,eval b X.env)]:=by rfl):
  PI X tg (.Call (.Name "range" p) [a,b] [] pos) (iRng2 ta):=by
 intro pins s σ H R I h
 refine Call_ (z4x I hg hm boot_range (PyProof.Rows.callWith_type1 (thn (ha pos pins s σ H _ I h) fun us s1 hZ=>hZ.elim fun vs hZ=>hZ.elim fun H1 hZ=>hZ.elim fun I1 hZ=>hZ.elim fun r1 q1=>?_) (by rw[hs,hs2]) (by rw[hs2];rfl)))
 obtain⟨i,j,e,⟨q1,q2,q3,q4⟩,q⟩:=q1
 subst e
 cases r1 with
 | cons r rr =>
  cases rr with
  | cons r' rr =>
   cases rr
   obtain⟨t,rfl⟩:=r
   obtain⟨t',rfl⟩:=r'
   exact call_range_2 (zdp I1 q1 q2 q3 q4 q)
def tFor(wi:TI)(g:TG)(tb:TS):TS:=fun D σ H=>wi σ H fun J H1=>∃ W:Nat→Nat→St→Hp→Prop,(∃ m,W 0 m σ H1)∧∀ i m σ H,W i m σ H →
 (J.stop i H∧D.nx σ H)∨(J.go i H∧∃ N:St→Hp→Prop,(∀ σ' H',N σ' H'→∃ m',m'<m∧W (i+1) m' σ' H')∧∀ x H',J.yld i H x H'→g x σ H' fun σ2 H2=>tb { D with nx:=N,ct:=N,bk:=D.nx } σ2 H2)
def z9t(fp:List Addr)(h:Heap):List (Addr×Obj):=fp.filterMap fun b=>(h.get? b).map fun o=>(b,o)
theorem z4y{fp:List Addr}{h:Heap}{b:Addr}{o:Obj}(hb:b∈fp)(e:h.get? b=some o):(b,o)∈z9t fp h:=List.mem_filterMap.mpr ⟨b,hb,by rw[e];rfl⟩
theorem zkv{fp:List Addr}{h:Heap}{p:Addr×Obj}(hp:p∈z9t fp h):p.1∈fp∧h.get? p.1=some p.2:=by
 obtain⟨b,hb,e⟩:=List.mem_filterMap.mp hp
 cases q:h.get? b with
 | none=>rw[q]at e;cases e
 | some o =>
  rw[q]at e
  have e':(b,o)=p:=Option.some.inj e
  subst e'
  exact⟨hb,q⟩
theorem Inv.pinned{pins:List (Addr×Obj)}{σ:St}{H:Hp}{s:Shared}{fp:List Addr}(I:Inv X pins σ H s)(hf:∀ b∈fp,FpOk X pins H b)(ho:∀ b∈fp,∃ o,s.heap.get? b=some o∧∀ v,o.data ≠ .cell v):Inv X (pins++z9t fp s.heap) σ H s :=
 I.pins_of fun p hp=>(List.mem_append.mp hp).elim (fun z=>I.pin p (List.mem_append_right _ z)) fun z=>by
  obtain⟨hb,e⟩:=zkv z
  obtain⟨f0,f1,f2,_⟩:=hf p.1 hb
  obtain⟨o,e',d⟩:=ho p.1 hb
  rw[e]at e';cases e'
  exact⟨e,f0,f1,f2,d⟩
theorem Inv.unpinned{pins pl:List (Addr×Obj)}{σ:St}{H:Hp}{s:Shared}(I:Inv X (pins++pl) σ H s):Inv X pins σ H s:=I.pins_of fun p hp=>I.pin p (List.mem_append_right _ (List.mem_append_left _ hp))
theorem zlw{iter:Expr}{body:List Stmt}{wi:TI}{g:TG}{tb:TS}{pos:Pos}(hp:PassesOwn (model X.prog X.w) X.A X.env X.xe)(hc:X.calm=true)(hi:PI X tg iter wi)(hg:PG X tg g)(hb:PSs X body tb)
   (hs:∀ x,foldedSetIterable iter X.env x=pure x:=by intro _;rfl):PS X (.For tg iter body [] pos) (tFor wi g tb):=by
 intro pins s σ H D I h
 refine wpAny_For (thn (hi pins s σ H _ I h) fun v s1 h1=>thn h1 fun itv s2 h2=>?_) hs
 obtain⟨it,fp,tn,J,H2,e,I2,T,st2,f2,W,⟨m0,w0⟩,turn⟩:=h2
 subst e
 have stat:∀{H':Hp},(∀ b∈fp,H' b=none)→∀ b∈fp,FpOk X pins H' b:=fun hn b hb=>⟨hn b hb,(f2 b hb).2⟩
 refine codeAny_forLoop_any (fun n s'=>∃ i σ' H',Inv X pins σ' H' s'∧tn i s'.heap∧(∀ b∈fp,H' b=none)∧W i n σ' H') ?_ m0 ⟨0,σ,H2,I2,st2,fun b hb=>(f2 b hb).1,w0⟩
 rintro n s3 ⟨i,σ3,H3,I3,st3,fr3,w3⟩
 rcases turn i n σ3 H3 w3 with⟨stop,qn⟩|⟨go,N,hN,step⟩
 · refine wpAny_passesOwn hp (thn (T.done X rfl rfl rfl hc i pins s3 σ3 H3 X.xe I3 (stat fr3) st3 stop) ?_)
   rintro r s4 ⟨hr,I4⟩
   subst hr
   exact wpAny_execs_nil ⟨σ3,H3,I4,qn⟩
 · refine wpAny_passesOwn hp (thn (T.item X rfl rfl rfl hc i pins s3 σ3 H3 X.xe I3 (stat fr3) st3 go) ?_)
   rintro r s4 ⟨u,hr,h4⟩
   subst hr
   refine wpAny_passesOwn hp (thn h4 ?_)
   rintro _ s5 ⟨x,H5,I5,r5,y5,st5,fr5⟩
   have I5':=I5.pinned (stat fr5) (T.obj _ _ st5)
   refine wpAny_passesOwn hp (thn (hg _ s5 σ3 H5 x u _ I5' r5 (step x H5 y5)) ?_)
   rintro _ s6 ⟨σ6,H6,I6,q6⟩
   refine wpAny_passesOwn hp (thn (hb _ s6 σ6 H6 _ I6 q6) fun f s7 q7=>?_)
   have again:∀{σ7:St} {H7:Hp},Inv X (pins++z9t fp s5.heap) σ7 H7 s7→N σ7 H7→∃ m,m<n∧∃ i σ' H',Inv X pins σ' H' s7∧tn i s7.heap∧(∀ b∈fp,H' b=none)∧W i m σ' H':=fun{σ7 H7} I7 n7=>by
    obtain⟨m',hm,w7⟩:=hN σ7 H7 n7
    refine⟨m',hm,i+1,σ7,H7,I7.unpinned,T.keep _ _ _ st5 fun b hb o e=>(I7.pin (b,o) (List.mem_append_right _ (List.mem_append_right _ (z4y hb e)))).1,fun b hb=>?_,w7⟩
    obtain⟨o,e,d⟩:=T.obj _ _ st5 b hb
    exact(I7.pin (b,o) (List.mem_append_right _ (List.mem_append_right _ (z4y hb e)))).2.1
   cases f with
   | next=>obtain⟨σ7,H7,I7,n7⟩:=q7;exact again I7 n7
   | cont=>obtain⟨σ7,H7,I7,n7⟩:=q7;exact again I7 n7
   | brk=>obtain⟨σ7,H7,I7,q7⟩:=q7;exact⟨σ7,H7,I7.unpinned,q7⟩
   | ret v=>obtain⟨x7,σ7,H7,I7,r7,q7⟩:=q7;exact⟨x7,σ7,H7,I7.unpinned,r7,q7⟩
end
end L2
namespace L2
open PySem PySem.Spec PyProof.Rows
abbrev R2:=V→V→Hp→VK→Prop
def OpR(X:Cx)(f:Value→Value→Sem Value)(r:R2):Prop :=
 ∀(pins:List (Addr×Obj)) (s:Shared) (σ:St) (H:Hp) (x y:V) (v u:Value) (Q:VK),Inv X pins σ H s→RelV x v→RelV y u→r x y H Q →
  wpAny (model X.prog X.w) X.A (f v u) (EP X pins σ Q) X.xe s
def UnR(X:Cx)(f:Value→Sem Value)(r:V→Hp→VK→Prop):Prop :=
 ∀(pins:List (Addr×Obj)) (s:Shared) (σ:St) (H:Hp) (x:V) (v:Value) (Q:VK),Inv X pins σ H s→RelV x v→r x H Q →
  wpAny (model X.prog X.w) X.A (f v) (EP X pins σ Q) X.xe s
def z8C(X:Cx)(f:Value)(r:List V→Hp→VK→Prop):Prop :=
 ∀(pins:List (Addr×Obj)) (s:Shared) (σ:St) (H:Hp) (xs:List V) (us:List Value) (Q:VK),Inv X pins σ H s→Vals xs us→r xs H Q →
  wpAny (model X.prog X.w) X.A (call f us) (EP X pins σ Q) X.xe s
def TruR(X:Cx)(r:V→Hp→(Bool→Hp→Prop)→Prop):Prop :=
 ∀(pins:List (Addr×Obj)) (s:Shared) (σ:St) (H:Hp) (x:V) (v:Value) (Q:Bool→Hp→Prop),Inv X pins σ H s→RelV x v→r x H Q →
  wpAny (model X.prog X.w) X.A (truthy v) (TP X pins σ Q) X.xe s
def tOp(r:R2)(ta tb:TE):TE:=fun σ H Q=>ta σ H fun x H1=>tb σ H1 fun y H2=>r x y H2 Q
def tUn(r:V→Hp→VK→Prop)(ta:TE):TE:=fun σ H Q=>ta σ H fun x H1=>r x H1 Q
def rI(C:Int→Int→Prop)(g:Int→Int→V):R2:=fun x y H Q=>∃ i j,x = .int i∧y = .int j∧C i j∧Q (g i j) H
def rI0(g:Int→Int→V):R2:=fun x y H Q=>∃ i j,x = .int i∧y = .int j∧Q (g i j) H
def rU(g:Int→V):V→Hp→VK→Prop:=fun x H Q=>∃ i,x = .int i∧Q (g i) H
section
variable {X:Cx}{a b c:Expr}{ta tb tc:TE}{pos:Pos}
theorem binT(ha:PE X a ta)(hb:PE X b tb){pins:List (Addr×Obj)}{s:Shared}{σ:St}{H:Hp}{R:V→V→Hp→Prop}(I:Inv X pins σ H s)
  (h:ta σ H fun x H1=>tb σ H1 fun y H2=>R x y H2) {Q:Value→Shared→Prop} {f:Value→Value→Sem Value}
  (hf:∀ v u s2 x y H2,Inv X pins σ H2 s2→RelV x v→RelV y u→R x y H2→wpAny (model X.prog X.w) X.A (f v u) Q X.xe s2) :
  wpAny (model X.prog X.w) X.A (eval a X.env) (fun v s₁=>wpAny (model X.prog X.w) X.A (eval b X.env) (fun u s₂=>wpAny (model X.prog X.w) X.A (f v u) Q X.xe s₂) X.xe s₁) X.xe s:=by
 refine thn (ha pins s σ H _ I h) ?_
 rintro v s1 ⟨x,H1,I1,r1,q1⟩
 refine thn (hb pins s1 σ H1 _ I1 q1) ?_
 rintro u s2 ⟨y,H2,I2,r2,q2⟩
 exact hf v u s2 x y H2 I2 r1 r2 q2
theorem pe_op{op:Operator}{r:R2}(ho:OpR X (binaryOp op) r)(ha:PE X a ta)(hb:PE X b tb):PE X (.BinOp a op b pos) (tOp r ta tb):=by
 intro pins s σ H Q I h
 exact wpAny_BinOp (binT ha hb I h fun v u s2 x y H2 I2 rx ry q=>ho pins s2 σ H2 x y v u Q I2 rx ry q)
theorem pe_un{op:UnaryOp}{r:V→Hp→VK→Prop}(ho:UnR X (unaryOp op) r)(ha:PE X a ta):PE X (.UnaryOp op a pos) (tUn r ta):=by
 intro pins s σ H Q I h
 exact UnaryOp_ (thn (ha pins s σ H _ I h) fun v s1 hZ=>hZ.elim fun x hZ=>hZ.elim fun H1 hZ=>hZ.elim fun I1 hZ=>hZ.elim fun r1 q1=>ho pins s1 σ H1 x v Q I1 r1 q1)
theorem opI{f:Value→Value→Sem Value}{C:Int→Int→Prop}{g:Int→Int→Int}
  (rule:∀(i j:Int) (t u:Tok) (s:Shared) (Q:Value→Shared→Prop) (E:Value→Shared→Prop),C i j→Q (.int (g i j) s.toks) { s with toks:=s.toks+1 }→wpAny (model X.prog X.w) X.A (f (.int i t) (.int j u)) Q E s) :
  OpR X f (rI C fun i j => .int (g i j)):=by
 intro pins s σ H x y v u Q I rx ry h
 obtain⟨i,j,rfl,rfl,hc,q⟩:=h
 obtain⟨t,rfl⟩:=rx
 obtain⟨t',rfl⟩:=ry
 exact rule i j t t' s _ _ hc ⟨.int (g i j),H,I.tok _,⟨_,rfl⟩,q⟩
theorem opI0{f:Value→Value→Sem Value}{g:Int→Int→Int}
  (rule:∀(i j:Int) (t u:Tok) (s:Shared) (Q:Value→Shared→Prop) (E:Value→Shared→Prop),Q (.int (g i j) s.toks) { s with toks:=s.toks+1 }→wpAny (model X.prog X.w) X.A (f (.int i t) (.int j u)) Q E s) :
  OpR X f (rI0 fun i j => .int (g i j)):=by
 intro pins s σ H x y v u Q I rx ry h
 obtain⟨i,j,rfl,rfl,q⟩:=h
 obtain⟨t,rfl⟩:=rx
 obtain⟨t',rfl⟩:=ry
 exact rule i j t t' s _ _ ⟨.int (g i j),H,I.tok _,⟨_,rfl⟩,q⟩
theorem opB0{f:Value→Value→Sem Value}{g:Int→Int→Bool}
  (rule:∀(i j:Int) (t u:Tok) (s:Shared) (Q:Value→Shared→Prop) (E:Value→Shared→Prop),Q (.bool (g i j)) s→wpAny (model X.prog X.w) X.A (f (.int i t) (.int j u)) Q E s) :
  OpR X f (rI0 fun i j => .bl (g i j)):=by
 intro pins s σ H x y v u Q I rx ry h
 obtain⟨i,j,rfl,rfl,q⟩:=h
 obtain⟨t,rfl⟩:=rx
 obtain⟨t',rfl⟩:=ry
 exact rule i j t t' s _ _ ⟨.bl (g i j),H,I,rfl,q⟩
def CPow(i j:Int):Prop:=0≤j∧j≤1000000∧i.natAbs<2 ^ 64
def CMul(i j:Int):Prop:=(-(2 ^ 64)<i∧i<2 ^ 64)∨(-(2 ^ 64)<j∧j<2 ^ 64)
theorem CMul.ok{i j:Int}(h:CMul i j):IntMulOk i j:=by
 rcases h with⟨h1,h2⟩|⟨h1,h2⟩
 · exact .of_left (intBits_le_64 h1 h2)
 · exact .of_right (intBits_le_64 h1 h2)
theorem op_add:OpR X (binaryOp .Add) (rI0 fun i j => .int (i+j)):=opI0 fun _ _ _ _ _ _ _ q=>add_int q
theorem op_sub:OpR X (binaryOp .Sub) (rI0 fun i j => .int (i-j)):=opI0 fun _ _ _ _ _ _ _ q=>sub_int q
theorem zpA:OpR X (binaryOp .Mod) (rI (fun _ j=>j≠0) fun i j => .int (i.fmod j)):=opI fun _ _ _ _ _ _ _ hc q=>mod_int' hc q
theorem op_pow:OpR X (binaryOp .Pow) (rI CPow fun i j => .int (i ^ j.toNat)):=opI fun _ _ _ _ _ _ _ hc q=>pow_int_small hc.1 hc.2.1 hc.2.2 q
theorem unI{f:Value→Sem Value}{g:Int→Int}
  (rule:∀(i:Int) (t:Tok) (s:Shared) (Q:Value→Shared→Prop) (E:Value→Shared→Prop),Q (.int (g i) s.toks) { s with toks:=s.toks+1 }→wpAny (model X.prog X.w) X.A (f (.int i t)) Q E s) :
  UnR X f (rU fun i => .int (g i)):=by
 intro pins s σ H x v Q I rx h
 obtain⟨i,rfl,q⟩:=h
 obtain⟨t,rfl⟩:=rx
 exact rule i t s _ _ ⟨.int (g i),H,I.tok _,⟨_,rfl⟩,q⟩
theorem un_neg:UnR X (unaryOp .USub) (rU fun i => .int (-i)):=unI fun _ _ _ _ _ q=>neg_int q
end
def scal:V→V→Bool
 | .non,.non=>true|.non,.int _=>true|.int _,.non=>true|.non,.bl _=>true|.bl _,.non=>true|.non,.str _=>true|.str _,.non=>true
 | .int _,.int _=>true|.bl _,.bl _=>true|.str _,.str _=>true|.byt _,.byt _=>true
 | .int _,.str _=>true|.str _,.int _=>true|.bl _,.str _=>true|.str _,.bl _=>true
 | _,_=>false
section
variable {X:Cx}{a b c:Expr}{ta tb tc:TE}{pos:Pos}
theorem fin_bl{pins:List (Addr×Obj)}{σ:St}{H:Hp}{s:Shared}{Q:VK}{k k':Bool}(I:Inv X pins σ H s)(q:Q (.bl k) H)(e:k=k'):EP X pins σ Q (.bool k') s:=by
 subst e
 exact⟨.bl k,H,I,rfl,q⟩
theorem op_lt:OpR X (compareOp .Lt) (rI0 fun i j => .bl (decide (i<j))):=opB0 fun _ _ _ _ _ _ _ q=>lt_int q
theorem op_le:OpR X (compareOp .LtE) (rI0 fun i j => .bl (decide (i≤j))):=opB0 fun _ _ _ _ _ _ _ q=>le_int q
theorem op_gt:OpR X (compareOp .Gt) (rI0 fun i j => .bl (decide (j<i))):=opB0 fun _ _ _ _ _ _ _ q=>gt_int q
theorem op_ge:OpR X (compareOp .GtE) (rI0 fun i j => .bl (decide (j≤i))):=opB0 fun _ _ _ _ _ _ _ q=>ge_int q
theorem op_isN:OpR X (compareOp .Is) (fun x y H Q=>y = .non∧Q (.bl (decide (x = .non))) H):=by
 intro pins s σ H x y v u Q I rx ry h
 obtain⟨rfl,q⟩:=h
 cases ry
 refine is_none_gen (fin_bl I q ?_)
 cases x<;>first
  | (cases rx;rfl)
  | (obtain⟨t,rfl⟩:=rx;rfl)
theorem z0u(b:Expr){op:CmpOp}(h:op ≠ .In:=by decide)(h2:op ≠ .NotIn:=by decide):behindInMarks op b=false:=by
 have e1:(op==CmpOp.In)=false:=by cases op<;>first|rfl|exact absurd rfl h
 have e2:(op==CmpOp.NotIn)=false:=by cases op<;>first|rfl|exact absurd rfl h2
 cases b<;>simp[behindInMarks,e1,e2]
theorem zpB{op:CmpOp}{r:R2}(ho:OpR X (compareOp op) r)(ha:PE X a ta)(hb:PE X b tb)(hm:behindInMarks op b=false):PE X (.Compare a [op] [b] pos) (tOp r ta tb):=by
 intro pins s σ H Q I h
 exact wpAny_Compare1 (binT ha hb I h fun v u s2 x y H2 I2 rx ry q=>ho pins s2 σ H2 x y v u Q I2 rx ry q) hm
def tTest(t:TE):TT:=fun σ H Q=>t σ H fun x H'=>∃ k,x = .bl k∧Q k H'
theorem zpC{op:CmpOp}{r:R2}(ho:OpR X (compareOp op) r)(ha:PE X a ta)(hb:PE X b tb)(hm:behindInMarks op b=false):PT X (.Compare a [op] [b] pos) (tTest (tOp r ta tb)):=by
 intro pins s σ H Q I h
 refine wpAny_isTrue_Compare1 (thn (ha pins s σ H _ I h) fun v s1 hZ=>hZ.elim fun x hZ=>hZ.elim fun H1 hZ=>hZ.elim fun I1 hZ=>hZ.elim fun r1 q1=>thn (hb pins s1 σ H1 _ I1 q1) fun u s2 ⟨y,H2,I2,r2,q2⟩ =>
  thn (ho pins s2 σ H2 x y v u _ I2 r1 r2 q2) fun c s3 hZ=>hZ.elim fun z hZ=>hZ.elim fun H3 hZ=>hZ.elim fun I3 hZ=>hZ.elim fun r3 hZ=>hZ.elim fun k hZ=>hZ.elim fun e q3=>?_) hm
 subst e
 cases r3
 exact wpAny_truthy_bool ⟨H3,I3,q3⟩
def zlx(r r':R2)(ta tb tc:TE):TE:=fun σ H Q=>ta σ H fun x H1=>tb σ H1 fun y H2=>r x y H2 fun z H3=>∃ k,z = .bl k ∧
 (if k=true then tc σ H3 fun w' H4=>r' y w' H4 Q else Q (.bl false) H3)
theorem zly{op op':CmpOp}{r r':R2}(ho:OpR X (compareOp op) r)(ho':OpR X (compareOp op') r')(ha:PE X a ta)(hb:PE X b tb)(hc:PE X c tc)
  (hm:lastMarks [op,op'] [b,c]=false:=by with_unfolding_all rfl):PE X (.Compare a [op,op'] [b,c] pos) (zlx r r' ta tb tc):=by
 intro pins s σ H Q I h
 refine Compare_chain (thn (ha pins s σ H _ I h) fun v s1 hZ=>hZ.elim fun x hZ=>hZ.elim fun H1 hZ=>hZ.elim fun I1 hZ=>hZ.elim fun r1 q1=>chain_link (thn (hb pins s1 σ H1 _ I1 q1) fun u s2 ⟨y,H2,I2,r2,q2⟩ =>
  thn (ho pins s2 σ H2 x y v u _ I2 r1 r2 q2) fun d s3 hZ=>hZ.elim fun z hZ=>hZ.elim fun H3 hZ=>hZ.elim fun I3 hZ=>hZ.elim fun r3 hZ=>hZ.elim fun k hZ=>hZ.elim fun e q3=>?_)) hm
 subst e
 cases r3
 refine wpAny_truthy_bool ?_
 cases k with
 | false=>exact ite_ff ⟨.bl false,H3,I3,rfl,q3⟩
 | true=>exact ite_tt (chain_last (thn (hc pins s3 σ H3 _ I3 q3) fun w' s4 hZ=>hZ.elim fun z' hZ=>hZ.elim fun H4 hZ=>hZ.elim fun I4 hZ=>hZ.elim fun r4 q4=>ho' pins s4 σ H4 y z' u w' Q I4 r2 r4 q4))
def TruV(K:PySem.W.Frag)(x:V)(H:Hp)(k:Bool):Prop :=
 match x with
 | .non=>k=false
 | .bl b=>k=b
 | .int i=>k=(i != 0)
 | .str y=>y.length≤sizeLine∧k=((y.length:Int) != 0)
 | .byt y=>y.size≤sizeLine∧k=((y.size:Int) != 0)
 | .ref p=>(∃ xs,SqL K H p xs∧k=!xs.isEmpty)∨(∃ xs,SqT K H p xs∧k=!xs.isEmpty)∨∃ kvs,H p=some (.dK kvs)∧k=!kvs.isEmpty
 | _=>False
theorem zeU{κ:Type}{kvs:List (κ×V)}{vs:List (κ×Value)}(r:KV kvs vs):(!vs.isEmpty)=!kvs.isEmpty:=by
 cases r<;>rfl
theorem z9u{xs:List V}{its:List Value}(r:Vals xs its):(!its.toArray.isEmpty)=!xs.isEmpty:=by
 cases r<;>simp
theorem z7M:(sizeLine:Nat)<2 ^ 63:=by rw[sizeLine_eq];decide
theorem tru_ok:TruR X (fun x H Q=>∃ k,TruV X.K x H k∧Q k H):=by
 intro pins s σ H x v Q I rx h
 obtain⟨k,e,q⟩:=h
 have hl:=z7M
 have hs:sizeLine=16777216:=sizeLine_eq
 cases x with
 | non =>
  cases rx
  have e':k=false:=e
  subst e'
  exact truthy_none ⟨H,I,q⟩
 | bl b =>
  cases rx
  have e':k=b:=e
  subst e'
  exact wpAny_truthy_bool ⟨H,I,q⟩
 | int i =>
  obtain⟨t,rfl⟩:=rx
  have e':k=(i != 0):=e
  subst e'
  exact PySem.P.truthy_int ⟨H,I,q⟩
 | str y =>
  obtain⟨t,rfl⟩:=rx
  obtain⟨hy,e'⟩:y.length≤sizeLine∧k=((y.length:Int) != 0):=e
  subst e'
  exact PySem.P.truthy_str (by omega) ⟨H,I.tok _,q⟩
 | byt y =>
  obtain⟨t,rfl⟩:=rx
  obtain⟨hy,e'⟩:y.size≤sizeLine∧k=((y.size:Int) != 0):=e
  subst e'
  exact PySem.W.truthy_bytes (by omega) ⟨H,I.tok _,q⟩
 | ref p =>
  cases rx
  have e':(∃ xs,SqL X.K H p xs∧k=!xs.isEmpty)∨(∃ xs,SqT X.K H p xs∧k=!xs.isEmpty)∨∃ kvs,H p=some (.dK kvs)∧k=!kvs.isEmpty:=e
  rcases e' with⟨xs,hx,e'⟩|⟨xs,hx,e'⟩|⟨kvs,hx,e'⟩
  · subst e'
    obtain⟨its,r,pl,hz⟩:=I.list hx
    have hlen:=r.length
    exact wpAny_truthy_list pl.isList (by simp only[List.size_toArray];omega) ⟨H,I.tok _,by rw[z9u r];exact q⟩
  · subst e'
    obtain⟨its,r,pl,hz⟩:=I.tuple hx
    have hlen:=r.length
    exact truthy_tuple pl (by simp only[List.size_toArray];omega) ⟨H,I.tok _,by rw[z9u r];exact q⟩
  · subst e'
    obtain⟨hz,hS,vs,r,m⟩:kvs.length≤sizeLine∧(p==sysModules)=false∧∃ vs,KV kvs vs∧s.heap.DictOf (zcy X.prog X.w) p vs:=I.hok p _ hx
    have hlen:kvs.length=vs.length:=Paired.length r
    exact wpAny_truthy_dict hS m (by omega) ⟨H,I.tok _,by rw[zeU r];exact q⟩
 | _=>exact(show False from e).elim
theorem zlz(ha:PE X a ta)(he:∀ whole,isTrue a X.env whole=(do let v ←whole;standAt a.pos;holding [v] (truthy v))):
  PT X a (fun σ H Q=>ta σ H fun x H'=>∃ k,TruV X.K x H' k∧Q k H'):=by
 intro pins s σ H Q I h
 exact isTrue_plain (thn (ha pins s σ H _ I h) fun v s1 hZ=>hZ.elim fun x hZ=>hZ.elim fun H1 hZ=>hZ.elim fun I1 hZ=>hZ.elim fun r1 q1=>tru_ok pins s1 σ H1 x v Q I1 r1 q1) (he _)
theorem zjx{x:V}{us:List Value}(r:Vals [x] us):∃ u,us=[u]∧RelV x u:=by
 cases r with
 | cons r1 r2=>cases r2;exact⟨_,rfl,r1⟩
theorem vals2{x y:V}{us:List Value}(r:Vals [x,y] us):∃ u w',us=[u,w']∧RelV x u∧RelV y w':=by
 cases r with
 | cons r1 r2 =>
  cases r2 with
  | cons r3 r4=>cases r4;exact⟨_,_,rfl,r1,r3⟩
theorem zlA:z8C X (.builtin "abs") (fun xs H Q=>∃ i,xs=[.int i]∧Q (.int (if i<0 then -i else i)) H):=by
 intro pins s σ H xs us Q I r h
 obtain⟨i,rfl,q⟩:=h
 obtain⟨u,rfl,t,rfl⟩:=zjx r
 exact call_abs_int fun u tk=>⟨.int (if i<0 then -i else i),H,I.tok _,⟨_,rfl⟩,q⟩
end
end L2
namespace L2
open PySem PySem.Spec PyProof.Rows
structure ObjM(h:Heap)(x dx C:Addr)(mA:Str→Option Value):Prop where
 obj:h.get? x=some (PySem.W.instObj C dx)
 ns:h.Ns1 dx mA
 ne:dx≠x
theorem zkw{h:Heap}{dx:Addr}{mA:Str→Option Value}(n:h.Ns1 dx mA):∃ od,h.get? dx=some od∧∀ name,PySem.W.lookIn name od=some (mA name):=by
 obtain⟨o,es,ep,ho,hd,hk,_,hm⟩:=n
 refine⟨o,ho,fun name=>?_⟩
 have e:=hm name
 unfold nsFind findBy at e
 rw[←Array.find?_toList]at e
 unfold PySem.W.lookIn
 rw[hd]
 dsimp only
 split
 · rename_i y q
   rw[q]at e
   exact congrArg some e
 · rename_i q
   rw[q]at e
   have a:es.toList.any (·.refKey)=false:=by
    rw[List.any_eq_false]
    intro y hy
    obtain⟨z,t,hkey⟩:=hk y (Array.mem_toList_iff.mp hy)
    simp[DictEntry.refKey,hkey]
   have a':¬es.toList.any (·.refKey)=true:=by rw[a];exact Bool.false_ne_true
   rw[if_neg a']
   exact congrArg some e
theorem ObjM.look{h:Heap}{x dx C:Addr}{mA:Str→Option Value}(I:ObjM h x dx C mA):∃ od,PySem.W.InstAt h x (PySem.W.instObj C dx) C (some od)∧∀ name,PySem.W.lookIn name od=some (mA name) :=
 let ⟨od,ho,hl⟩:=zkw I.ns
 ⟨od,⟨I.obj,rfl,rfl,ho⟩,hl⟩
section
variable {prog:Program}{w:World}{A:Around}{E:Value→Shared→Prop}{s:Shared}{K:PySem.W.Frag}{x dx C f:Addr}{mA:Str→Option Value}{name:Str}{v:Value}
end
theorem RelO.none_of{o:Option Value}(r:RelO none o):o=none:=by
 cases o with
 | none=>rfl
 | some u=>exact(show False from r).elim
section
variable {P:Program}{w:World}{H H':Hp}{h h':Heap}{a C dx:Addr}{fs fs':List (Str×V)}
theorem zpD(hok:HOk P w H h)(e:H a=some (.ins C dx fs)):∃ mA,ObjM h a dx C mA∧(∀ f,RelO (fs.lookup f) (mA f))∧PySem.Within mA (fs.map (·.1))∧fs.length≤1000∧H dx=some (.own a):=by
 obtain⟨d,z,ne,ob,mA,n,r,q⟩:=(show ObjOk P w H h a (.ins C dx fs)from hok a _ e)
 exact⟨mA,⟨ob,n,ne⟩,r,q,z,d⟩
end
structure Cls(K:PySem.W.Frag)(C:Addr):Prop where
 pg:PySem.W.plainGet K C Str.empty=true
 hd:PySem.W.hasDictIn K C=true
 po:PySem.W.plainOver K C=true
 sa:PySem.W.findIn K (.ref C) "__setattr__" = some (some (.builtin "object.__setattr__"))
theorem Cls.get{K:PySem.W.Frag}{C:Addr}(c:Cls K C)(f:Str):PySem.W.plainGet K C f=true:=c.pg
structure Con(K:PySem.W.Frag)(C:Addr)(f:Str)(v:V)(u:Value):Prop where
 at_:PySem.W.findIn K (.ref C) f=some (some u)
 rel:RelV v u
 get:PySem.W.specialIn K u "__get__" = some none
 cp:PySem.W.copiedNames.contains f=false
structure Meth(K:PySem.W.Frag)(C:Addr)(m:Str)(f:Addr):Prop where
 at_:PySem.W.findIn K (.ref C) m=some (some (.ref f))
 fn:PySem.W.isFn K (.ref f)=true
 kp:PySem.W.keepIn K (.ref f)=true
section
variable {X:Cx}{pins:List (Addr×Obj)}{σ:St}{H:Hp}{s:Shared}{a C dx:Addr}{fs:List (Str×V)}{f:Str}{v:V}{A:Around}{E:Value→Shared→Prop}
theorem Inv.made(I:Inv X pins σ H s):Inv X pins σ (upd (upd H s.heap.objs.size (.own (s.heap.objs.size+1))) (s.heap.objs.size+1) (.ins C s.heap.objs.size []))
  { s with heap:=(s.heap.push PySem.W.emptyDict).push (PySem.W.instObj C s.heap.objs.size) }:=by
 have e1:(s.heap.push PySem.W.emptyDict).get? s.heap.objs.size=some PySem.W.emptyDict:=Heap.get?_push_size s.heap rfl
 have e2:((s.heap.push PySem.W.emptyDict).push (PySem.W.instObj C s.heap.objs.size)).get? (s.heap.objs.size+1)=some (PySem.W.instObj C s.heap.objs.size):=by
  have:=Heap.get?_push_size (s.heap.push PySem.W.emptyDict) (o:=PySem.W.instObj C s.heap.objs.size) rfl
  rwa [Heap.size_push]at this
 have e3:(s.heap.push PySem.W.emptyDict).Ns s.heap.objs.size (fun _=>none):=⟨PySem.W.emptyDict,#[],_,e1,rfl,(fun e he=>absurd he (by simp)),fun _=>rfl⟩
 have I1:=I.laid (a:=s.heap.objs.size) (o := .own (s.heap.objs.size+1)) (h':=s.heap.push PySem.W.emptyDict) (t':=s.toks) (fun b u q=>Heap.get?_push_of_some _ q) (Nat.le_refl _) ⟨_,e1⟩
 refine I1.laid (a:=s.heap.objs.size+1) (o := .ins C s.heap.objs.size []) (t':=s.toks) (fun b u q=>Heap.get?_push_of_some _ q) (Nat.le_of_eq (Heap.size_push _ _)) ?_
 have ne:s.heap.objs.size≠s.heap.objs.size+1:=Nat.ne_of_lt (Nat.lt_succ_self _)
 refine⟨by rw[z0x ne,z13],Nat.zero_le _,ne,e2,fun _=>none,(Heap.Ns1.of_empty e3).at fun o q=>Heap.get?_push_of_some _ q,fun _=>True.intro,fun y hy=>absurd rfl hy⟩
end
section
variable {X:Cx}{o e value:Expr}{f:Str}{pos pos' tpos:Pos}{ta tv:TE}
end
section
variable {X:Cx}{pins:List (Addr×Obj)}{σ:St}{H:Hp}{s:Shared}{A:Around}{E:Value→Shared→Prop}{Q:Value→Shared→Prop}{c:Value}{b:Bool}
inductive TyOf (K:PySem.W.Frag) (H:Hp):V→Value→Prop where
 | non:TyOf K H .non (.type "NoneType")
 | bl (x:Bool):TyOf K H (.bl x) (.type "bool")
 | int (i:Int):TyOf K H (.int i) (.type "int")
 | str (x:Str):TyOf K H (.str x) (.type "str")
 | flt (x:UInt64):TyOf K H (.flt x) (.type "float")
 | lst {a:Addr} {xs:List V} (e:H a=some (.lst xs)):TyOf K H (.ref a) (.type "list")
 | frz {a:Addr} {o:Obj} {xs:List V} (e:H a=some (.frz o (.lst xs))):TyOf K H (.ref a) (.type "list")
 | tup {a:Addr} {xs:List V} (e:H a=some (.tup xs)):TyOf K H (.ref a) (.type "tuple")
 | dK {a:Addr} {kvs:List (Key×V)} (e:H a=some (.dK kvs)):TyOf K H (.ref a) (.type "dict")
 | dT {a:Addr} {kvs:List (List Key×V)} (e:H a=some (.dT kvs)):TyOf K H (.ref a) (.type "dict")
 | ins {a C dx:Addr} {fs:List (Str×V)} (e:H a=some (.ins C dx fs)) (cl:Cls K C) (ha:PySem.W.findIn K (.ref C) "__class__" = some (some (.builtin "object.__class__")))
  (hn:PySem.W.specialIn K (.builtin "object.__class__") "__get__" = some (some (.builtin "getset_descriptor.__get__"))) (htk:PySem.W.takesIn K (.builtin "object.__class__")=some true)
  (hm:PySem.W.mroIn K C (.type "object")=some true):TyOf K H (.ref a) (.ref C)
theorem z5K{x:V}{u t:Value}(I:Inv X pins σ H s)(rx:RelV x u)(ty:TyOf X.K H x t)(e:PySem.W.kitOne X.K t c=some b)(h:∀ tk,Q (.bool b) { s with toks:=tk }):
  wpAny (model X.prog X.w) A (call (.builtin "isinstance") [u,c]) Q E s:=by
 cases ty with
 | non=>cases (show u=Value.none from rx);exact PySem.W.kia_one PySem.W.kitx_none I.kIn True.intro e (fun z=>nomatch z) h
 | bl y=>cases (show u=Value.bool y from rx);exact PySem.W.kia_one PySem.W.kitx_bool I.kIn True.intro e (fun z=>nomatch z) h
 | int i=>obtain⟨t,q⟩:=(show ∃ t,u=Value.int i t from rx);cases q;exact PySem.W.kia_one PySem.W.kitx_int I.kIn True.intro e (fun z=>nomatch z) h
 | str y=>obtain⟨t,q⟩:=(show ∃ t,u=Value.str y t from rx);cases q;exact PySem.W.kia_one PySem.W.kitx_str I.kIn True.intro e (fun z=>nomatch z) h
 | flt y=>obtain⟨t,q⟩:=(show ∃ t,u=Value.float y t from rx);cases q;exact PySem.W.kia_one PySem.W.kitx_float I.kIn True.intro e (fun z=>nomatch z) h
 | @lst a xs ea =>
  cases (show u=Value.ref a from rx)
  obtain⟨_,_,n,_,h1⟩:=(show ObjOk X.prog X.w H s.heap a (.lst xs)from I.hok a _ ea)
  exact PySem.W.kia_one PySem.W.kitx_list I.kIn ⟨_,h1,rfl⟩ e (fun z=>nomatch z) h
 | @frz a ob xs ea =>
  cases (show u=Value.ref a from rx)
  obtain⟨_,_,_,n,_,h1⟩:=(show ObjOk X.prog X.w H s.heap a (.frz ob (.lst xs))from I.hok a _ ea)
  exact PySem.W.kia_one PySem.W.kitx_list I.kIn ⟨_,h1,rfl⟩ e (fun z=>nomatch z) h
 | @tup a xs ea =>
  cases (show u=Value.ref a from rx)
  obtain⟨_,_,_,p⟩:=(show ObjOk X.prog X.w H s.heap a (.tup xs)from I.hok a _ ea)
  obtain⟨o,h1,h2,_⟩:=p
  exact PySem.W.kia_one PySem.W.kitx_tuple I.kIn ⟨o,h1,h2⟩ e (fun z=>nomatch z) h
 | @dK a kvs ea =>
  cases (show u=Value.ref a from rx)
  obtain⟨_,_,vs,_,p⟩:=(show ObjOk X.prog X.w H s.heap a (.dK kvs)from I.hok a _ ea)
  obtain⟨o,es,ep,h1,h2,_⟩:=p
  exact PySem.W.kia_one PySem.W.kitx_dict I.kIn ⟨o,h1,h2.1⟩ e (fun z=>nomatch z) h
 | @dT a kvs ea =>
  cases (show u=Value.ref a from rx)
  obtain⟨_,_,xs,_,o,es,ep,h1,h2,_⟩:=(show ObjOk X.prog X.w H s.heap a (.dT kvs)from I.hok a _ ea)
  exact PySem.W.kia_one PySem.W.kitx_dict I.kIn ⟨o,h1,h2.1⟩ e (fun z=>nomatch z) h
 | @ins a C dx fs ea cl ha hn htk hm =>
  cases (show u=Value.ref a from rx)
  obtain⟨mA,O,_⟩:=zpD I.hok ea
  obtain⟨od,J,_⟩:=O.look
  exact PySem.W.kia_one (PySem.W.kitx_own (cl.get _) cl.hd ha hn htk hm) I.kIn J e (fun z=>nomatch z) h
end
end L2
namespace L2
open PySem PySem.Spec PyProof.Rows
structure Room(k:Nat)(A:Around):Prop where
 hd:A.handled=none
 dp:A.depth+3*k+5<recursionLimit
 un:A.units+16*k+200<cLine
theorem Room.mono{j k:Nat}{A:Around}(r:Room k A)(h:j≤k):Room j A:=⟨r.hd,by have:=r.dp;omega,by have:=r.un;omega⟩
theorem Room.deeper{k:Nat}{A:Around}(r:Room (k+1) A)(env:Env):Room k (A.deeper env) :=
 ⟨r.hd,by have:=r.dp;show A.depth+1+3*k+5<_;omega,by have:=r.un;show A.units+3+16*k+200<_;omega⟩
theorem Room.in1{k:Nat}{A:Around}(r:Room (k+1) A):Room k A.in1 :=
 ⟨r.hd,by have:=r.dp;show A.depth+3*k+5<_;omega,by have:=r.un;show A.units+1+16*k+200<_;omega⟩
theorem Room.depth{k:Nat}{A:Around}(r:Room k A):A.depth<recursionLimit:=by have:=r.dp;omega
theorem Room.units{k:Nat}{A:Around}(r:Room k A):A.units+64<cLine:=by have:=r.un;omega
def tNil:TA:=fun _ H Q=>Q [] H
def tCons(ta:TE)(tr:TA):TA:=fun σ H Q=>ta σ H fun x H1=>tr σ H1 fun xs H2=>Q (x::xs) H2
section
variable {X:Cx}{e:Expr}{es:List Expr}{te:TE}{t:TA}{pos:Pos}
theorem z9v:PA X [] tNil:=fun _ _ _ _ H Q I h=>Calls.spliced_nil ⟨[],H,I,.nil,h⟩
theorem z4z(ha:PE X e te)(hr:PA X es t)(hs:starEach (e::es) X.env=(false,eval e X.env)::starEach es X.env:=by rfl):PA X (e::es) (tCons te t):=by
 intro pos pins s σ H Q I h
 rw[hs]
 show wpAny _ _ (spliced ((false,eval e X.env)::backTo pos (starEach es X.env))) _ _ s
 refine Calls.spliced_cons (thn (ha pins s σ H _ I h) ?_)
 rintro u s1 ⟨x,H1,I1,r1,q1⟩
 exact thn (hr pos pins s1 σ H1 _ I1 q1) fun us s2 hZ=>hZ.elim fun xs hZ=>hZ.elim fun H2 hZ=>hZ.elim fun I2 hZ=>hZ.elim fun r2 q2=>⟨x::xs,H2,I2,.cons r1 r2,q2⟩
def tTup(t:TA):TE:=fun σ H Q=>t σ H fun xs H1=>xs.length≤sizeLine∧∀ p,H1 p=none→Q (.ref p) (upd H1 p (.tup xs))
def tLst(t:TA):TE:=fun σ H Q=>t σ H fun xs H1=>xs.length≤sizeLine∧∀ p,H1 p=none→Q (.ref p) (upd H1 p (.lst xs))
theorem pe_tup{x1}(h:PA X es t):PE X (.Tuple es x1 pos) (tTup t):=by
 intro pins s σ H Q I hq
 refine wpAny_Tuple_spliced (thn (h pos pins s σ H _ I hq) fun us s1 hZ=>hZ.elim fun xs hZ=>hZ.elim fun H1 hZ=>hZ.elim fun I1 hZ=>hZ.elim fun r hZ=>hZ.elim fun z q=>⟨by rw[←r.length];exact z,?_⟩)
 have hf:H1 s1.heap.objs.size=none:=I1.hok.fresh (Nat.le_refl _)
 refine⟨.ref s1.heap.objs.size,upd H1 s1.heap.objs.size (.tup xs),I1.laid (t':=s1.toks) (fun b u e=>Heap.get?_push_of_some _ e) (Nat.le_refl _) ?_,rfl,q _ hf⟩
 exact⟨z,us,r,⟨_,Heap.get?_push_size _ rfl,rfl,_,rfl⟩⟩
theorem pe_lst(h:PA X es t):PE X (.List es pos) (tLst t):=by
 intro pins s σ H Q I hq
 refine wpAny_List_spliced (thn (h pos pins s σ H _ I hq) fun us s1 hZ=>hZ.elim fun xs hZ=>hZ.elim fun H1 hZ=>hZ.elim fun I1 hZ=>hZ.elim fun r hZ=>hZ.elim fun z q=>⟨by rw[←r.length];exact z,?_⟩)
 have hf:H1 s1.heap.objs.size=none:=I1.hok.fresh (Nat.le_refl _)
 refine⟨.ref s1.heap.objs.size,upd H1 s1.heap.objs.size (.lst xs),I1.laid (t':=s1.toks) (fun b u e=>Heap.get?_push_of_some _ e) (Nat.le_refl _) ?_,rfl,q _ hf⟩
 exact⟨z,us,0,r,Heap.get?_push_size _ rfl⟩
end
abbrev Sp:=List V→Hp→VK→XK→Prop
abbrev CXT:=List Env→Hp→Shared→XK→Value→Shared→Prop
structure Env0(P:Program)(w:World)(K:PySem.W.Frag)(mg:Str→Option Value)(base:Heap)(A:Around)(outer:List Env)(s:Shared)(H:Hp):Prop where
 frames:A.frames=some outer
 mod:Mod K mg base
 bs:∀ b o,base.get? b=some o→s.heap.get? b=some o∧H b=none
 bsz:base.objs.size≤s.heap.objs.size
 funs:s.heap.FunFrames base outer
 frf:∀ b∈frs outer,H b=none
 hok:HOk P w H s.heap
 bare:AllBare s.gens
def CE(outer:List Env)(P:Program)(w:World)(H:Hp)(s:Shared)(Q:VK)(u:Value)(s':Shared):Prop :=
 ∃ v H',s'.os=s.os∧AllBare s'.gens∧Un (frs outer) [] H H' s.heap s'.heap∧HOk P w H' s'.heap∧RelV v u∧Q v H'
def CR(CX:CXT)(outer:List Env)(P:Program)(w:World)(H:Hp)(s:Shared)(Q:VK)(E:XK)(r:Result)(s':Shared):Prop :=
 match r with
 | .ok (.ret u)=>CE outer P w H s Q u s'
 | .ok _=>False
 | .error e=>CX outer H s E e s'
structure FnOk(P:Program)(w:World)(K:PySem.W.Frag)(mg:Str→Option Value)(base:Heap)(CX:CXT)(k:Nat)(f:Addr)(fd:FuncData)(ps:List Str)(sp:Sp):Prop where
 len:∀ vs H Q E,sp vs H Q E→vs.length=ps.length
 run:∀(A:Around) (outer:List Env) (s:Shared) (H:Hp) (args:Args) (us:List Value) (vs:List V) (Q:VK) (E:XK),Room k A→Env0 P w K mg base A outer s H→BindsTo s fd args (ps.zip us)→Vals vs us→sp vs H Q E →
  codeAny (model P w) A (.call (.ref f) args) (CR CX outer P w H s Q E) s
theorem Env0.in1{P:Program}{w:World}{K:PySem.W.Frag}{mg:Str→Option Value}{base:Heap}{A:Around}{outer:List Env}{s:Shared}{H:Hp}(e:Env0 P w K mg base A outer s H):
 Env0 P w K mg base A.in1 outer s H:=⟨e.frames,e.mod,e.bs,e.bsz,e.funs,e.frf,e.hok,e.bare⟩
section
variable {X:Cx}{pins:List (Addr×Obj)}{σ:St}{H:Hp}{s s':Shared}
theorem Inv.env0(I:Inv X pins σ H s):Env0 X.prog X.w X.K X.mg X.base X.A X.stack s H :=
 ⟨I.ok.frames,I.ok.mod,I.bs,Nat.le_trans I.ok.bsz I.sz,I.stack,I.stkFree,I.hok,I.bare⟩
theorem Inv.after{Q:VK}{u:Value}(I:Inv X pins σ H s)(h:CE X.stack X.prog X.w H s Q u s'):EP X pins σ Q u s':=by
 obtain⟨v,H',os,bare,un,hok,r,q⟩:=h
 obtain⟨hh,g,d,t,os'⟩:=s'
 obtain rfl:os'=s.os:=os
 exact⟨v,H',I.call (h':=hh) (g':=g) (d':=d) (t':=t) (ch:=[]) un hok bare (fun b z=>absurd z (by simp)),r,q⟩
end
def tCall(sp:Sp)(dvs:List V)(E:XK)(t:TA):TE:=fun σ H Q=>t σ H fun vs H1=>sp (vs++dvs) H1 Q E
def Binds(K:PySem.W.Frag)(fd:FuncData)(ps:List Str)(ds:List Value):Prop :=
 ∀(s:Shared) (us:List Value),K.In s.heap→(us++ds).length=ps.length→BindsTo s fd ⟨us,[]⟩ (ps.zip (us++ds))
theorem Binds.all{K:PySem.W.Frag}{fd:FuncData}{ps:List Str}(h:∀ us:List Value,us.length=ps.length→bindArgs fd ⟨us,[]⟩=pure (ps.zip us)):Binds K fd ps []:=fun s us _ hl=>by
 rw[List.append_nil]at hl ⊢
 exact .of_eq (h us hl)
def zeV(CX:CXT)(X:Cx)(E:XK):Prop:=∀(pins:List (Addr×Obj)) (σ:St) (H:Hp) (s:Shared) (e:Value) (s':Shared),Inv X pins σ H s→CX X.stack H s E e s'→X.xe e s'
section
variable {X:Cx}{CX:CXT}{k:Nat}{f C:Addr}{fd:FuncData}{ps:List Str}{sp:Sp}{dvs:List V}{ds:List Value}{E:XK}{x m:Str}{p pos apos:Pos}{e o:Expr}{es:List Expr}{ta:TE}{t:TA}
theorem run_fn{pins:List (Addr×Obj)}{σ:St}{H:Hp}{s:Shared}{Q:VK}{us:List Value}{vs:List V}(F:FnOk X.prog X.w X.K X.mg X.base CX k f fd ps sp)(hr:Room k X.A)(hb:Binds X.K fd ps ds)(hd:Vals dvs ds)(hx:zeV CX X E)
  (I:Inv X pins σ H s) (r:Vals vs us) (h:sp (vs++dvs) H Q E):wpAny (model X.prog X.w) X.A (call (.ref f) us) (EP X pins σ Q) X.xe s:=by
 have r2:Vals (vs++dvs) (us++ds):=r.append hd
 have hl:(us++ds).length=ps.length:=by rw[←r2.length];exact F.len _ _ _ _ h
 refine wpAny_call (codeAny_mono (F.run X.A X.stack s H ⟨us,[]⟩ (us++ds) (vs++dvs) Q E hr I.env0 (hb s us I.kIn hl) r2 h) fun r s' hq=>?_)
 cases r with
 | error e=>exact hx pins σ H s e s' I hq
 | ok fl =>
  cases fl with
  | ret u=>exact I.after hq
  | next=>exact False.elim hq
  | brk=>exact False.elim hq
  | cont=>exact False.elim hq
theorem zpE(F:FnOk X.prog X.w X.K X.mg X.base CX k f fd ps sp)(hr:Room k X.A)(hg:Gl X x)(hm:X.mg x=some (.ref f))(hk:PySem.W.keepIn X.K (.ref f)=true)(hb:Binds X.K fd ps ds)(hd:Vals dvs ds)(hx:zeV CX X E)
  (ha:PA X (e::es) t) (hdb:(x==("__debug__" : Str))=false:=by decide) (he:starEach (e::es) X.env=(false,eval e X.env)::starEach es X.env:=by rfl) (hpl:(backTo pos (starEach es X.env)).any (·.1)=false:=by rfl) :
  PE X (.Call (.Name x p) (e::es) [] pos) (tCall sp dvs E t):=by
 intro pins s σ H Q I h
 refine wpAny_Call_Name_kw (zju I hg hm ?_ hdb)
 refine PySem.W.callWith_K (h₀:=X.base) I.ok.mod.kin hk (thn (ha pos pins s σ H _ I h) fun us s1 hZ=>hZ.elim fun vs hZ=>hZ.elim fun H1 hZ=>hZ.elim fun I1 hZ=>hZ.elim fun r q=>⟨I1.kIn,?_⟩) he hpl
 exact run_fn F hr hb hd hx I1 r q
structure Mk(K:PySem.W.Frag)(C f:Addr):Prop where
 makes:PySem.W.makesIn K C=true
 init:PySem.W.findIn K (.ref C) "__init__" = some (some (.ref f))
 fn:PySem.W.isFn K (.ref f)=true
 kp:PySem.W.keepIn K (.ref C)=true
end
def PK(X:Cx)(kws:List Keyword)(t:TA):Prop :=
 ∀(pos:Pos) (pins:List (Addr×Obj)) (s:Shared) (σ:St) (H:Hp) (Q:List V→Hp→Prop),Inv X pins σ H s→t σ H Q→wpAny (model X.prog X.w) X.A (evalAll ((backToKw pos (keywordEach kws X.env)).map (·.2))) (AP X pins σ Q) X.xe s
section
variable {X:Cx}{CX:CXT}{k:Nat}{f C:Addr}{fd:FuncData}{ps ks:List Str}{sp:Sp}{E:XK}{x m:Str}{p pos apos kpos:Pos}{e o:Expr}{es:List Expr}{kws:List Keyword}{te ta:TE}{t tk:TA}{nm:Option Str}
theorem zlB:PK X [] tNil:=fun _ _ _ _ H Q I h=>wpAny_evalAll_nil ⟨[],H,I,.nil,h⟩
theorem zjy(ha:PE X e te)(hr:PK X kws t):PK X (⟨nm,e,kpos⟩::kws) (tCons te t):=by
 intro pos pins s σ H Q I h
 show wpAny _ _ (evalAll ((do let v ←eval e X.env;standAt pos;pure v)::(backToKw pos (keywordEach kws X.env)).map (·.2))) _ _ s
 refine wpAny_evalAll_cons (wpAny_bind (thn (ha pins s σ H _ I h) fun u s1 hZ=>hZ.elim fun x hZ=>hZ.elim fun H1 hZ=>hZ.elim fun I1 hZ=>hZ.elim fun r1 q1=>wpAny_bind (wpAny_standAt (wpAny_pure ?_))))
 exact thn (hr pos pins s1 σ H1 _ I1 q1) fun us s2 hZ=>hZ.elim fun xs hZ=>hZ.elim fun H2 hZ=>hZ.elim fun I2 hZ=>hZ.elim fun r2 q2=>⟨x::xs,H2,I2,.cons r1 r2,q2⟩
structure KBinds(K:PySem.W.Frag)(fd:FuncData)(ps ks:List Str)(g:List Value→List Value→List Value)(gV:List V→List V→List V):Prop where
 to:∀(s:Shared) (us ws:List Value),K.In s.heap→(g us ws).length=ps.length→BindsTo s fd ⟨us,ks.zip ws⟩ (ps.zip (g us ws))
 rel:∀{vs:List V} {us:List Value} {zs:List V} {ws:List Value},Vals vs us→Vals zs ws→Vals (gV vs zs) (g us ws)
variable {g:List Value→List Value→List Value}{gV:List V→List V→List V}
end
structure FnScope(N P:List Str)(sc:Scope):Prop where
 kind:sc.kind = .function
 co:sc.isCoroutine=false
 gen:sc.isGenerator=false
 nd:N.Nodup
 pre:N.take P.length=P
 par:∀ x∈P,sc.names.lookup x=some .local∨sc.names.lookup x=some .cell
 nofree:∀ y∈sc.names,y.2 ≠ .free
theorem zbc{kindOf:Str→Option NameKind}{x:Str}:∀{binds:List (Str×Value)} {m:Str→Option Value},(∀ v,(x,v) ∉ binds)→bindL kindOf binds m x=m x
 | [],_,_=>rfl
 | (n,v)::r,m,h=>by
  unfold bindL
  rw[zbc fun w hw=>h w (List.mem_cons_of_mem _ hw)]
  split
  · have:x≠n:=by rintro rfl;exact h v List.mem_cons_self
    simp[this]
  · rfl
theorem zbd{kindOf:Str→Option NameKind}{x:Str}:∀{binds:List (Str×Value)} {m:Str→Option Value},(∀ v,(x,v) ∉ binds)→bindC kindOf binds m x=m x
 | [],_,_=>rfl
 | (n,v)::r,m,h=>by
  unfold bindC
  rw[zbd fun w hw=>h w (List.mem_cons_of_mem _ hw)]
  split
  · rfl
  · have:x≠n:=by rintro rfl;exact h v List.mem_cons_self
    simp[this]
theorem zbe{kindOf:Str→Option NameKind}{x:Str}{v:Value}:∀{P:List Str} {vs:List Value} {i:Nat} {m:Str→Option Value},P.Nodup→P[i]?=some x→vs[i]?=some v→kindOf x=some .local →
  bindL kindOf (P.zip vs) m x=some v
 | [],_,_,_,_,h,_,_=>by simp at h
 | _::_,[],_,_,_,_,h,_=>by simp at h
 | p::P,w::vs,0,m,nd,h1,h2,hk=>by
  simp at h1 h2;subst h1;subst h2
  show bindL kindOf ((p,w)::P.zip vs) m p=_
  unfold bindL
  rw[zbc fun v hv=>(List.nodup_cons.mp nd).1 (List.of_mem_zip hv).1,if_pos hk]
  simp
 | p::P,w::vs,i+1,m,nd,h1,h2,hk=>by
  show bindL kindOf ((p,w)::P.zip vs) m x=_
  unfold bindL
  exact zbe (i:=i) (List.nodup_cons.mp nd).2 (by simpa using h1) (by simpa using h2) hk
theorem zbf{kindOf:Str→Option NameKind}{x:Str}{v:Value}:∀{P:List Str} {vs:List Value} {i:Nat} {m:Str→Option Value},P.Nodup→P[i]?=some x→vs[i]?=some v→kindOf x≠some .local →
  bindC kindOf (P.zip vs) m x=some v
 | [],_,_,_,_,h,_,_=>by simp at h
 | _::_,[],_,_,_,_,h,_=>by simp at h
 | p::P,w::vs,0,m,nd,h1,h2,hk=>by
  simp at h1 h2;subst h1;subst h2
  show bindC kindOf ((p,w)::P.zip vs) m p=_
  unfold bindC
  rw[zbd fun v hv=>(List.nodup_cons.mp nd).1 (List.of_mem_zip hv).1,if_neg hk]
  simp
 | p::P,w::vs,i+1,m,nd,h1,h2,hk=>by
  show bindC kindOf ((p,w)::P.zip vs) m x=_
  unfold bindC
  exact zbf (i:=i) (List.nodup_cons.mp nd).2 (by simpa using h1) (by simpa using h2) hk
def start(N:List Str)(vs:List V):St:=vs.map some++List.replicate (N.length-vs.length) none
def cxOf(CX:CXT)(P:Program)(w:World)(K:PySem.W.Frag)(mg:Str→Option Value)(base:Heap)(N:List Str)(qual:Str)(scope:Scope)(f:Addr)(cd:Value)(A:Around)(outer:List Env)(s:Shared)(H:Hp)(E:XK):Cx where
 prog:=P
 w:=w
 K:=K
 mg:=mg
 base:=base
 A:=A.deeper (envOfC qual scope s.heap.objs.size f cd)
 N:=N
 s₀:=s
 H₀:=H
 env:=envOfC qual scope s.heap.objs.size f cd
 outer:=outer
 stack:=envOfC qual scope s.heap.objs.size f cd::outer
 ex:=[]
 calm:=true
 fn:=fun _=>true
 pn:=[]
 xe:=fun e s'=>wpAny (model P w) (A.deeper (envOfC qual scope s.heap.objs.size f cd)) (leaving (envOfC qual scope s.heap.objs.size f cd) e) (fun _ s''=>CX outer H s E e s'') (fun e' s''=>CX outer H s E e' s'') s'
theorem zdq{sc:Scope}{n:Nat}{x:Str}(h:sc.names.lookup x=some .cell):∃ c,(cellsFrom n sc.names []).lookup x=some c:=by
 have q:=PySem.W.cellsFrom_some sc.names n [] (.inl h)
 exact Option.isSome_iff_exists.mp q
theorem zkx{CX:CXT}{P:Program}{w:World}{K:PySem.W.Frag}{mg:Str→Option Value}{base:Heap}{N ps:List Str}{qual:Str}{scope:Scope}{f:Addr}{cd:Value}{A:Around}{outer:List Env}{s s1:Shared}{H:Hp}{E:XK}{us:List Value}{vs:List V}
   (S:FnScope N ps scope) (hd:A.handled=none) (e0:Env0 P w K mg base A outer s H) (hl:vs.length=ps.length) (r:Vals vs us)
   (x:InCallC s s.heap.objs.size (bindL (envOfC qual scope s.heap.objs.size f cd).kindOf (ps.zip us) fun _=>none) (cellsFrom (s.heap.objs.size+1) scope.names []) (bindC (envOfC qual scope s.heap.objs.size f cd).kindOf (ps.zip us) fun _=>none) s1) :
   Inv (cxOf CX P w K mg base N qual scope f cd A outer s H E) [] (start N vs) H s1:=by
 have hpl:ps.length≤N.length:=by have:=congrArg List.length S.pre;rw[List.length_take]at this;omega
 obtain⟨h1,tk,rfl,hk⟩:=x.done
 have noA:∀ b:Addr,b ∉ (cxOf CX P w K mg base N qual scope f cd A outer s H E).ex:=fun b z=>absurd (show b∈([]:List Addr)from z) (by simp)
 refine⟨⟨e0.mod,S.kind,rfl,rfl,Nat.le_refl _,fun y z c h1 h2=>?_,fun y hy=>?_,fun y c _ h=>?_,fun _=>hd,Around.frames_deeper e0.frames,.inr ⟨rfl,rfl⟩,fun b z=>absurd z (noA b),e0.bs,e0.bsz,fun b _ _=>noA b,fun b z=>absurd z (noA b),e0.funs,e0.frf⟩,
   rfl,e0.bare,Un.kept hk,⟨_,x.toInCall.ns,fun i y v h1 h2 h3=>?_⟩,fun y c h=>⟨_,x.cell y c h⟩,e0.hok.fresh (Nat.le_refl _),fun y c h=>?_,fun p hp=>absurd (show p∈([]:List (Addr×Obj))from hp) (by simp),e0.hok.kept hk,?_⟩
 · exact name_of_addr x.apart (PySem.mem_of_lookup h1) (PySem.mem_of_lookup h2)
 · have hy:scope.names.lookup y=some .cell∨scope.names.lookup y=some .free:=hy
   rcases hy with hy|hy
   · exact zdq hy
   · exact absurd rfl (S.nofree _ (PySem.mem_of_lookup hy))
 · exact Nat.le_of_lt (x.above y c (PySem.mem_of_lookup h))
 · have hi:i<vs.length:=by
     unfold start at h2
     by_cases hi:i<vs.length
     · exact hi
     · rw[List.getElem?_append_right (by simpa using hi)]at h2
       rw[List.getElem?_replicate]at h2
       split at h2<;>cases h2
   have ha:vs[i]?=some v:=by
     unfold start at h2
     rw[List.getElem?_append_left (by simpa using hi),List.getElem?_map]at h2
     cases e:vs[i]? with
     | none=>rw[e]at h2;cases h2
     | some a=>rw[e]at h2;cases h2;rfl
   obtain⟨u,hu,rv⟩:=r.get ha
   have hp:ps[i]?=some y:=by
     rw[←S.pre,List.getElem?_take_of_lt (by omega)];exact h1
   have ndP:ps.Nodup:=by rw[←S.pre];exact S.nd.sublist (List.take_sublist _ _)
   refine⟨u,rv,?_⟩
   rcases S.par y (List.mem_of_getElem? hp)with k|k
   · exact .inl ⟨k,zbe ndP hp hu k⟩
   · obtain⟨c,e⟩:=zdq (n:=s.heap.objs.size+1) k
     refine .inr ⟨.inl k,c,e,?_⟩
     have q:=x.cell y c e
     rw[zbf ndP hp hu (by show scope.names.lookup y≠_;rw[k];decide)]at q
     exact q
 · exact e0.hok.fresh (Nat.le_of_lt (x.above y c (PySem.mem_of_lookup h)))
 · unfold start
   show _=N.length
   rw[List.length_append,List.length_map,List.length_replicate]
   omega
theorem fn_of{CX:CXT}{P:Program}{w:World}{K:PySem.W.Frag}{mg:Str→Option Value}{base:Heap}{k:Nat}{f:Addr}{name qual:Str}{params:Arguments}{body:List Stmt}{scope:Scope}{dV kV doc pm cdv ct oc:Value}{an od:Option Addr}
  {osl:Array (Option Value)} {N ps:List Str} {sp:Sp} (lk:K.lookup f=some ⟨oc,od,.func (PySem.W.fnOf name qual params body scope dV kV doc pm an cdv ct),osl⟩) (hcd:PySem.W.codeIn K cdv qual=true) (S:FnScope N ps scope)
  (len:∀ vs H Q E,sp vs H Q E→vs.length=ps.length)
  (hbody:∀(A:Around) (outer:List Env) (s:Shared) (H:Hp) (vs:List V) (Q:VK) (E:XK),Room k (A.deeper (envOfC qual scope s.heap.objs.size f cdv))→sp vs H Q E →
    ∃ t,PSs (cxOf CX P w K mg base N qual scope f cdv A outer s H E) body t∧t { nx:=fun _ H'=>Q .non H',rt:=Q } (start N vs) H) :
  FnOk P w K mg base CX (k+1) f (PySem.W.fnOf name qual params body scope dV kV doc pm an cdv ct) ps sp:=by
 refine⟨len,fun A outer s H args us vs Q E hr e0 hb r hsp=>?_⟩
 have hl:=len _ _ _ _ hsp
 have KX:K.In s.heap:=e0.mod.kin.keeps fun b o e=>(e0.bs b o e).1
 have lim:s.heap.NoLimit:=e0.mod.nolimit.keeps fun b o e=>(e0.bs b o e).1
 have hkind:∀ y∈ps.zip us,scope.names.lookup y.1=some .local∨(scope.names.lookup y.1=some .cell∧((cellsFrom (s.heap.objs.size+1) scope.names []).lookup y.1).isSome=true):=fun⟨n,v⟩ hy=>by
  rcases S.par n (List.of_mem_zip hy).1 with q|q
  · exact .inl q
  · exact .inr ⟨q,PySem.W.cellsFrom_some _ _ _ (.inl q)⟩
 refine codeAny_call_function hr.depth (KX _ _ lk) rfl S.co S.gen rfl (PySem.W.codeRec_of KX hcd) (hb _ _ _ _ ?_)
 refine wpAny_newFunctionEnv_cells S.kind hkind fun env he s1 x=>?_
 subst he
 refine⟨lim.keeps x.toInCall.keep,codeAny_func ?_⟩
 obtain⟨t,ht,hq⟩:=hbody A outer s H vs Q E (hr.deeper _) hsp
 have I:Inv (cxOf CX P w K mg base N qual scope f cdv A outer s H E) [] (start N vs) H s1:=zkx S hr.hd e0 hl r x
 refine wpAny_mono (ht [] s1 (start N vs) H _ I hq) (fun fl s' hs=>?_) fun e s' hs=>hs
 have fin:∀{σ':St} {H':Hp} {v:V} {u:Value},Inv (cxOf CX P w K mg base N qual scope f cdv A outer s H E) [] σ' H' s'→RelV v u→Q v H'→CE outer P w H s Q u s' :=
  fun{σ' H' v u} J rv q=>⟨v,H',J.os,J.bare,J.base,J.hok,rv,q⟩
 cases fl with
 | ret u =>
  obtain⟨v,σ',H',J,rv,q⟩:=hs
  exact fin J rv q
 | next =>
  obtain⟨σ',H',J,q⟩:=hs
  exact fin (v:=V.non) (u:=Value.none) J rfl q
 | brk =>
  obtain⟨_,_,_,q⟩:=hs
  exact False.elim q
 | cont =>
  obtain⟨_,_,_,q⟩:=hs
  exact False.elim q
end L2
namespace L2
open PySem PySem.Spec PyProof.Rows
section
variable {X:Cx}{x:Str}{p pos:Pos}{e:Expr}{es:List Expr}{t:TA}{id T:String}{r:List V→Hp→VK→Prop}
def tCB(r:List V→Hp→VK→Prop)(t:TA):TE:=fun σ H Q=>t σ H fun vs H1=>r vs H1 Q
theorem zdr(hc:z8C X (.builtin id) r)(hg:Gl X x)(hm:X.mg x=none)(hv:bootBuiltins x=some (.builtin id))(ha:PA X (e::es) t)(hn:x ≠ "__name__" := by decide)(hdb:(x==("__debug__" : Str))=false:=by decide)
  (he:starEach (e::es) X.env=(false,eval e X.env)::starEach es X.env:=by rfl) (hpl:(backTo pos (starEach es X.env)).any (·.1)=false:=by rfl):PE X (.Call (.Name x p) (e::es) [] pos) (tCB r t):=by
 intro pins s σ H Q I h
 refine wpAny_Call_Name_kw (z4x I hg hm hv ?_ hn hdb)
 exact PyProof.Rows.callWith_builtin1 (thn (ha pos pins s σ H _ I h) fun us s1 hZ=>hZ.elim fun vs hZ=>hZ.elim fun H1 hZ=>hZ.elim fun I1 hZ=>hZ.elim fun r1 q1=>hc pins s1 σ H1 vs us Q I1 r1 q1) he hpl
theorem zky(hc:z8C X (.type T) r)(hg:Gl X x)(hm:X.mg x=none)(hv:bootBuiltins x=some (.type T))(ha:PA X (e::es) t)(hn:x ≠ "__name__" := by decide)(hdb:(x==("__debug__" : Str))=false:=by decide)
  (he:starEach (e::es) X.env=(false,eval e X.env)::starEach es X.env:=by rfl) (hpl:(backTo pos (starEach es X.env)).any (·.1)=false:=by rfl):PE X (.Call (.Name x p) (e::es) [] pos) (tCB r t):=by
 intro pins s σ H Q I h
 refine wpAny_Call_Name_kw (z4x I hg hm hv ?_ hn hdb)
 exact PyProof.Rows.callWith_type1 (thn (ha pos pins s σ H _ I h) fun us s1 hZ=>hZ.elim fun vs hZ=>hZ.elim fun H1 hZ=>hZ.elim fun I1 hZ=>hZ.elim fun r1 q1=>hc pins s1 σ H1 vs us Q I1 r1 q1) he hpl
end
end L2
namespace HT
open PySem PyProof.Rows
section
open PySem.SeqAt
open PySem.AutoSeq1 (wpAny_loadPart')
open PySem.MeetsSeq PySem.MeetsSeq2 PySem.MeetsSeq3
end
section
variable {prog:Program}{w:World}{A:Around}{E:Value→Shared→Prop}{s:Shared}
def sIx(n d:Nat):Option Int→Nat
 | none=>d
 | some v=>if v<0 then(v+(n:Int)).toNat else min v.toNat n
theorem sIx_none(n d:Nat):sIx n d none=d:=rfl
theorem sIx_nat(n d k:Nat):sIx n d (some (k:Int))=min k n:=by
 show(if(k:Int)<0 then((k:Int)+(n:Int)).toNat else min (k:Int).toNat n)=min k n
 rw[if_neg (by omega),Int.toNat_natCast]
end
end HT
namespace L2
open PySem PySem.Spec PyProof.Rows
abbrev TO:=St→Hp→(Option Int→Hp→Prop)→Prop
def PO(X:Cx)(e:Option Expr)(t:TO):Prop :=
 ∀(pins:List (Addr×Obj)) (s:Shared) (σ:St) (H:Hp) (Q:Option Int→Hp→Prop),Inv X pins σ H s→t σ H Q →
  wpAny (model X.prog X.w) X.A (evalPart e X.env) (fun u s'=>∃ o H',Inv X pins σ H' s'∧IsPart u o∧Q o H') X.xe s
def zpF:TO:=fun _ H Q=>Q none H
def tPart(t:TE):TO:=fun σ H Q=>t σ H fun x H1=>∃ i,x = .int i∧Q (some i) H1
section
variable {X:Cx}{e:Expr}{te:TE}{lo hi:Option Expr}{tl th:TO}{pos p2:Pos}
theorem zpG:PO X none zpF:=by
 intro pins s σ H Q I h
 rw[evalPart_none]
 exact wpAny_pure ⟨none,H,I,.none,h⟩
theorem zpH(h:PE X e te):PO X (some e) (tPart te):=by
 intro pins s σ H Q I hw
 rw[evalPart_some]
 refine thn (h pins s σ H _ I hw) ?_
 rintro u s1 ⟨x,H1,I1,r1,q1⟩
 obtain⟨i,rfl,q⟩:=q1
 obtain⟨t,rfl⟩:=r1
 exact⟨some i,H1,I1,.int i t,q⟩
def SlR(X:Cx)(r:V→Option Int→Option Int→Hp→VK→Prop):Prop :=
 ∀(pins:List (Addr×Obj)) (s:Shared) (σ:St) (H:Hp) (x:V) (v vl vu:Value) (lo hi:Option Int) (sl:Addr) (Q:VK),Inv X pins σ H s→RelV x v→s.heap.IsSliceOf sl vl vu .none→IsPart vl lo→IsPart vu hi→r x lo hi H Q →
  ∃ T id,typeLookup (.type T) "__getitem__" = pure (some (.builtin id))∧s.TypeIs v T∧wpAny (model X.prog X.w) X.A (getItem v (.ref sl)) (EP X pins σ Q) X.xe s
def tSl(r:V→Option Int→Option Int→Hp→VK→Prop)(te:TE)(tl th:TO):TE:=fun σ H Q=>te σ H fun x H1=>tl σ H1 fun l H2=>th σ H2 fun u H3=>r x l u H3 Q
theorem zlC{r:V→Option Int→Option Int→Hp→VK→Prop}(hr:SlR X r)(he:PE X e te)(hl:PO X lo tl)(hu:PO X hi th):PE X (.Subscript e (.Slice lo hi none p2) pos) (tSl r te tl th):=by
 intro pins s σ H Q I h
 refine Subscript_ (thn (he pins s σ H _ I h) ?_)
 rintro v s1 ⟨x,H1,I1,r1,q1⟩
 refine wpAny_Slice (thn (hl pins s1 σ H1 _ I1 q1) fun vl s2 hZ=>hZ.elim fun l hZ=>hZ.elim fun H2 hZ=>hZ.elim fun I2 hZ=>hZ.elim fun pl q2=>thn (hu pins s2 σ H2 _ I2 q2) ?_)
 rintro vu s3 ⟨u,H3,I3,pu,q3⟩
 rw[evalPart_none]
 refine wpAny_pure ?_
 have I4:Inv X pins σ H3 { s3 with heap:=s3.heap.push { cls := .type "slice",data := .fields #[vl,vu,.none] } }:=I3.kept (t':=s3.toks) fun b ob q=>Heap.get?_push_of_some _ q
 obtain⟨T,id,hT,ht,hg⟩:=hr pins { s3 with heap:=s3.heap.push { cls := .type "slice",data := .fields #[vl,vu,.none] } } σ H3 x v vl vu l u s3.heap.objs.size Q I4 r1 (Heap.IsSliceOf.new ..) pl pu q3
 show wpAny (model X.prog X.w) X.A (subscriptTail e (.Slice lo hi none p2) v (.ref s3.heap.objs.size)) (EP X pins σ Q) X.xe { s3 with heap:=s3.heap.push { cls := .type "slice",data := .fields #[vl,vu,.none] } }
 exact tail_any (ops:=[.ref s3.heap.objs.size,v]) ht hT hg (by with_unfolding_all rfl)
def cutV(xs:List V)(lo hi:Option Int):List V:=(xs.drop (HT.sIx xs.length 0 lo)).take (HT.sIx xs.length xs.length hi-HT.sIx xs.length 0 lo)
theorem zds(xs:List V)(lo hi:Option Int):(cutV xs lo hi).length≤xs.length:=by
 unfold cutV
 rw[List.length_take,List.length_drop]
 omega
end
end L2
namespace L2
open PySem PySem.Spec PyProof.Rows
def ixN(n:Nat)(i:Int):Option Nat:=if 0≤i then(if i<n then some i.toNat else none) else if -(n:Int)≤i then some (i+n).toNat else none
def atI{α:Type}(xs:List α)(i:Int):Option α:=(ixN xs.length i).bind fun j=>xs[j]?
theorem zjz{n:Nat}{i:Int}{j:Nat}(h:ixN n i=some j):seqIndex? i n=some j∧j<n ∧ -(n:Int)≤i∧i<n:=by
 unfold ixN at h
 by_cases h0:0≤i
 · rw[if_pos h0]at h
   by_cases h1:i<n
   · rw[if_pos h1]at h
     have e:i.toNat=j:=Option.some.inj h
     exact⟨by rw[seqIndex_of h0 h1,e],by omega,by omega,h1⟩
   · rw[if_neg h1]at h;cases h
 · rw[if_neg h0]at h
   by_cases h1 : -(n:Int)≤i
   · rw[if_pos h1]at h
     have e:(i+n).toNat=j:=Option.some.inj h
     exact⟨by rw[seqIndex_neg (by omega) h1,e],by omega,h1,by omega⟩
   · rw[if_neg h1]at h;cases h
theorem zcB{α:Type}{xs:List α}{i:Int}{v:α}(h:atI xs i=some v):∃ j,seqIndex? i xs.length=some j∧xs[j]?=some v∧j<xs.length ∧ -(xs.length:Int)≤i∧i<xs.length:=by
 unfold atI at h
 cases e:ixN xs.length i with
 | none=>rw[e]at h;cases h
 | some j =>
  rw[e]at h
  obtain⟨h1,h2,h3,h4⟩:=zjz e
  exact⟨j,h1,h,h2,h3,h4⟩
theorem z4A{α:Type}{xs:List α}{j:Nat}{v:α}(h:xs[j]?=some v):atI xs (j:Int)=some v:=by
 have hj:j<xs.length:=(List.getElem?_eq_some_iff.mp h).1
 have e:ixN xs.length (j:Int)=some j:=by
  unfold ixN
  rw[if_pos (by omega),if_pos (by omega)];simp
 unfold atI;rw[e];exact h
def zjA(b:Expr):Prop:=∀ o i,subscripted b false o i=operate [o,i] (getItem o i)
def IxR(X:Cx)(r:R2):Prop :=
 ∀(value slice:Expr) (pins:List (Addr×Obj)) (s:Shared) (σ:St) (H:Hp) (x y:V) (v u:Value) (Q:VK),Inv X pins σ H s→RelV x v→RelV y u→r x y H Q →
  subscripted slice false v u=operate [v,u] (getItem v u)→wpAny (model X.prog X.w) X.A (subscriptTail value slice v u) (EP X pins σ Q) X.xe s
def MtR(X:Cx)(id:String)(r:V→List V→Hp→VK→Prop):Prop :=
 ∀(pins:List (Addr×Obj)) (s:Shared) (σ:St) (H:Hp) (x:V) (xs:List V) (v:Value) (us:List Value) (Q:VK),Inv X pins σ H s→RelV x v→Vals xs us→r x xs H Q →
  wpAny (model X.prog X.w) X.A (call (.builtin id) (v::us)) (EP X pins σ Q) X.xe s
section
variable {X:Cx}{a b:Expr}{ta tb:TE}{pos:Pos}
theorem IxR.or{r r':R2}(h:IxR X r)(h':IxR X r'):IxR X (fun x y H Q=>r x y H Q∨r' x y H Q):=by
 intro value slice pins s σ H x y v u Q I rx ry q hs
 rcases q with q|q
 · exact h value slice pins s σ H x y v u Q I rx ry q hs
 · exact h' value slice pins s σ H x y v u Q I rx ry q hs
theorem pe_ix{r:R2}(hr:IxR X r)(ha:PE X a ta)(hb:PE X b tb)(hs:zjA b):PE X (.Subscript a b pos) (tOp r ta tb):=by
 intro pins s σ H Q I h
 exact Subscript_ (binT ha hb I h fun v u s2 x y H2 I2 rx ry q=>hr a b pins s2 σ H2 x y v u Q I2 rx ry q (hs _ _))
def rIxL(K:PySem.W.Frag):R2:=fun x y H Q=>∃ p xs i v,x = .ref p∧y = .int i∧SqL K H p xs∧atI xs i=some v∧Q v H
def rIxT(K:PySem.W.Frag):R2:=fun x y H Q=>∃ p xs i v,x = .ref p∧y = .int i∧SqT K H p xs∧atI xs i=some v∧Q v H
def rIxS:R2:=fun x y H Q=>∃ z i c,x = .str z∧y = .int i∧z.length≤sizeLine∧atI z.cps.toList i=some c∧Q (.str ⟨#[c]⟩) H
theorem zpI:IxR X (rIxL X.K):=by
 intro value slice pins s σ H x y v u Q I rx ry h hs
 obtain⟨p,xs,i,z,rfl,rfl,hq,he,q⟩:=h
 cases rx
 obtain⟨t,rfl⟩:=ry
 obtain⟨its,r,pl,hz⟩:=I.list hq
 obtain⟨j,h1,h2,h3,h4,h5⟩:=zcB he
 obtain⟨w,ew,rw'⟩:=r.get h2
 have hl:=r.length
 have hn:=z7M
 have fin:EP X pins σ Q w s:=⟨z,H,I,rw',q⟩
 by_cases h0:0≤i
 · have hj:i.toNat=j:=by
    rw[seqIndex_of h0 h5]at h1
    exact Option.some.inj h1
   exact item_listR pl.isList h0 (by omega) (by rw[hj];simpa using ew) fin hs
 · have hj:(i+(its.toArray.size:Int)).toNat=j:=by
    rw[seqIndex_neg (by omega) h4]at h1
    rw[List.size_toArray,←hl]
    exact Option.some.inj h1
   exact subscriptTail_builtinR (x:=w) pl.isList.typeIs slot_list_getitem.lookup
    (wpAny_getItem_list_neg (Q:=fun r s'=>r=w∧EP X pins σ Q r s') pl.isList (by omega) (by rw[List.size_toArray]<;>omega) (by omega) (by rw[hj];simpa using ew) ⟨rfl,fin⟩) hs
theorem ix_tup:IxR X (rIxT X.K):=by
 intro value slice pins s σ H x y v u Q I rx ry h hs
 obtain⟨p,xs,i,z,rfl,rfl,hq,he,q⟩:=h
 cases rx
 obtain⟨t,rfl⟩:=ry
 obtain⟨its,r,pl,hz⟩:=I.tuple hq
 obtain⟨j,h1,h2,h3,h4,h5⟩:=zcB he
 obtain⟨w,ew,rw'⟩:=r.get h2
 have hl:=r.length
 have hn:=z7M
 have fin:EP X pins σ Q w s:=⟨z,H,I,rw',q⟩
 exact subscriptTail_builtinR (x:=w) pl.typeIs slot_tuple_getitem.lookup
  (getItem_tuple (j:=j) (Q:=fun r s'=>r=w∧EP X pins σ Q r s') pl (by omega) (by omega) (by rw[List.size_toArray,←hl];exact h1) (by simpa using ew) ⟨rfl,fin⟩) hs
theorem ix_str:IxR X rIxS:=by
 intro value slice pins s σ H x y v u Q I rx ry h hs
 obtain⟨z,i,c,rfl,rfl,hz,he,q⟩:=h
 obtain⟨t,rfl⟩:=rx
 obtain⟨t',rfl⟩:=ry
 obtain⟨j,h1,h2,h3,h4,h5⟩:=zcB he
 have hl:z.cps.toList.length=z.length:=by simp[Str.length]
 rw[hl]at h1 h4 h5
 have hn:=z7M
 exact tail_any (typeIs_str s z t) slot_str_getitem.lookup (getItem_str (c:=c) (by
  have e1:decide (i < -(2 ^ 63:Int))=false:=decide_eq_false (by omega)
  have e2:decide (i≥2 ^ 63)=false:=decide_eq_false (by omega)
  rw[e1,e2,Bool.or_false]) (by rw[h1];simpa using h2) ⟨.str ⟨#[c]⟩,H,I.tok _,⟨_,rfl⟩,q⟩) hs
def rIx(K:PySem.W.Frag):R2:=fun x y H Q=>rIxL K x y H Q∨rIxT K x y H Q∨rIxS x y H Q
theorem ix_seq:IxR X (rIx X.K):=zpI.or (ix_tup.or ix_str)
theorem zeW(its:List Value)(n j:Nat)(u:Value):Obj.mapSeq (·.setIfInBounds j u) { cls := .type "list",data := .seq its.toArray n }={ cls := .type "list",data := .seq (its.set j u).toArray n }:=by
 simp[Obj.mapSeq]
theorem Inv.lst{pins:List (Addr×Obj)}{σ:St}{H:Hp}{s:Shared}{p:Addr}{xs:List V}(I:Inv X pins σ H s)(h:H p=some (.lst xs)):
  ∃(its:List Value) (n:Nat),Vals xs its∧s.heap.get? p=some { cls := .type "list",data := .seq its.toArray n }∧xs.length≤sizeLine:=by
 obtain⟨z,its,n,r,e⟩:=I.hok p _ h
 exact⟨its,n,r,e,z⟩
theorem Inv.lstUpd{pins:List (Addr×Obj)}{σ:St}{H:Hp}{s:Shared}{p:Addr}{xs ys:List V}{its its':List Value}{n n':Nat}{f:Obj→Obj}(I:Inv X pins σ H s)(h:H p=some (.lst xs))
  (ho:s.heap.get? p=some { cls := .type "list",data := .seq its.toArray n }) (hf:f { cls := .type "list",data := .seq its.toArray n }={ cls := .type "list",data := .seq its'.toArray n' }) (r:Vals ys its') (hz:ys.length≤sizeLine) (t:Nat) :
  Inv X pins σ (upd H p (.lst ys)) { s with heap:=s.heap.update p f,toks:=t }:=by
 have e:(s.heap.update p f).get? p=some { cls := .type "list",data := .seq its'.toArray n' }:=by
  rw[Heap.get?_update_self f ho (by rw[hf]<;>rfl),hf]
 refine I.write (x:=p) (e:=p) (by rw[h];trivial) (.inl rfl) (fun b u hb q=>(Heap.get?_update_other _ _ (Ne.symm hb)).trans q) ⟨_,e⟩ ?_
 exact⟨hz,its',n',r,e⟩
def rSetL:V→V→V→Hp→(Hp→Prop)→Prop:=fun o i v H Q=>∃ p xs k j,o = .ref p∧i = .int k∧H p=some (.lst xs)∧ixN xs.length k=some j∧Q (upd H p (.lst (xs.set j v)))
theorem zlD:PSet X rSetL:=by
 intro pins s σ H o i v ov iv u Q I ro ri rv h
 obtain⟨p,xs,k,j,rfl,rfl,hp,hj,q⟩:=h
 cases ro
 obtain⟨t,rfl⟩:=ri
 obtain⟨its,n,r,ho,hz⟩:=I.lst hp
 obtain⟨h1,h2,h3,h4⟩:=zjz hj
 have hl:=r.length
 have hn:=z7M
 have I':Inv X pins σ (upd H p (.lst (xs.set j v))) { s with heap:=s.heap.update p (Obj.mapSeq (·.setIfInBounds j u)) } :=
   I.lstUpd hp ho (zeW its n j u) (r.set rv j) (by rw[List.length_set];exact hz) s.toks
 by_cases h0:0≤k
 · have hk:k.toNat=j:=by
    rw[seqIndex_of h0 h4]at h1
    exact Option.some.inj h1
   exact PySem.W.ki_setAt ho h0 (by omega) (by rw[List.size_toArray,←hl];exact h4) (by rw[hk];exact⟨_,I',q⟩)
 · have hk:(k+(its.toArray.size:Int)).toNat=j:=by
    rw[seqIndex_neg (by omega) h3]at h1
    rw[List.size_toArray,←hl]
    exact Option.some.inj h1
   exact PySem.W.ki_setBack ho (by omega) (by rw[List.size_toArray,←hl];exact h3) (by omega) (by rw[hk];exact⟨_,I',q⟩)
theorem zcC(lo hi:Option Int)(n:Nat):(sliceBounds lo hi none n).1=((HT.sIx n 0 lo:Nat):Int)∧(sliceBounds lo hi none n).2.1=((HT.sIx n n hi:Nat):Int)∧(sliceBounds lo hi none n).2.2=1:=by
 refine⟨?_,?_,rfl⟩
 · cases lo with
   | none=>simp[sliceBounds,HT.sIx]
   | some i =>
    simp only[sliceBounds,HT.sIx,Option.getD_none,show(1:Int) > 0 by decide,if_true]
    by_cases h:i<0
    · simp only[h,if_true]<;>omega
    · simp only[h,if_false]<;>omega
 · cases hi with
   | none=>simp[sliceBounds,HT.sIx]
   | some i =>
    simp only[sliceBounds,HT.sIx,Option.getD_none,show(1:Int) > 0 by decide,if_true]
    by_cases h:i<0
    · simp only[h,if_true]<;>omega
    · simp only[h,if_false]<;>omega
theorem zb6(its:List Value)(lo hi:Option Int):slicePick its.toArray lo hi none=((its.drop (HT.sIx its.length 0 lo)).take (HT.sIx its.length its.length hi-HT.sIx its.length 0 lo)).toArray:=by
 obtain⟨h1,h2,h3⟩:=zcC lo hi its.toArray.size
 unfold slicePick
 rw[h1,h2,h3]
 simp only[sliceRange_one,pick_run,List.size_toArray]<;>rfl
def rSlL(K:PySem.W.Frag):V→Option Int→Option Int→Hp→VK→Prop:=fun x lo hi H Q=>∃ a xs,x = .ref a∧SqL K H a xs∧∀ p,H p=none→Q (.ref p) (upd H p (.lst (cutV xs lo hi)))
theorem zpJ:SlR X (rSlL X.K):=by
 intro pins s σ H x v vl vu lo hi sl Q I rx hs pl pu h
 obtain⟨a,xs,rfl,hx,q⟩:=h
 cases rx
 obtain⟨its,r,ht,hz⟩:=I.list hx
 have hlen:=r.length
 refine⟨"list",_,slot_list_getitem.lookup,ht.isList.typeIs,?_⟩
 refine wpAny_getItem_list_slice ht.isList hs pl pu .none (by simp) ?_ (by rw[List.size_toArray]<;>omega)
 rw[zb6,←hlen]
 refine⟨.ref s.heap.objs.size,_,I.laid (t':=s.toks) (o := .lst (cutV xs lo hi)) (fun b ob q=>Heap.get?_push_of_some _ q) (Nat.le_refl _) ?_,rfl,q _ (I.hok.fresh (Nat.le_refl _))⟩
 exact⟨Nat.le_trans (zds xs lo hi) hz,_,0,(r.drop (HT.sIx xs.length 0 lo)).take (HT.sIx xs.length xs.length hi-HT.sIx xs.length 0 lo),Heap.get?_push_size _ rfl⟩
theorem z4B:z8C X (.builtin "len") (fun xs H Q=>∃ p ys,xs=[.ref p]∧(SqL X.K H p ys∨SqT X.K H p ys)∧Q (.int ys.length) H):=by
 intro pins s σ H xs us Q I r h
 obtain⟨p,ys,rfl,hq,q⟩:=h
 obtain⟨u,rfl,rx⟩:=zjx r
 cases rx
 have hn:=z7M
 rcases hq with hq|hq
 · obtain⟨its,r',pl,hz⟩:=I.list hq
   have hlen:=r'.length
   exact Calls.call_len_list pl.isList (by simp only[List.size_toArray]<;>omega) ⟨.int ys.length,H,I.tok _,⟨s.toks+1,by rw[List.size_toArray,hlen]⟩,q⟩
 · obtain⟨its,r',pl,hz⟩:=I.tuple hq
   have hlen:=r'.length
   exact len_tuple pl (by simp only[List.size_toArray]<;>omega) ⟨.int ys.length,H,I.tok _,⟨s.toks+1,by rw[List.size_toArray,hlen]⟩,q⟩
theorem z6U:z8C X (.type "list") (fun xs H Q=>∃ p ys,xs=[.ref p]∧(SqL X.K H p ys∨SqT X.K H p ys)∧∀ l,H l=none→Q (.ref l) (upd H l (.lst ys))):=by
 intro pins s σ H xs us Q I r h
 obtain⟨p,ys,rfl,hq,q⟩:=h
 obtain⟨u,rfl,rx⟩:=zjx r
 cases rx
 have fin:∀(its:List Value),Vals ys its→ys.length≤sizeLine→∀(h':Heap) (c':Nat),(∀ b o',s.heap.get? b=some o'→h'.get? b=some o') →
    h'.get? s.heap.objs.size=some { cls := .type "list",dict:=none,data := .seq its.toArray c',slots:=#[] }→EP X pins σ Q (.ref s.heap.objs.size) { s with heap:=h' }:=fun its r' hz h' c' kp e =>
   ⟨.ref s.heap.objs.size,_,I.laid (t':=s.toks) kp (Nat.le_refl _) (show ObjOk X.prog X.w _ h' _ (.lst ys) from⟨hz,its,c',r',e⟩),rfl,q _ (I.hok.fresh (Nat.le_refl _))⟩
 rcases hq with hq|hq
 · obtain⟨its,r',pl,hz⟩:=I.list hq
   have hlen:=r'.length
   obtain⟨o,ho,hc,n,hd⟩:=pl.isList
   exact call_list_seq p (.inl rfl) ho hc hd (fun h' c' kp e=>fin its r' hz h' c' kp e) (by simp only[List.size_toArray]<;>omega)
 · obtain⟨its,r',pl,hz⟩:=I.tuple hq
   have hlen:=r'.length
   obtain⟨o,ho,hc,n,hd⟩:=pl
   exact call_list_seq p (.inr rfl) ho hc hd (fun h' c' kp e=>fin its r' hz h' c' kp e) (by simp only[List.size_toArray]<;>omega)
theorem z6k:z8C X (.type "tuple") (fun xs H Q=>∃ p ys,xs=[.ref p]∧((SqL X.K H p ys∧∀ l,H l=none→Q (.ref l) (upd H l (.tup ys)))∨(SqT X.K H p ys∧Q (.ref p) H))):=by
 intro pins s σ H xs us Q I r h
 obtain⟨p,ys,rfl,h⟩:=h
 obtain⟨u,rfl,rx⟩:=zjx r
 cases rx
 rcases h with⟨hq,q⟩|⟨hq,q⟩
 · obtain⟨its,r',pl,hz⟩:=I.list hq
   have hlen:=r'.length
   refine call_tuple_list pl.isList (fun h' kp=>?_) (by simp only[List.size_toArray]<;>omega)
   have I1:Inv X pins σ H { s with heap:=h' }:=I.kept (t':=s.toks) kp
   have I2:Inv X pins σ (upd H h'.objs.size (.tup ys)) { s with heap:=h'.push { cls := .type "tuple",data := .seq its.toArray } } :=
    I1.laid (t':=s.toks) (fun b o e=>Heap.get?_push_of_some _ e) (Nat.le_refl _) (show ObjOk X.prog X.w _ _ _ (.tup ys) from⟨hz,its,r',IsTup.new _ _⟩)
   exact⟨.ref h'.objs.size,_,I2,rfl,q _ (I1.hok.fresh (Nat.le_refl _))⟩
 · obtain⟨its,r',pl,hz⟩:=I.tuple hq
   exact call_tuple_same pl ⟨.ref p,H,I,rfl,q⟩
def tyV(K:PySem.W.Frag)(T:String)(x:V)(H:Hp):Prop:=match x with
 | .str _=>T = "str"
 | .int _=>T = "int"
 | .ref p=>(T = "list" ∧ ∃ xs,SqL K H p xs)∨(T = "tuple" ∧ ∃ o,K.lookup p=some o∧o.cls = .type "tuple" ∧ o.dict=none) ∨
  (T = "dict" ∧ ((∃ kvs,H p=some (.dK kvs))∨∃ kvs,H p=some (.dT kvs)))∨(T = "set" ∧ ∃ S n,H p=some (.set S n))
 | _=>False
theorem tyV_is{pins:List (Addr×Obj)}{σ:St}{H:Hp}{s:Shared}{T:String}{x:V}{v:Value}(I:Inv X pins σ H s)(r:RelV x v)(ty:tyV X.K T x H):
  s.TypeIs v T∧∀ a,v = .ref a→∃ ob,s.heap.get? a=some ob∧ob.dict=none:=by
 cases x with
 | str z =>
  obtain⟨t,rfl⟩:=r
  cases (show T = "str" from ty)
  exact⟨typeIs_str s z t,fun _ e=>nomatch e⟩
 | int i =>
  obtain⟨t,rfl⟩:=r
  cases (show T = "int" from ty)
  exact⟨typeIs_int s i t,fun _ e=>nomatch e⟩
 | ref p =>
  cases r
  rcases ty with⟨rfl,xs,hq⟩|⟨rfl,o,hk,hc,hd⟩|⟨rfl,hk⟩|⟨rfl,S,n,hk⟩
  · obtain⟨its,_,pl,_⟩:=I.list hq
    refine⟨pl.isList.typeIs,fun a e=>?_⟩
    cases e
    obtain⟨o,n,e,c,hd,_⟩:=pl
    exact⟨o,e,hd⟩
  · refine⟨⟨o,I.kIn p o hk,hc⟩,fun a e=>?_⟩
    cases e
    exact⟨o,I.kIn _ o hk,hd⟩
  · have z:∃ o,s.heap.get? p=some o∧o.ExactDict:=by
     rcases hk with⟨kvs,hk⟩|⟨kvs,hk⟩
     · obtain⟨_,_,_,_,o,_,_,e,ex,_⟩:=I.hok p _ hk
       exact⟨o,e,ex⟩
     · obtain⟨_,_,_,_,o,_,_,e,ex,_⟩:=I.hok p _ hk
       exact⟨o,e,ex⟩
    obtain⟨o,e,ex⟩:=z
    refine⟨⟨o,e,ex.1⟩,fun a e2=>?_⟩
    cases e2
    exact⟨o,e,ex.2.1⟩
  · obtain⟨o,_,_,_,e,ex,_⟩:=I.hok p _ hk
    refine⟨⟨o,e,ex.1⟩,fun a e2=>?_⟩
    cases e2
    exact⟨o,e,ex.2.1⟩
 | _=>exact False.elim ty
def tBM(K:PySem.W.Frag)(T:String)(r:V→List V→Hp→VK→Prop)(to:TE)(t:TA):TE:=fun σ H Q=>to σ H fun x H1=>tyV K T x H1∧t σ H1 fun xs H2=>r x xs H2 Q
variable {o e:Expr}{es:List Expr}{to:TE}{t:TA}{name:Str}{apos cpos:Pos}{T id:String}{r:V→List V→Hp→VK→Prop}
theorem pe_bm(pa:PlainAttrs T)(slot:Slot T name id)(hty:typeOf (.builtin id)=pure (.type "method_descriptor"))(hm:MtR X id r)(ho:PE X o to)(ha:PA X (e::es) t)
  (hbase:attributeBase o name X.env (eval o X.env)=eval o X.env:=by rfl)
  (hfew:((backTo cpos (starEach (e::es) X.env)).all (fun x=>!x.1)&&(backToKw cpos (keywordEach [] X.env)).all (fun x=>x.1.isSome)
   && decide ((e::es).length+([]:List Keyword).length+(if([]:List Keyword).isEmpty then 0 else 1)<30))=true:=by rfl)
  (hline:(apos.endLine==cpos.line)=true:=by rfl) (hs:starEach (e::es) X.env=(false,eval e X.env)::starEach es X.env:=by rfl) (hplain:(backTo cpos (starEach es X.env)).any (·.1)=false:=by rfl) :
  PE X (.Call (.Attribute o name apos) (e::es) [] cpos) (tBM X.K T r to t):=by
 intro pins s σ H Q I h
 refine wpAny_Call_method_late hbase hfew hline rfl (thn (ho pins s σ H _ I h) ?_)
 rintro v s1 ⟨x,H1,I1,r1,ty,q1⟩
 obtain⟨h1,h2⟩:=tyV_is I1 r1 ty
 refine⟨T,id,pa,slot,hty,h1,h2,?_⟩
 have hA:=ha cpos pins s1 σ H1 _ I1 q1
 rw[hs]at hA ⊢
 refine Calls.callWith_builtin (by show(false||(backTo cpos (starEach es X.env)).any (·.1))=false;rw[hplain]<;>rfl) (Calls.evalArgs_plain ?_)
 exact thn hA fun us s2 hZ=>hZ.elim fun vs hZ=>hZ.elim fun H2 hZ=>hZ.elim fun I2 hZ=>hZ.elim fun r2 q2=>hm pins s2 σ H2 x vs v us Q I2 r1 r2 q2
end
end L2
namespace L2
open PySem PySem.Spec PyProof.Rows
def MtM(X:Cx)(id:String)(r:V→List V→Hp→VK→Prop):Prop :=
 ∀(pins:List (Addr×Obj)) (s:Shared) (σ:St) (H:Hp) (x:V) (xs:List V) (v:Value) (us:List Value) (Q:VK),Inv X pins σ H s→RelV x v→Vals xs us→r x xs H Q →
  wpAny (model X.prog X.w) X.A (call (.builtin id) (v::us)) (EP X pins σ Q) X.xe s
theorem Vals.zero:∀{us:List Value},Vals [] us→us=[]
 | _,.nil=>rfl
theorem Vals.uncons{x:V}{xs:List V}{us:List Value}(h:Vals (x::xs) us):∃ u vs,us=u::vs∧RelV x u∧Vals xs vs:=by
 cases h with
 | cons r t=>exact⟨_,_,rfl,r,t⟩
theorem Vals.one{x:V}{us:List Value}(h:Vals [x] us):∃ u,us=[u]∧RelV x u:=by
 obtain⟨u,vs,e,r,t⟩:=h.uncons
 rw[t.zero]at e
 exact⟨u,e,r⟩
theorem Vals.two{x y:V}{us:List Value}(h:Vals [x,y] us):∃ u v,us=[u,v]∧RelV x u∧RelV y v:=by
 obtain⟨u,vs,e,r,t⟩:=h.uncons
 obtain⟨v,e2,q⟩:=t.one
 rw[e2]at e
 exact⟨u,v,e,r,q⟩
section
variable {X:Cx}{pins:List (Addr×Obj)}{σ:St}{H:Hp}{s:Shared}{l b:Addr}{xs ys zs:List V}
theorem Inv.lset{its its':List Value}{n:Nat}{f:Array Value→Array Value}{t':Nat}(I:Inv X pins σ H s)(hH:H l=some (.lst xs))
  (e:s.heap.get? l=some { cls := .type "list",data := .seq its.toArray n }) (hf:f its.toArray=its'.toArray) (hv:Vals ys its') (hz:ys.length≤sizeLine) :
  Inv X pins σ (upd H l (.lst ys)) { s with heap:=s.heap.update l (Obj.mapSeq f),toks:=t' }:=by
 have q:=PySem.IsL.update e f
 rw[hf]at q
 refine I.write (x:=l) (e:=l) (by rw[hH];exact trivial) (.inl rfl) (fun b' u hb hu=>(Heap.get?_update_other s.heap (Obj.mapSeq f) (Ne.symm hb)).trans hu) ⟨_,q⟩ ?_
 exact⟨hz,its',_,hv,q⟩
theorem Inv.lnew{its:List Value}{t':Nat}(I:Inv X pins σ H s)(hv:Vals ys its)(hz:ys.length≤sizeLine):
  Inv X pins σ (upd H s.heap.objs.size (.lst ys)) { s with heap:=s.heap.push { cls := .type "list",data := .seq its.toArray },toks:=t' } :=
 I.laid (fun _ _ q=>Heap.get?_push_of_some _ q) (Nat.le_refl _) ⟨hz,its,0,hv,Heap.get?_push_size _ rfl⟩
theorem Inv.fresh(I:Inv X pins σ H s):H s.heap.objs.size=none:=I.hok.fresh (Nat.le_refl _)
theorem Inv.lstM(I:Inv X pins σ H s)(hH:H l=some (.lst xs)):xs.length≤sizeLine∧∃(its:List Value) (n:Nat),Vals xs its∧xs.length=its.length∧s.heap.get? l=some { cls := .type "list",data := .seq its.toArray n }:=by
 obtain⟨z,its,n,r,e⟩:=I.hok l _ hH
 exact⟨z,its,n,r,r.length,e⟩
end
section
variable {X:Cx}
def zpK:V→List V→Hp→VK→Prop:=fun x vs H Q=>∃ l xs y,x = .ref l∧vs=[y]∧H l=some (.lst xs)∧xs.length<sizeLine∧Q .non (upd H l (.lst (xs++[y])))
theorem zbg:MtM X "list.append" zpK:=by
 intro pins s σ H x vs v us Q I rx rv h
 obtain⟨l,xs,y,rfl,rfl,hH,hz,q⟩:=h
 cases rx
 obtain⟨u,rfl,ru⟩:=rv.one
 obtain⟨z,its,n,r,hl,e⟩:=I.lstM hH
 refine call_meets F.slot_list_append ⟨_,e,rfl⟩ F.entry_list_append (F.args_list_append_2 _ _) (PySem.list_append l its.toArray n u (by rw[List.size_toArray];omega)) ⟨e,?_⟩
 refine⟨.non,_,I.lset (its':=its++[u]) hH e (by simp) (r.append (.cons ru .nil)) ?_,rfl,q⟩
 rw[List.length_append,List.length_singleton]
 omega
def rCat:R2:=fun x y H Q=>∃ l b xs zs,x = .ref l∧y = .ref b∧H l=some (.lst xs)∧H b=some (.lst zs)∧xs.length+zs.length≤sizeLine∧∀ p,H p=none→Q (.ref p) (upd H p (.lst (xs++zs)))
theorem op_cat:OpR X (binaryOp .Add) rCat:=by
 intro pins s σ H x y v u Q I rx ry h
 obtain⟨l,b,xs,zs,rfl,rfl,hH,hB,hz,q⟩:=h
 cases rx
 cases ry
 obtain⟨z,its,n,r,hl,e⟩:=I.lstM hH
 obtain⟨z2,its2,n2,r2,hl2,e2⟩:=I.lstM hB
 refine PySem.P.add_list e e2 ?_ (by rw[List.size_toArray,List.size_toArray];omega)
 have ea:its.toArray++its2.toArray=(its++its2).toArray:=by simp
 rw[ea]
 exact⟨.ref _,_,I.lnew (t':=s.toks) (r.append r2) (by rw[List.length_append];omega),rfl,q _ I.fresh⟩
end
section
variable {prog:Program}{w:World}{A:Around}{E:Value→Shared→Prop}{s:Shared}
end
section
variable {X:Cx}
end
end L2
namespace Att
open PySem PySem.W PySem.Calls PyProof.Rows
theorem z9a{P:Params}{h:Heap}:∀(ns:List Int) (vs:List Value),WellAll P h vs (ns.map WData.int)→IntsAre vs ns:=by
 intro ns
 induction ns with
 | nil =>
  intro vs w
  rw[List.map_nil]at w
  cases w
  exact .nil
 | cons n ns ih =>
  intro vs w
  rw[List.map_cons]at w
  cases w with
  | cons a b =>
   cases a
   exact .cons _ _ (ih _ b)
theorem zkz{l:OpenLaw}{n:Nat}(hn:l.most=some n){P:Params}{h:Heap}{args:List WData}{vals:List Value}
  (hpre:l.row.toRowW.claim.pre args=true) (hwl:WellAll P h vals args) :
  ∃ a vs ns,vals=[Value.ref a]∧args=[WData.list (ns.map WData.int)]∧h.get? a=some { cls := .type "list",data := .seq vs.toArray }∧IntsAre vs ns∧ns.length≤n:=by
 have hsh:WShape.hasAll [] args [.list .int]=true:=(pre_splitW hpre).1
 have hc:l.pre.holds [] { args:=args }=true:=(pre_splitW hpre).2
 obtain⟨d,r,rfl,h1,h2⟩:=hasAllW_cons hsh
 obtain rfl:=hasAllW_nil h2
 obtain⟨xs,rfl,h3⟩:=hasW_list h1
 obtain⟨ns,rfl⟩:=items_int h3
 have hlen:ns.length≤n:=by
  unfold OpenLaw.pre at hc
  have h4:(WTm.not (.lt (.lit (.int (n:Int))) (.len (.arg 0)))).holds [] { args:=[.list (ns.map .int)] }=true:=by
   have h4:=(holds_andW hc).1
   rw[hn]at h4
   exact h4
  have h5:=condW_of h4 (w_not (w_lt w_lit (w_len_list (w_arg rfl))))
  rw[List.length_map]at h5
  refine Nat.le_of_not_lt fun q=>?_
  have q':(n:Int)<((ns.length:Nat):Int):=by omega
  first
   | (rw[decide_eq_true q']at h5;exact absurd h5 (by decide))
   | (simp at h5;omega)
 cases hwl with
 | cons w1 w2 =>
  cases w2
  cases w1 with
  | list ho hall=>exact⟨_,_,ns,rfl,rfl,ho,z9a ns _ hall,hlen⟩
theorem zkA(l:OpenLaw)(args:List WData):l.row.toRowW.claim.post args (.bool true) args=true :=
 postW_of (r:=l.row.toRowW) (X:=(true==true))
  (show WShape.has [] (.bool true) .bool=true by first|rfl|decide|simp[WShape.has,WShape.arms,WShape.armsAll])
  (show(WTm.eq .res (.lit (.bool true))).value [] { args:=args,res:=some (.bool true),after:=args }=some (.bool (true==true))from w_eq_bool (w_res rfl) w_lit) rfl
theorem attach_call{l:OpenLaw}{n:Nat}{q:Program}{loose:List Str}{XP:(Str→Option Value)→Heap→Prop}{YP:World→Heap→Prop}{d:DefRec}
  (hn:l.most=some n) (hdf:d.params.defaults=[])
  (call:∀(w:World) (s₀ s₁:Shared) (mg mb:Str→Option Value) (fa:Addr) (o:Obj) (pm cd doc:Value) (a:Addr) (vs:List Value) (ns:List Int),
   Ground q loose [] XP w s₀ mg mb s₁.heap→YP w s₁.heap →
   s₁.heap.get? fa=some o→o.data = .func (docDef d.name d.params d.body d.scope pm cd doc)→s₁.heap.CodeRec cd d.name→mg d.name=some (.ref fa) →
   s₁.heap.get? a=some { cls := .type "list",data := .seq vs.toArray }→IntsAre vs ns→ns.length≤n→s₁.gens=#[] →
   codeAny (model l.prog w) callerA (.call (.ref fa) ⟨[.ref a],[]⟩) (fun r s'=>r = .ok (.ret (.bool true))∧OldK s₁.heap s'.heap∧s'.os=s₁.os∧AllBare s'.gens) s₁) :
  WalkO q loose XP YP l.row.toRowW d [] (fun f vs=>PySem.call f vs):=by
 intro w s₀ s₁ mg mb G Y fa o pm cd doc dV kV ho hd hcd hD hmg hg args vals as hpre hlay hrd hwl hlo
 obtain rfl:dV = .none:=Dflts.none hD hdf
 obtain rfl:kV = .none:=Dflts.noKw hD
 obtain⟨a,vs,ns,rfl,rfl,hobj,hints,hlen⟩:=zkz hn hpre hwl
 refine enter_call (codeAny_mono (call w s₀ s₁ mg mb fa o pm cd doc a vs ns G Y ho (fd_plain hd) hcd hmg hobj hints hlen hg) fun r s' hq=>?_)
 obtain⟨rfl,h2,h3,h4⟩:=hq
 exact⟨.inl ⟨.bool true,.bool true,[],rfl,fun _=>rfl,.bool true,zkA l _,fun _=>⟨List.Pairwise.nil,fun _ hm=>(nomatch hm)⟩⟩,h2,h3,h4⟩
section
variable {prog:Program}{w:World}{A:Around}{E:Value→Shared→Prop}{s:Shared}{K:Frag}
end
end Att
namespace L2
open PySem PySem.Spec PyProof.Rows
theorem zbh:∀{vs:List Value} {ns:List Int},IntsAre vs ns→Vals (ns.map V.int) vs
 | _,_,.nil => .nil
 | _,_,.cons n t h => .cons ⟨t,rfl⟩ (zbh h)
def Only(H:Hp):Prop:=∀ b,H b=none∨∃ o xs,H b=some (.frz o (.lst xs))
theorem zlE{P:Program}{w:World}{K:PySem.W.Frag}{mg mb:Str→Option Value}{CX:CXT}{k:Nat}{fa a:Addr}{fd:FuncData}{x:Str}{sp:Sp}{s₁:Shared}{vs:List Value}{ns:List Int}
  (KX:K.In s₁.heap) (hns:s₁.heap.Ns mainGlobals mg) (hb:s₁.heap.Ns builtinsNs mb) (hbb:∀ x:Str,x ≠ "__name__" → mb x=bootBuiltins x) (hlim:s₁.heap.NoLimit) (hg:s₁.gens=#[])
  (ha:s₁.heap.get? a=some { cls := .type "list",data := .seq vs.toArray }) (hi:IntsAre vs ns) (hl:ns.length≤sizeLine) (hr:Room k callerA)
  (F:∀ base:Heap,K.In base→base.Ns mainGlobals mg→FnOk P w K mg base CX k fa fd [x] sp) (hbind:∀(s:Shared) (u:Value),BindsTo s fd ⟨[u],[]⟩ [(x,u)])
  (hsp:∀ H:Hp,Only H→SqL K H a (ns.map V.int)→sp [.ref a] H (fun v _=>v = .bl true) fun _ _ _=>False)
  (hCX:∀ H e s',CX [] H s₁ (fun _ _ _=>False) e s'→False) :
  codeAny (model P w) callerA (.call (.ref fa) ⟨[.ref a],[]⟩) (fun r s'=>r = .ok (.ret (.bool true))∧OldK s₁.heap s'.heap∧s'.os=s₁.os∧AllBare s'.gens) s₁:=by
 have rv:=zbh hi
 have lenV:=hi.length
 have core:∀ H:Hp,Only H→SqL K H a (ns.map V.int)→HOk P w H s₁.heap→(∀ b,H b≠none→b=a)→(H a≠none→K.lookup a=none) →
    codeAny (model P w) callerA (.call (.ref fa) ⟨[.ref a],[]⟩) (fun r s'=>r = .ok (.ret (.bool true))∧OldK s₁.heap s'.heap∧s'.os=s₁.os∧AllBare s'.gens) s₁:=by
  intro H hO hS hok hA hK
  have base_of:∀{b:Addr} {o:Obj},s₁.heap.get? b=some o→H b=none→(hidT s₁.heap H).get? b=some o:=fun e n=>zlr e n
  have noA:∀{b:Addr} {o:Obj} {es:Array DictEntry} {ep:Nat},s₁.heap.get? b=some o→o.data = .dict es ep→H b=none:=fun{b o es ep} e d=>by
    cases q:H b with
    | none=>rfl
    | some u =>
      have e':b=a:=hA b (by rw[q];simp)
      subst e'
      rw[ha]at e;cases e
      have d':Data.seq vs.toArray _=Data.dict es ep:=d
      cases d'
  have nsK:∀{b:Addr} {m:Str→Option Value},s₁.heap.Ns b m→(hidT s₁.heap H).Ns b m:=fun{b m} ⟨o,es,ep,e,d,r⟩=>⟨o,es,ep,base_of e (noA e d),d,r⟩
  have hKb:K.In (hidT s₁.heap H):=fun b o e=>base_of (KX b o e) (by
    cases q:H b with
    | none=>rfl
    | some u =>
      have e':b=a:=hA b (by rw[q];simp)
      subst e'
      rw[hK (by rw[q];simp)]at e;cases e)
  have hM:Mod K mg (hidT s₁.heap H):=⟨hKb,nsK hns,⟨mb,nsK hb,hbb⟩,let ⟨mc,h1,h2⟩:=hlim;⟨mc,nsK h1,h2⟩⟩
  have e0:Env0 P w K mg (hidT s₁.heap H) callerA [] s₁ H:=⟨rfl,hM,fun b o e=>zpu e,Nat.le_of_eq (zks _ _),trivial,fun b hb=>absurd (show b∈([]:List Addr)from hb) (by simp),hok,.of_eq hg⟩
  refine codeAny_mono ((F _ hKb (nsK hns)).run callerA [] s₁ H ⟨[.ref a],[]⟩ [.ref a] [.ref a] _ _ hr e0 (hbind s₁ (.ref a)) (.cons rfl .nil) (hsp H hO hS)) fun r s' h=>?_
  cases r with
  | error e=>exact(hCX H e s' h).elim
  | ok fl =>
    cases fl with
    | next=>exact False.elim h
    | brk=>exact False.elim h
    | cont=>exact False.elim h
    | ret u =>
      obtain⟨v,H',os,bare,un,hok',r',q⟩:=h
      have q':v = .bl true:=q
      subst q'
      obtain rfl:u=Value.bool true:=r'
      refine⟨rfl,OldK.of_keep fun b o e=>?_,os,bare⟩
      cases q:H b with
      | none=>exact un.keep b o e q (by intro z;exact absurd (show b∈([]:List Addr)from z) (by simp)) (by simp)
      | some u =>
       rcases hO b with z|⟨ob,xs,z⟩
       · rw[q]at z;cases z
       · have z2:=un.frzs b ob _ z
         obtain⟨e1,_⟩:=hok b _ z
         obtain⟨e2,_⟩:=hok' b _ z2
         rw[e]at e1;cases e1
         exact e2
 cases hk:K.lookup a with
 | some o =>
  have e:=KX a o hk
  rw[ha]at e
  cases e
  refine core (fun _=>none) (fun _ => .inl rfl) (.inr ⟨_,vs.toArray,_,hk,rfl,rfl,rfl,by rw[List.size_toArray,lenV];exact hl,by simpa using rv⟩) (fun b u z=>by have z':(none:Option HO)=some u:=z;cases z') (fun b z=>absurd rfl z) fun z=>absurd rfl z
 | none =>
  refine core (fun b=>if b=a then some (.frz { cls := .type "list",data := .seq vs.toArray } (.lst (ns.map V.int))) else none) (fun b=>?_) (.inl (.inr ⟨{ cls := .type "list",data := .seq vs.toArray },if_pos rfl⟩)) (fun b u z=>?_) (fun b z=>?_) fun _=>hk
  · by_cases hb:b=a
    · exact .inr ⟨_,_,if_pos hb⟩
    · exact .inl (if_neg hb)
  · by_cases hb:b=a
    · have z':=(if_pos hb).symm.trans z
      cases z'
      subst hb
      exact⟨ha,by rw[List.length_map];exact hl,vs,_,rv,ha⟩
    · have z':=(if_neg hb).symm.trans z
      cases z'
  · by_cases hb:b=a
    · exact hb
    · exact absurd (if_neg hb) z
end L2
namespace L2
open PySem PySem.Spec PyProof.Rows
theorem zpL{l:PySem.W.OpenLaw}{n k:Nat}{q:Program}{loose:List Str}{XP:(Str→Option Value)→Heap→Prop}{YP:World→Heap→Prop}{d:DefRec}{K:Params→PySem.W.Frag}{CX:World→CXT}{sp:World→Sp}{x:Str}
  (hn:l.most=some n) (hn2:n≤sizeLine) (hdf:d.params.defaults=[]) (hr:Room k callerA)
  (hY:∀(w:World) (h:Heap),YP w h→(K w.params).In h)
  (F:∀(w:World) (mg:Str→Option Value) (fa:Addr) (h:Heap),(K w.params).In h→h.Ns mainGlobals mg→mg d.name=some (.ref fa) →
   ∃ fd:FuncData,(∀(s:Shared) (u:Value),BindsTo s fd ⟨[u],[]⟩ [(x,u)]) ∧
    ∀ base:Heap,(K w.params).In base→base.Ns mainGlobals mg→FnOk l.prog w (K w.params) mg base (CX w) k fa fd [x] (sp w))
  (hsp:∀(w:World) (H:Hp) (a:Addr) (ns:List Int),ns.length≤n→Only H→SqL (K w.params) H a (ns.map V.int)→sp w [.ref a] H (fun v _=>v = .bl true) fun _ _ _=>False)
  (hCX:∀(w:World) (H:Hp) (s:Shared) (e:Value) (s':Shared),CX w [] H s (fun _ _ _=>False) e s'→False) :
  PySem.W.WalkO q loose XP YP l.row.toRowW d [] (fun f vs=>PySem.call f vs):=by
 refine Att.attach_call hn hdf fun w s₀ s₁ mg mb fa o pm cd doc a vs ns G Y ho hd hcd hmg hobj hints hlen hg=>?_
 have KX:=hY w _ Y
 obtain⟨fd,hb,hF⟩:=F w mg fa _ KX G.T.g hmg
 exact zlE KX G.T.g G.T.b G.T.builtins G.T.nolimit hg hobj hints (Nat.le_trans hlen hn2) hr hF hb (fun H hO hS=>hsp w H a ns hlen hO hS) fun H e s'=>hCX w H s₁ e s'
end L2
namespace L2
open PySem PySem.Spec PyProof.Rows
def z2Q(s:Stmt):Arguments:=match s with
 | .FunctionDef _ a _ _ _ _ _ _ _ _=>a
 | _=>{ posonlyargs:=[],args:=[],vararg:=none,kwonlyargs:=[],kw_defaults:=[],kwarg:=none,defaults:=[] }
def z1P(s:Stmt):List Stmt:=match s with
 | .FunctionDef _ _ b _ _ _ _ _ _ _=>b
 | _=>[]
def z04(s:Stmt):Scope:=match s with
 | .FunctionDef _ _ _ _ _ _ sc _ _ _=>sc
 | _=>{ kind := .function,names:=[],isGenerator:=false,isCoroutine:=false }
abbrev CX0:CXT:=fun _ _ _ _ _ _=>False
abbrev E0:XK:=fun _ _ _=>False
theorem pass0{X:Cx}:zeV CX0 X E0:=fun _ _ _ _ _ _ _ h=>h.elim
structure Fun(K:PySem.W.Frag)(x qual:Str)(st:Stmt)(f:Addr)(fd:FuncData):Prop where
 ex:∃(oc:Value) (od:Option Addr) (kV doc pm:Value) (an:Option Addr) (cdv ct:Value) (osl:Array (Option Value)),
  fd=PySem.W.fnOf x qual (z2Q st) (z1P st) (z04 st) .none kV doc pm an cdv ct∧K.lookup f=some ⟨oc,od,.func fd,osl⟩∧PySem.W.codeIn K cdv qual=true
 kp:PySem.W.keepIn K (.ref f)=true
section
variable {P:Program}{w:World}{K:PySem.W.Frag}{mg:Str→Option Value}{base:Heap}
theorem Fun.ok{x qual:Str}{st:Stmt}{f:Addr}{fd:FuncData}{N ps:List Str}{k:Nat}{sp:Sp}(F:Fun K x qual st f fd)(S:FnScope N ps (z04 st))(len:∀ vs H Q E,sp vs H Q E→vs.length=ps.length)
  (hbody:∀(cdv:Value) (A:Around) (outer:List Env) (s:Shared) (H:Hp) (vs:List V) (Q:VK) (E:XK),Room k (A.deeper (envOfC qual (z04 st) s.heap.objs.size f cdv))→sp vs H Q E →
   ∃ t,PSs (cxOf CX0 P w K mg base N qual (z04 st) f cdv A outer s H E).nox (z1P st) t∧t { nx:=fun _ H'=>Q .non H',rt:=Q } (start N vs) H):FnOk P w K mg base CX0 (k+1) f fd ps sp:=by
 obtain⟨oc,od,kV,doc,pm,an,cdv,ct,osl,rfl,lk,hcd⟩:=F.ex
 refine fn_of lk hcd S len fun A outer s H vs Q E hr hsp=>?_
 obtain⟨t,h,q⟩:=hbody cdv A outer s H vs Q E hr hsp
 exact⟨t,h.nox,q⟩
theorem Fun.binds{x qual:Str}{st:Stmt}{f:Addr}{fd:FuncData}{ps:List Str}(F:Fun K x qual st f fd)
  (h:∀(kV doc pm:Value) (an:Option Addr) (cdv ct:Value) (us:List Value),us.length=ps.length→bindArgs (PySem.W.fnOf x qual (z2Q st) (z1P st) (z04 st) .none kV doc pm an cdv ct) ⟨us,[]⟩=pure (ps.zip us)):Binds K fd ps []:=by
 obtain⟨oc,od,kV,doc,pm,an,cdv,ct,osl,rfl,lk,hcd⟩:=F.ex
 exact .all (h kV doc pm an cdv ct)
theorem zlF{x qual:Str}{st:Stmt}{f:Addr}{oc:Value}{od an:Option Addr}{osl:Array (Option Value)}{kV doc pm cdv ct:Value}(l:K.lookup f=some ⟨oc,od,.func (PySem.W.fnOf x qual (z2Q st) (z1P st) (z04 st) .none kV doc pm an cdv ct),osl⟩)
 (c:PySem.W.codeIn K cdv qual=true) (k:PySem.W.keepIn K (.ref f)=true):Fun K x qual st f (PySem.W.fnOf x qual (z2Q st) (z1P st) (z04 st) .none kV doc pm an cdv ct):=⟨⟨oc,od,kV,doc,pm,an,cdv,ct,osl,rfl,l,c⟩,k⟩
end
section
variable {X:Cx}
end
def Same(H H':Hp):Prop:=∀ b o,H b=some o→H' b=some o
theorem Same.refl(H:Hp):Same H H:=fun _ _ h=>h
theorem Same.trans{H H1 H2:Hp}(a:Same H H1)(b:Same H1 H2):Same H H2:=fun c o h=>b c o (a c o h)
theorem Same.free{H H':Hp}(e:Same H H'){l:Addr}(h:H' l=Option.none):H l=Option.none:=by
 cases q:H l with
 | none=>rfl
 | some o =>
  rw[e l o q]at h
  cases h
theorem Same.seq{K:PySem.W.Frag}{H H':Hp}{a:Addr}{xs:List V}(e:Same H H')(h:SqL K H a xs):SqL K H' a xs:=by
 rcases h with(h|⟨o,h⟩)|h
 · exact .inl (.inl (e _ _ h))
 · exact .inl (.inr ⟨o,e _ _ h⟩)
 · exact .inr h
end L2

end
section
set_option Elab.async false
set_option linter.all false
set_option maxRecDepth 100000
namespace L2
open PySem PySem.Spec PyProof.Rows
theorem zlG{x:Str}{lo:Nat}:∀(names:List (Str×NameKind)) (n:Nat) (acc:List (Str×Addr)) (c:Addr),lo≤n→(∀ c,acc.lookup x=some c→lo≤c)→(cellsFrom n names acc).lookup x=some c→lo≤c
 | [],_,_,_,_,h,e=>h _ e
 | (y,k)::r,n,acc,c,hn,h,e=>by
  unfold cellsFrom at e
  split at e
  · refine zlG r (n+1) _ c (Nat.le_succ_of_le hn) (fun c' e'=>?_) e
    rw[List.lookup_cons]at e'
    split at e'
    · cases e';exact hn
    · exact h c' e'
  · exact zlG r n acc c hn h e
theorem zeX{x:Str}:∀(names:List (Str×NameKind)) (n:Nat) (acc:List (Str×Addr)) (c:Addr),names.lookup x=some .cell→(cellsFrom n names acc).lookup x=some c→n≤c
 | [],_,_,_,h,_=>by cases h
 | (y,k)::r,n,acc,c,h,e=>by
  rw[List.lookup_cons]at h
  unfold cellsFrom at e
  cases hb:x==y with
  | true =>
   rw[hb]at h
   have hk:k = .cell:=by cases h;rfl
   subst hk
   rw[if_pos (show(NameKind.cell==NameKind.cell)=true from rfl)]at e
   refine zlG r (n+1) _ c (Nat.le_succ _) (fun c' e'=>?_) e
   rw[List.lookup_cons,hb]at e'
   cases e'
   exact Nat.le_refl _
  | false =>
   rw[hb]at h
   split at e
   · exact Nat.le_of_succ_le (zeX r (n+1) _ c h e)
   · exact zeX r n acc c h e
theorem zeY{x:Str}:∀(names:List (Str×NameKind)) (n:Nat) (acc:List (Str×Addr)),(∀ y∈names,y.1=x→y.2 ≠ .cell)→(cellsFrom n names acc).lookup x=acc.lookup x
 | [],_,_,_=>rfl
 | (y,k)::r,n,acc,h=>by
  unfold cellsFrom
  have hr:∀ y∈r,y.1=x→y.2 ≠ .cell:=fun z hz=>h z (List.mem_cons_of_mem _ hz)
  split
  · rename_i hk
    rw[zeY r (n+1) _ hr,List.lookup_cons]
    have hne:(x==y)=false:=by
     cases hb:x==y with
     | false=>rfl
     | true=>exact absurd (beq_iff_eq.mp hk) (h (y,k) List.mem_cons_self (beq_iff_eq.mp hb).symm)
    rw[hne]
  · exact zeY r n acc hr
theorem zeZ:∀(names:List (Str×NameKind)) (n:Nat) (acc:List (Str×Addr)) (p:Str×Addr),p∈cellsFrom n names acc→n≤p.2∨p∈acc
 | [],_,_,_,e => .inr e
 | (y,k)::r,n,acc,p,e=>by
  unfold cellsFrom at e
  split at e
  · rcases zeZ r (n+1) _ p e with q|q
    · exact .inl (Nat.le_of_succ_le q)
    · rcases List.mem_cons.mp q with q|q
      · subst q;exact .inl (Nat.le_refl _)
      · exact .inr q
  · exact zeZ r n acc p e
theorem z9w:∀(names:List (Str×NameKind)) (n:Nat) (acc:List (Str×Addr)),(∀ p∈acc,p.2<n)→(acc.Pairwise fun x y=>x.2≠y.2)→(cellsFrom n names acc).Pairwise fun x y=>x.2≠y.2
 | [],_,_,_,h=>h
 | (y,k)::r,n,acc,hl,h=>by
  unfold cellsFrom
  split
  · refine z9w r (n+1) _ (fun p hp=>?_) (List.pairwise_cons.mpr ⟨fun p hp e=>?_,h⟩)
    · rcases List.mem_cons.mp hp with q|q
      · subst q;exact Nat.lt_succ_self _
      · exact Nat.lt_succ_of_lt (hl p q)
    · have e':n=p.2:=e
      have q:=hl p hp
      rw[←e']at q
      exact absurd q (Nat.lt_irrefl _)
  · exact z9w r n acc hl h
theorem z9x:∀(names:List (Str×NameKind)) (n:Nat) (acc:List (Str×Addr)),cellsFrom n names acc=cellsFrom n names []++acc
 | [],_,_=>rfl
 | (y,k)::r,n,acc=>by
  unfold cellsFrom
  split
  · rw[z9x r (n+1) ((y,n)::acc),z9x r (n+1) [(y,n)],List.append_assoc]
    rfl
  · exact z9x r n acc
def z0K(env:Env):List (Str×NameKind)→List (Str×Addr)→List (Str×Addr)
 | [],acc=>acc
 | (y,k)::r,acc=>if k == .free then z0K env r (match env.cells.lookup y with|some c=>(y,c)::acc|none=>acc) else z0K env r acc
theorem z3S{env:Env}{x:Str}:∀(names:List (Str×NameKind)) (acc:List (Str×Addr)),(∀ c,acc.lookup x=some c→env.cells.lookup x=some c)→∀ c,(z0K env names acc).lookup x=some c→env.cells.lookup x=some c
 | [],_,h=>h
 | (y,k)::r,acc,h=>by
  unfold z0K
  split
  · refine z3S r _ fun c e=>?_
    cases hy:env.cells.lookup y with
    | none=>rw[hy]at e;exact h c e
    | some d =>
     rw[hy]at e
     dsimp only at e
     rw[List.lookup_cons]at e
     split at e
     · rename_i hb
       cases e
       rw[beq_iff_eq.mp hb];exact hy
     · exact h c e
  · exact z3S r acc h
theorem z6r{env:Env}:∀(names:List (Str×NameKind)) (acc:List (Str×Addr)) (p:Str×Addr),p∈z0K env names acc→p∈acc∨env.cells.lookup p.1=some p.2
 | [],_,_,h => .inl h
 | (y,k)::r,acc,p,h=>by
  unfold z0K at h
  split at h
  · rcases z6r r _ p h with q|q
    · cases hy:env.cells.lookup y with
      | none=>rw[hy]at q;exact .inl q
      | some d =>
       rw[hy]at q
       rcases List.mem_cons.mp q with q|q
       · subst q;exact .inr hy
       · exact .inl q
    · exact .inr q
  · exact z6r r acc p h
theorem z4C{env:Env}{x:Str}:∀(names:List (Str×NameKind)) (acc:List (Str×Addr)),(acc.lookup x).isSome=true→((z0K env names acc).lookup x).isSome=true
 | [],_,h=>h
 | (y,k)::r,acc,h=>by
  unfold z0K
  split
  · refine z4C r _ ?_
    cases hy:env.cells.lookup y with
    | none=>exact h
    | some d =>
     show(List.lookup x ((y,d)::acc)).isSome=true
     rw[List.lookup_cons]
     split
     · rfl
     · exact h
  · exact z4C r acc h
theorem z6s{env:Env}{x:Str}{c:Addr}:∀(names:List (Str×NameKind)) (acc:List (Str×Addr)),names.lookup x=some .free→env.cells.lookup x=some c→((z0K env names acc).lookup x).isSome=true
 | [],_,h,_=>by cases h
 | (y,k)::r,acc,h,hc=>by
  rw[List.lookup_cons]at h
  unfold z0K
  cases hb:x==y with
  | true =>
   rw[hb]at h
   have hk:k = .free:=by cases h;rfl
   subst hk
   rw[if_pos (show(NameKind.free==NameKind.free)=true from rfl)]
   refine z4C r _ ?_
   have hxy:x=y:=beq_iff_eq.mp hb
   subst hxy
   rw[hc]
   show(List.lookup x ((x,c)::acc)).isSome=true
   rw[List.lookup_cons,hb];rfl
  | false =>
   rw[hb]at h
   split
   · exact z6s r _ h hc
   · exact z6s r _ h hc
theorem z6t{env:Env}:∀(names:List (Str×NameKind)) (acc:List (Str×Addr)) (f:Str×NameKind→List (Str×Addr)→Sem (ForInStep (List (Str×Addr)))),
  (∀ name kind cs,f (name,kind) cs=if kind == .free then(do let a ←cellOf env name;pure (.yield ((name,a)::cs))) else pure (.yield cs)) →
  (∀ y∈names,y.2 = .free→∃ c,env.cells.lookup y.1=some c)→forIn names acc f=(pure (z0K env names acc):Sem _)
 | [],acc,f,hf,h=>by rw[List.forIn_nil];rfl
 | (y,k)::r,acc,f,hf,h=>by
  have hr:∀ z∈r,z.2 = .free→∃ c,env.cells.lookup z.1=some c:=fun z hz=>h z (List.mem_cons_of_mem _ hz)
  rw[List.forIn_cons,hf]
  unfold z0K
  by_cases hk:(k==NameKind.free)=true
  · rw[if_pos hk,if_pos hk]
    obtain⟨c,hc⟩:=h (y,k) List.mem_cons_self (beq_iff_eq.mp hk)
    have hc':env.cells.lookup y=some c:=hc
    have e:cellOf env y=(pure c:Sem Addr):=by unfold cellOf;rw[hc']
    rw[e,hc']
    simp only[pure_bind]
    exact z6t r _ f hf hr
  · rw[if_neg hk,if_neg hk]
    simp only[pure_bind]
    exact z6t r _ f hf hr
theorem zf{scope:Scope}{env:Env}(h:∀ y∈scope.names,y.2 = .free→∃ c,env.cells.lookup y.1=some c):closureFor scope env=pure (z0K env scope.names []):=by
 unfold closureFor
 simp only[]
 rw[z6t scope.names [] _ (fun name kind cs=>by cases hk:kind==NameKind.free<;>simp[hk]) h]
 rfl
end L2

end
section
set_option linter.all false
namespace L2
open PySem
section
variable {prog:Program}{w:World}{A:Around}{R:Result→Shared→Prop}{s:Shared}
theorem zcD{elt target iter:Expr}{ifs:List Expr}{scope:Scope}{pos:Pos}{it acc:Value}{env:Env}(I:Nat→Shared→Prop)
  (turn:∀ n s,I n s→wpAny (model prog w) A (pyNext it) (fun r s₁=>match r with
   | none=>R (.ok .next) s₁
   | some v=>wpAny (model prog w) A (letOwnedTupleGo target it v) (fun _ s₁'=>wpAny (model prog w) A (assign target env v) (fun _ s₂ =>
    wpAny (model prog w) A (forIn ifs true fun c r=>if r=true then do let ok ←isTrue c env (eval c env);pure (ForInStep.yield ok) else pure (ForInStep.yield r)) (fun ok s₃ =>
     if ok=true then wpAny (model prog w) A (eval elt env) (fun x s₄ =>
      wpAny (model prog w) A (call (.builtin "list.append") [acc,x]) (fun _ s₅=>∃ m,m<n∧I m s₅) (notedBy (model prog w) A env fun e s'=>R (.error e) s') s₄) (notedBy (model prog w) A env fun e s'=>R (.error e) s') s₃
     else ∃ m,m<n∧I m s₃) (notedBy (model prog w) A env fun e s'=>R (.error e) s') s₂) (notedBy (model prog w) A env fun e s'=>R (.error e) s') s₁')
    (notedBy (model prog w) A env fun e s'=>R (.error e) s') s₁) (notedBy (model prog w) A env fun e s'=>R (.error e) s') s)
  (n:Nat) (h:I n s) :
  codeAny (model prog w) A (.compLoop (.ListComp elt [⟨target,iter,ifs,0⟩] scope pos) 0 it acc env) R s:=by
 refine codeAny_loop rfl I (fun n s hI=>?_) n h
 show wpAny _ A ((compTurn (.ListComp elt [⟨target,iter,ifs,0⟩] scope pos) 0 it acc env).onRaise (fun x=>do noteFrame x env;theTreesLotGoes x)) _ _ s
 refine wpAny_noted ?_
 rw[compTurn_list]
 refine wpAny_bind (wpAny_standAt (wpAny_bind (wpAny_mono (turn n s hI) (fun r s₁ h₁=>?_) fun _ _ h'=>h')))
 cases r with
 | none=>exact wpAny_pure h₁
 | some v =>
  refine wpAny_bind (wpAny_mono h₁ (fun _ s₁' h₁'=>?_) fun _ _ h'=>h')
  refine wpAny_bind (wpAny_mono h₁' (fun _ s₂ h₂=>wpAny_bind (wpAny_mono h₂ (fun ok s₃ h₃=>?_) fun _ _ h'=>h')) fun _ _ h'=>h')
  cases ok with
  | false=>exact wpAny_pure ⟨rfl,h₃⟩
  | true =>
   exact wpAny_bind (wpAny_bind (wpAny_mono h₃ (fun x s₄ h₄=>wpAny_bind (wpAny_mono h₄ (fun _ s₅ h₅=>wpAny_pure (wpAny_pure ⟨rfl,h₅⟩)) fun _ _ h'=>h')) fun _ _ h'=>h'))
theorem zlH{M:Model}{E:Value→Shared→Prop}{scope:Scope}{globals:Addr}{cl:List (Str×Addr)}{qual:Str}{func:Option Addr}{code:Value}{env:Env}{Q:Env→Shared→Prop}
  (hQ:∀ h',h'.Ns s.heap.objs.size (fun _=>none)→(∀ b o,s.heap.get? b=some o→h'.get? b=some o)→(∀ n c,(n,c)∈cellsFrom (s.heap.objs.size+1) scope.names []→h'.IsCell c none) →
   Q (newEnv scope s.heap.objs.size globals (cellsFrom (s.heap.objs.size+1) scope.names cl) qual func code (some env) builtinsNs) { s with heap:=h' }) :
  wpAny M A (newFunctionEnv scope globals cl [] qual func code (some env)) Q E s:=by
 simp only[newFunctionEnv,Option.isSome_some,if_true]
 refine wpAny_bind (wpAny_alloc ?_)
 refine wpAny_bind (wpAny_layCells _ (fun name kind cells=>by cases hkc:kind==NameKind.cell<;>simp[hkc]) _ _ _ _ ?_)
 have ok:=cellsFrom_ok scope.names (s.heap.push { cls := .type "dict",data := .dict #[] }) (s.heap.objs.size+1) [] ⟨fun _ _ hm=>(nomatch hm),List.Pairwise.nil⟩ (by rw[Heap.size_push];exact Nat.le_refl _)
 rw[Heap.size_push]at ok
 rw[show({ s with heap:=s.heap.push { cls := .type "dict",data := .dict #[] } }:Shared).heap.objs.size=s.heap.objs.size+1 from Heap.size_push ..]
 refine wpAny_bind ?_
 rw[List.forIn_nil]
 refine wpAny_pure (wpAny_pure ?_)
 exact hQ _ ((Heap.Ns.new s.heap (.type "dict")).keeps (pushCells_keeps _ _)) (fun b o e=>pushCells_keeps _ _ b o (Heap.get?_push_of_some _ e)) fun n c hm=>(ok.empty n c hm).1
end
end L2

end
section
set_option Elab.async false
set_option linter.all false
set_option maxRecDepth 100000
namespace L2
open PySem PySem.Spec PyProof.Rows
def z16(X:Cx)(N:List Str)(scope:Scope)(cl:List (Str×Addr))(C:Addr)(fp:List Addr)(s:Shared)(H:Hp):Cx where
 prog:=X.prog
 w:=X.w
 K:=X.K
 mg:=X.mg
 base:=X.base
 A:=X.A
 N:=N
 s₀:=s
 H₀:=H
 env:=compEnvC scope cl C X.env
 outer:=X.stack
 stack:=X.stack
 ex:=fp
 fn:=fun x=>scope.names.lookup x==some .cell
 calm:=X.calm
 pn:=[]
 xe:=fun _ _=>False
structure CompScope(X:Cx)(N:List Str)(scope:Scope)(nt:Nat)(js:List Nat):Prop where
 kind:scope.kind = .function
 nd:(scope.names.map (·.1)).Nodup
 loc:∀ x∈scope.names,x.2 = .local→scope.names.lookup x.1=some .local
 len:N.length=nt+js.length
 names:∀ k j,js[k]?=some j→∃ x,N[nt+k]?=some x∧X.N[j]?=some x∧scope.names.lookup x=some .free
 fre:∀ x∈scope.names,x.2 = .free→X.env.kindOf x.1=some .cell∨X.env.kindOf x.1=some .free
def sig(nt:Nat)(js:List Nat)(σ:St):St:=List.replicate nt none++js.map fun j=>(σ[j]?).join
def PTs(X:Cx)(ifs:List Expr)(t:TT):Prop :=
 ∀(pins:List (Addr×Obj)) (s:Shared) (σ:St) (H:Hp) (Q:Bool→Hp→Prop),Inv X pins σ H s→t σ H Q →
  wpAny (model X.prog X.w) X.A (forIn ifs true fun c r=>if r=true then do let ok ←isTrue c X.env (eval c X.env);pure (ForInStep.yield ok) else pure (ForInStep.yield r)) (TP X pins σ Q) X.xe s
def tYes:TT:=fun _ H Q=>Q true H
theorem zpM{X:Cx}:PTs X [] tYes:=fun pins s σ H Q I h=>wpAny_tests_nil ⟨H,I,h⟩
theorem zpN{X:Cx}{c:Expr}{t:TT}(hc:PT X c t):PTs X [c] t:=fun pins s σ H Q I h=>wpAny_tests_one (hc pins s σ H Q I h)
theorem nlt{a b:Nat}(h1:a+1≤b)(h2:b<a):False:=by omega
theorem z33{α:Type}:∀{l:List (Str×α)} {p:Str×α},(l.map (·.1)).Nodup→p∈l→l.lookup p.1=some p.2
 | [],_,_,h=>by cases h
 | (y,k)::r,p,nd,h=>by
  have nd:(y::r.map (·.1)).Nodup:=nd
  obtain⟨n1,n2⟩:=List.nodup_cons.mp nd
  rw[List.lookup_cons]
  rcases List.mem_cons.mp h with e|e
  · subst e
    show(match y==y with|true=>some k|false=>_)=some k
    rw[beq_self_eq_true]
  · cases hb:p.1==y with
    | true =>
     rw[←beq_iff_eq.mp hb]at n1
     exact absurd (List.mem_map.mpr ⟨p,e,rfl⟩) n1
    | false=>exact z33 n2 e
theorem z54{env:Env}{x:Str}:∀{names:List (Str×NameKind)} {k:NameKind},names.lookup x=some k →
  (names.map fun(n,k)=>if(k==NameKind.free&&env.scope.kind == .function&&env.kindOf n==some .cell) then(n,NameKind.cell) else(n,k)).lookup x=some (if(k==NameKind.free&&env.scope.kind == .function&&env.kindOf x==some .cell)=true then .cell else k)
 | [],_,h=>by cases h
 | (y,k')::r,k,h=>by
  rw[List.lookup_cons]at h
  show List.lookup x ((if(k'==NameKind.free&&env.scope.kind == .function&&env.kindOf y==some .cell)=true then(y,NameKind.cell) else(y,k'))::_)=_
  cases hb:x==y with
  | true =>
   rw[hb]at h
   have hk:k'=k:=by cases h;rfl
   have hxy:x=y:=beq_iff_eq.mp hb
   subst hk;subst hxy
   split<;>(rw[List.lookup_cons];rw[hb])
  | false =>
   rw[hb]at h
   have ih:=@z54 env x r k h
   split<;>(rw[List.lookup_cons];rw[hb];exact ih)
theorem z4D{env:Env}{x:Str}{k:NameKind}:∀{names:List (Str×NameKind)},
  (names.map fun(n,k)=>if(k==NameKind.free&&env.scope.kind == .function&&env.kindOf n==some .cell) then(n,NameKind.cell) else(n,k)).lookup x=some k→∃ k',names.lookup x=some k'∧(k=k'∨(k' = .free∧k = .cell))
 | [],h=>by cases h
 | (y,k')::r,h=>by
  have h:List.lookup x ((if(k'==NameKind.free&&env.scope.kind == .function&&env.kindOf y==some .cell)=true then(y,NameKind.cell) else(y,k'))::r.map fun(n,k)=>if(k==NameKind.free&&env.scope.kind == .function&&env.kindOf n==some .cell) then(n,NameKind.cell) else(n,k))=some k:=h
  rw[List.lookup_cons]
  cases hb:x==y with
  | true =>
   split at h
   · rename_i hc
     rw[List.lookup_cons,hb]at h
     have hf:(k'==NameKind.free)=true:=by
      rw[Bool.and_eq_true,Bool.and_eq_true]at hc
      exact hc.1.1
     cases h
     exact⟨k',rfl,.inr ⟨beq_iff_eq.mp hf,rfl⟩⟩
   · rw[List.lookup_cons,hb]at h
     cases h
     exact⟨k,rfl,.inl rfl⟩
  | false =>
   split at h
   all_goals
     rw[List.lookup_cons,hb]at h
     exact z4D h
section
variable {X:Cx}{N:List Str}{scope:Scope}{nt:Nat}{js:List Nat}{pins:List (Addr×Obj)}{σ:St}{H:Hp}{s:Shared}{fp:List Addr}
theorem zlI{s2:Shared}{H2:Hp}(S:CompScope X N scope nt js)(I2:Inv X pins σ H2 s2)(I:Inv X pins σ H s)(hu:Un (frs X.stack) fp H2 H s2.heap s.heap)(hos:s.os=s2.os)(hz:s2.heap.objs.size≤s.heap.objs.size)
   (hf:∀ b∈fp,FpOk X pins H b) (ho:∀ b∈fp,∃ o,s.heap.get? b=some o) {h':Heap}
   (ns:h'.Ns s.heap.objs.size (fun _=>none)) (k:∀ b o,s.heap.get? b=some o→h'.get? b=some o) (nc:∀ n c,(n,c)∈cellsFrom (s.heap.objs.size+1) scope.names []→h'.IsCell c none) :
   Inv (z16 X N scope (cellsFrom (s.heap.objs.size+1) scope.names (z0K X.env scope.names [])) s.heap.objs.size fp s2 H2) [] (sig nt js σ) H { s with heap:=h' }:=by
 have ok:=I.ok
 have hcl:∀ p∈z0K X.env scope.names [],X.env.cells.lookup p.1=some p.2:=fun p hp=>(z6r _ _ p hp).resolve_left (by simp)
 have hlt:∀ x c,X.env.cells.lookup x=some c→c<s.heap.objs.size:=fun x c e=>by
   obtain⟨v,o,ho,_⟩:=I.cell x c e
   exact Heap.lt_size ho
 have mem:∀ x c,(cellsFrom (s.heap.objs.size+1) scope.names (z0K X.env scope.names [])).lookup x=some c→s.heap.objs.size+1≤c∨X.env.cells.lookup x=some c:=fun x c e=>by
   rcases zeZ _ _ _ _ (PySem.mem_of_lookup e)with q|q
   · exact .inl q
   · exact .inr (hcl _ q)
 have frec:∀ x,scope.names.lookup x=some .free→∃ c,X.env.cells.lookup x=some c∧(cellsFrom (s.heap.objs.size+1) scope.names (z0K X.env scope.names [])).lookup x=some c:=fun x hx=>by
   obtain⟨c,hc⟩:=ok.has x (S.fre (x,.free) (PySem.mem_of_lookup hx) rfl)
   refine⟨c,hc,?_⟩
   rw[zeY _ _ _ fun y hy e=>?_]
   · obtain⟨d,hd⟩:=Option.isSome_iff_exists.mp (z6s (env:=X.env) scope.names [] hx hc)
     have:=z3S (env:=X.env) (x:=x) scope.names [] (fun c e=>by simp at e) d hd
     rw[hc]at this
     cases this
     exact hd
   · have q:=z33 S.nd hy
     rw[e,hx]at q
     intro z
     rw[z]at q
     cases q
 refine⟨⟨ok.mod,S.kind,ok.glob,ok.blt,hz,fun x y c hx hy=>?_,fun x hx=>?_,fun x c hx e=>?_,ok.hd,ok.frames,.inl rfl,fun b hb=>⟨?_,fun x c e=>?_⟩,fun b o e=>?_,?_,fun b o e hb=>?_,fun b hb=>?_,I2.stack,I2.stkFree⟩,
   hos,I.bare,hu.trans (Un.kept k),⟨_,ns,fun i x v h1 h2 h3=>?_⟩,fun x c e=>?_,?_,fun x c e=>?_,fun p hp=>absurd (show p∈([]:List (Addr×Obj))from hp) (by simp),I.hok.kept k,?_⟩
 ·
   rcases mem x c hx with q|q
   · rcases mem y c hy with q'|q'
     · have in1:∀ z:Str,(z,c)∈cellsFrom (s.heap.objs.size+1) scope.names (z0K X.env scope.names [])→(z,c)∈cellsFrom (s.heap.objs.size+1) scope.names []:=fun z hz=>by
         rw[z9x]at hz
         rcases List.mem_append.mp hz with hz|hz
         · exact hz
         · exact(nlt q (hlt _ _ (hcl _ hz))).elim
       exact name_of_addr (z9w scope.names (s.heap.objs.size+1) [] (fun p hp=>by simp at hp) List.Pairwise.nil) (in1 x (PySem.mem_of_lookup hx)) (in1 y (PySem.mem_of_lookup hy))
     · exact(nlt q (hlt _ _ q')).elim
   · rcases mem y c hy with q'|q'
     · exact(nlt q' (hlt _ _ q)).elim
     · exact ok.inj x y c q q'
 ·
   have hx:(relabel scope X.env).names.lookup x=some .cell∨(relabel scope X.env).names.lookup x=some .free:=hx
   have cs:scope.names.lookup x=some .cell∨scope.names.lookup x=some .free:=by
     rcases hx with q|q
     · obtain⟨k',e1,e2⟩:=z4D q
       rcases e2 with e2|⟨e2,_⟩
       · rw[←e2]at e1;exact .inl e1
       · rw[e2]at e1;exact .inr e1
     · obtain⟨k',e1,e2⟩:=z4D q
       rcases e2 with e2|⟨_,e2⟩
       · rw[←e2]at e1;exact .inr e1
       · cases e2
   rcases cs with q|q
   · exact Option.isSome_iff_exists.mp (PySem.W.cellsFrom_some scope.names _ _ (.inl q))
   · obtain⟨c,_,e⟩:=frec x q
     exact⟨c,e⟩
 ·
   have hx:(scope.names.lookup x==some .cell)=true:=hx
   exact Nat.le_trans hz (Nat.le_of_succ_le (zeX scope.names _ _ c (beq_iff_eq.mp hx) e))
 ·
   intro e
   obtain⟨o,hb'⟩:=ho b hb
   exact absurd (Heap.lt_size hb') (by rw[e];exact Nat.lt_irrefl _)
 · rcases mem x c e with q|q
   · intro z
     obtain⟨o,hb'⟩:=ho b hb
     have:=Heap.lt_size hb'
     rw[←z]at this
     exact nlt q this
   · exact(hf b hb).2.2.2.2.1 x c q
 · exact I2.bs b o e
 · exact Nat.le_trans ok.bsz I2.sz
 ·
   rcases(hf b hb).2.2.2.1 with q|q
   · exact ok.noex b o e q
   · exact absurd (Nat.lt_of_lt_of_le (Heap.lt_size e) (Nat.le_trans ok.bsz q)) (Nat.lt_irrefl _)
 ·
   intro z
   rcases List.mem_cons.mp (I.stkSub b z)with q|q
   · exact(hf b hb).2.1 q
   · exact(hf b hb).2.2.1 q
 ·
   have hi:nt≤i:=by
     by_cases hi:i<nt
     · unfold sig at h2
       rw[List.getElem?_append_left (by simpa using hi),List.getElem?_replicate]at h2
       split at h2<;>cases h2
     · omega
   unfold sig at h2
   rw[List.getElem?_append_right (by simpa using hi),List.length_replicate,List.getElem?_map]at h2
   cases ej:js[i-nt]? with
   | none=>rw[ej]at h2;cases h2
   | some j =>
     rw[ej]at h2
     have h2:(σ[j]?).join=some v:=Option.some.inj h2
     obtain⟨y,n1,n2,n3⟩:=S.names _ _ ej
     have hxy:x=y:=by
       have e:nt+(i-nt)=i:=by omega
       rw[e]at n1
       have h1:N[i]?=some x:=h1
       rw[h1]at n1
       exact Option.some.inj n1
     subst hxy
     have h2':σ[j]?=some (some v):=by
       cases eσ:σ[j]? with
       | none=>rw[eσ]at h2;cases h2
       | some a =>
         rw[eσ]at h2
         have h2:a=some v:=h2
         rw[h2]
     obtain⟨m,hn,hl⟩:=I.loc
     have kd:=S.fre (x,.free) (PySem.mem_of_lookup n3) rfl
     obtain⟨u,ru,lk⟩:=hl j x v n2 h2' (.inr kd)
     refine⟨u,ru,?_⟩
     obtain⟨c,c1,c2⟩:=frec x n3
     rcases lk with⟨z,_⟩|⟨_,d,d1,d2⟩
     · have kd':X.env.kindOf x=some .cell∨X.env.kindOf x=some .free:=kd
       rw[z]at kd'
       rcases kd' with q|q<;>cases q
     · rw[c1]at d1
       cases d1
       refine .inr ⟨?_,c,c2,d2.keeps k⟩
       have:=z54 (env:=X.env) n3
       show(relabel scope X.env).names.lookup x=some .cell∨(relabel scope X.env).names.lookup x=some .free
       unfold relabel
       dsimp only
       rw[this]
       split
       · exact .inl rfl
       · exact .inr rfl
 ·
   have e:(cellsFrom (s.heap.objs.size+1) scope.names (z0K X.env scope.names [])).lookup x=some c:=e
   have hm:=PySem.mem_of_lookup e
   rw[z9x]at hm
   rcases List.mem_append.mp hm with q|q
   · exact⟨none,nc x c q⟩
   · obtain⟨v,hv⟩:=I.cell x c (hcl _ q)
     exact⟨v,hv.keeps k⟩
 · exact I.hok.fresh (Nat.le_refl _)
 · rcases mem x c e with q|q
   · exact I.hok.fresh (Nat.le_of_succ_le q)
   · exact I.freeC x c q
 · show(sig nt js σ).length=N.length
   unfold sig
   rw[List.length_append,List.length_replicate,List.length_map,S.len]
end
end L2

end
section
set_option Elab.async false
set_option linter.all false
set_option maxRecDepth 100000
namespace L2
open PySem PySem.Spec PyProof.Rows
def zjB(nt:Nat)(js:List Nat)(wi:TI)(g:TG)(tc:Hp→TT)(te:Hp→TE):TE:=fun σ H Q=>wi σ H fun J H1=>∀ D,H1 D=none →
 ∃ W:Nat→Nat→List V→Hp→Prop,(∃ m,W 0 m [] (upd H1 D (.lst [])))∧∀ i m ys H,W i m ys H →
  (J.stop i H∧Q (.ref D) H)∨(J.go i H∧∀ x H',J.yld i H x H'→g x (sig nt js σ) H' fun σ2 H2=>tc H1 σ2 H2 fun b H3 =>
   if b=true then te H1 σ2 H3 fun v H4=>H4 D=some (.lst ys)∧ys.length<sizeLine∧∃ m',m'<m∧W (i+1) m' (ys++[v]) (upd H4 D (.lst (ys++[v])))
   else ∃ m',m'<m∧W (i+1) m' ys H3)
section
variable {X:Cx}{N:List Str}{scope:Scope}{nt:Nat}{js:List Nat}{tg elt iter:Expr}{ifs:List Expr}{wi:TI}{g:TG}{tc:Hp→TT}{te:Hp→TE}{pos:Pos}
theorem zlJ{σ σ2:St}(hl:σ2.length=(sig nt js σ).length)(h:∀ i,nt≤i→σ2[i]?=(sig nt js σ)[i]?):∀(i:Nat) v,(sig nt js σ)[i]?=some (some v)→σ2[i]?=some (some v):=fun i v e=>by
 by_cases hi:nt≤i
 · rw[h i hi];exact e
 · unfold sig at e
   rw[List.getElem?_append_left (by rw[List.length_replicate];omega),List.getElem?_replicate]at e
   split at e<;>cases e
def TgOk(nt:Nat)(g:TG):Prop:=∀ x σ H (Q:St→Hp→Prop),g x σ H Q→g x σ H fun σ2 H2=>(σ2.length=σ.length∧∀ i,nt≤i→σ2[i]?=σ[i]?)∧Q σ2 H2
theorem zdt(S:CompScope X N scope nt js)(hc:X.calm=true)(hi:PI X tg iter wi)
  (hg:∀ cl C fp s H,PG (z16 X N scope cl C fp s H) tg g) (ht:TgOk nt g) (hcs:∀ cl C fp s H,PTs (z16 X N scope cl C fp s H) ifs (tc H)) (he:∀ cl C fp s H,PE (z16 X N scope cl C fp s H) elt (te H))
  {use:Option (Value→Sem Unit)} {pins:List (Addr×Obj)} {s:Shared} {σ:St} {H:Hp} {Q:VK} {Q':Value→Shared→Prop} (I:Inv X pins σ H s) (h:zjB nt js wi g tc te σ H Q)
  (hs:∀ x,foldedSetIterable iter X.env x=pure x)
  (fin:∀(D C:Addr) (H':Hp) (s':Shared),Inv X pins σ H' s'→Q (.ref D) H'→H' C=none→C≠X.env.locals→(X.s₀.heap.objs.size≤C)→(∀ x c,X.env.cells.lookup x=some c→c≠C)→(∀ p∈X.pn++pins,p.1≠C)→(∃ m,s'.heap.Ns C m) →
    compPost (model X.prog X.w) X.A X.xe use Q' (.ref D) C (.ok .next) s') :
  wpAny (model X.prog X.w) X.A (comprehension (.ListComp elt [⟨tg,iter,ifs,0⟩] scope pos) scope X.env (firstIterPos [⟨tg,iter,ifs,0⟩] pos) (newList []) false (eval iter X.env) use) Q' X.xe s:=by
 have clo:closureFor scope X.env=pure (z0K X.env scope.names []):=zf fun y hy e=>I.ok.has y.1 (S.fre y hy e)
 refine wpAny_comprehension_free (cl:=z0K X.env scope.names []) rfl hs clo S.kind S.loc (thn (hi pins s σ H _ I h) fun xv s1 h1=>thn h1 fun itv s2 h2=>?_)
 obtain⟨it,fp,tn,J,H2,rfl,I2,T,st2,f2,q2⟩:=h2
 refine wpAny_newObj_type (hd:=by size_fits) ?_
 have fresh2:H2 s2.heap.objs.size=none:=I2.fresh
 have I3:=I2.lnew (ys:=[]) (its:=[]) (t':=s2.toks) .nil (Nat.zero_le _)
 obtain⟨W,⟨m0,w0⟩,turn⟩:=q2 s2.heap.objs.size fresh2
 have ltf:∀ b∈fp,b<s2.heap.objs.size:=fun b hb=>by
  obtain⟨o,e,_⟩:=T.obj 0 _ st2 b hb
  exact Heap.lt_size e
 have ned:∀ b∈fp,b≠s2.heap.objs.size:=fun b hb=>Nat.ne_of_lt (ltf b hb)
 have f3:∀ b∈fp,FpOk X pins (upd H2 s2.heap.objs.size (.lst [])) b:=fun b hb=>⟨by rw[z0x (ned b hb)];exact(f2 b hb).1,(f2 b hb).2⟩
 generalize e3:({ s2 with heap:=s2.heap.push { cls := .type "list",dict:=none,data := .seq ([]:List Value).toArray } }:Shared)=s3 at *
 have k3:∀ b o,s2.heap.get? b=some o→s3.heap.get? b=some o:=fun b o e=>by rw[←e3];exact Heap.get?_push_of_some _ e
 have os3:s3.os=s2.os:=by rw[←e3]
 have sz3:s2.heap.objs.size<s3.heap.objs.size:=by rw[←e3];show _<(s2.heap.push _).objs.size;rw[Heap.size_push];exact Nat.lt_succ_self _
 refine zlH fun h4 ns4 k4 nc4=>?_
 have I4:=zlI S I2 I3 (Un.laid k3 (Nat.le_refl _) fresh2) os3 (Nat.le_of_lt sz3) f3 (fun b hb=>by obtain⟨o,e,_⟩:=T.obj 0 _ st2 b hb;exact⟨o,k3 b o e⟩) ns4 k4 nc4
 have st4:tn 0 h4:=T.keep _ _ _ st2 fun b _ o e=>k4 b o (k3 b o e)
 generalize eC:s3.heap.objs.size=C at *
 have stat:∀{H':Hp},(∀ b∈fp,H' b=none)→∀ b∈fp,FpOk (z16 X N scope (cellsFrom (C+1) scope.names (z0K X.env scope.names [])) C fp s2 H2) [] H' b:=fun hn b hb =>
  ⟨hn b hb,(I4.ok.exf b hb).1,I4.ok.exfs b hb,.inl hb,(I4.ok.exf b hb).2,fun p hp=>absurd (show p∈([]:List (Addr×Obj))from hp) (by simp)⟩
 have loop:∀ s4:Shared,s4={ s3 with heap:=h4 }→codeAny (model X.prog X.w) X.A (.compLoop (.ListComp elt [⟨tg,iter,ifs,0⟩] scope pos) 0 (.ref it) (.ref s2.heap.objs.size) (compEnvC scope (cellsFrom (C+1) scope.names (z0K X.env scope.names [])) C X.env))
    (compPost (model X.prog X.w) X.A X.xe use Q' (.ref s2.heap.objs.size) C) s4:=by
  rintro s4 rfl
  refine zcD (fun n s'=>∃ i ys H',Inv (z16 X N scope (cellsFrom (C+1) scope.names (z0K X.env scope.names [])) C fp s2 H2) [] (sig nt js σ) H' s'∧tn i s'.heap∧(∀ b∈fp,H' b=none)∧W i n ys H') ?_ m0
    ⟨0,[],_,I4,st4,fun b hb=>(f3 b hb).1,w0⟩
  rintro n s5 ⟨i,ys,H5,I5,st5,fr5,w5⟩
  rcases turn i n ys H5 w5 with⟨stop,q⟩|⟨go,step⟩
  · refine wpAny_mono (T.done (z16 X N scope (cellsFrom (C+1) scope.names (z0K X.env scope.names [])) C fp s2 H2) rfl rfl rfl hc i [] s5 _ H5 _ I5 (stat fr5) st5 stop) (fun r s6 hZ=>hZ.elim fun hr I6=>?_) fun _ _ z=>z
    subst hr
    have u:Un (frs X.stack) fp H2 H5 s2.heap s6.heap:=I6.base
    have J6:Inv X pins σ H5 s6:=I2.call' I6.os u I6.hok I6.bare fun b hb=>⟨(f2 b hb).2.2.2.1,(f2 b hb).2.1,(f2 b hb).2.2.2.2.1,(f2 b hb).2.2.2.2.2⟩
    have hCs:s2.heap.objs.size≤C:=Nat.le_of_lt sz3
    refine fin _ C H5 s6 J6 q I6.free (fun z=>?_) (Nat.le_trans I2.sz hCs) (fun x c e z=>?_) (fun p hp z=>?_) ?_
    · exact absurd I2.lt (by rw[←z];exact Nat.not_lt.mpr hCs)
    · obtain⟨v,o,ho,_⟩:=I2.cell x c e
      exact absurd (Heap.lt_size ho) (by rw[z];exact Nat.not_lt.mpr hCs)
    · exact absurd (Heap.lt_size (I2.pin p hp).1) (by rw[z];exact Nat.not_lt.mpr hCs)
    · obtain⟨m,hm,_⟩:=I6.loc
      exact⟨m,hm⟩
  · refine wpAny_mono (T.item (z16 X N scope (cellsFrom (C+1) scope.names (z0K X.env scope.names [])) C fp s2 H2) rfl rfl rfl hc i [] s5 _ H5 _ I5 (stat fr5) st5 go) (fun r s6 hZ=>hZ.elim fun u hZ=>hZ.elim fun hr h6=>?_) fun _ _ z=>z
    subst hr
    refine wpAny_mono h6 (fun _ s7 hZ=>hZ.elim fun x hZ=>hZ.elim fun H7 hZ=>hZ.elim fun I7 hZ=>hZ.elim fun r7 hZ=>hZ.elim fun y7 hZ=>hZ.elim fun st7 fr7=>?_) fun _ _ z=>z
    have I7':=I7.pinned (stat fr7) (T.obj _ _ st7)
    refine wpAny_mono (hg _ _ _ _ _ _ s7 _ H7 x u _ I7' r7 (ht _ _ _ _ (step x H7 y7))) (fun _ s8 ⟨σ8,H8,I8,⟨l8,o8⟩,q8⟩=>?_) fun _ _ z=>z.elim
    have again:∀{s9:Shared} {H9:Hp} {ys9:List V},Inv (z16 X N scope (cellsFrom (C+1) scope.names (z0K X.env scope.names [])) C fp s2 H2) ([]++z9t fp s7.heap) σ8 H9 s9→(∃ m',m'<n∧W (i+1) m' ys9 H9) →
       ∃ m,m<n∧∃ i ys H',Inv (z16 X N scope (cellsFrom (C+1) scope.names (z0K X.env scope.names [])) C fp s2 H2) [] (sig nt js σ) H' s9∧tn i s9.heap∧(∀ b∈fp,H' b=none)∧W i m ys H':=fun{s9 H9 ys9} I9 ⟨m',hm,w9⟩=>by
      refine⟨m',hm,i+1,ys9,H9,I9.unpinned.weak l8.symm (zlJ l8 o8),T.keep _ _ _ st7 fun b hb o e=>(I9.pin (b,o) (List.mem_append_right _ (List.mem_append_right _ (z4y hb e)))).1,fun b hb=>?_,w9⟩
      obtain⟨o,e,_⟩:=T.obj _ _ st7 b hb
      exact(I9.pin (b,o) (List.mem_append_right _ (List.mem_append_right _ (z4y hb e)))).2.1
    refine wpAny_mono (hcs _ _ _ _ _ _ s8 σ8 H8 _ I8 q8) (fun ok s9 hZ=>hZ.elim fun H9 hZ=>hZ.elim fun I9 q9=>?_) fun _ _ z=>z.elim
    cases ok with
    | false =>
      rw[if_neg Bool.false_ne_true]at q9 ⊢
      exact again I9 q9
    | true =>
      rw[if_pos rfl]at q9 ⊢
      refine wpAny_mono (he _ _ _ _ _ _ s9 σ8 H9 _ I9 q9) (fun y s10 hZ=>hZ.elim fun v hZ=>hZ.elim fun H10 hZ=>hZ.elim fun I10 hZ=>hZ.elim fun r10 hZ=>hZ.elim fun d10 hZ=>hZ.elim fun l10 w10=>?_) fun _ _ z=>z.elim
      refine wpAny_mono (zbg (X:=z16 X N scope (cellsFrom (C+1) scope.names (z0K X.env scope.names [])) C fp s2 H2) _ s10 σ8 H10 (.ref s2.heap.objs.size) [v] (.ref s2.heap.objs.size) [y] (fun z H'=>∃ m',m'<n∧W (i+1) m' (ys++[v]) H') I10 rfl (.cons r10 .nil) ⟨_,ys,v,rfl,rfl,d10,l10,w10⟩) (fun _ s11 hZ=>hZ.elim fun _ hZ=>hZ.elim fun H11 hZ=>hZ.elim fun I11 hZ=>hZ.elim fun _ w11=>?_) fun _ _ z=>z.elim
      exact again I11 w11
 exact codeAny_compStart_list (loop _ rfl) (T.self _ _ _ _ _ st4 (loop _ rfl))
theorem zpO(S:CompScope X N scope nt js)(hc:X.calm=true)(hi:PI X tg iter wi)
  (hg:∀ cl C fp s H,PG (z16 X N scope cl C fp s H) tg g) (ht:TgOk nt g) (hcs:∀ cl C fp s H,PTs (z16 X N scope cl C fp s H) ifs (tc H)) (he:∀ cl C fp s H,PE (z16 X N scope cl C fp s H) elt (te H))
  (hs:∀ x,foldedSetIterable iter X.env x=pure x:=by intro _;rfl):PE X (.ListComp elt [⟨tg,iter,ifs,0⟩] scope pos) (zjB nt js wi g tc te):=by
 intro pins s σ H Q I h
 rw[eval_ListComp]
 refine zdt (use:=none) S hc hi hg ht hcs he I h hs ?_
 rintro D C H' s' I' q hC hL hz hcl hpn ⟨m,hm⟩
 exact⟨m,hm,fun h' sb=>⟨.ref D,H',I'.turned (fun b o hb e=>sb.extBut b o hb e) hC hL (.inr hz) hcl hpn,rfl,q⟩⟩
theorem zpP{i:Nat}{x:Str}{pos' spos:Pos}(hN:X.N.Nodup)(hix:X.N[i]?=some x)(hx:X.env.scope.names.lookup x=some .local)(S:CompScope X N scope nt js)(hc:X.calm=true)(hi:PI X tg iter wi)
  (hg:∀ cl C fp s H,PG (z16 X N scope cl C fp s H) tg g) (ht:TgOk nt g) (hcs:∀ cl C fp s H,PTs (z16 X N scope cl C fp s H) ifs (tc H)) (he:∀ cl C fp s H,PE (z16 X N scope cl C fp s H) elt (te H))
  (hsw:swapsWith (.ListComp elt [⟨tg,iter,ifs,0⟩] scope pos) (some (.Name x pos')) spos.line X.env=pure true)
  (hs:∀ x,foldedSetIterable iter X.env x=pure x:=by intro _;rfl):PS X (.Assign [.Name x pos'] (.ListComp elt [⟨tg,iter,ifs,0⟩] scope pos) spos) (tAsg (zjB nt js wi g tc te) (z9s i)):=by
 intro pins s σ H D0 I h
 rw[exec_Assign_Name_used _ _ _ _ hsw]
 refine wpAny_bind (wpAny_standAt (wpAny_bind ?_))
 show wpAny _ X.A (do let _ ←comprehension (.ListComp elt [⟨tg,iter,ifs,0⟩] scope pos) scope X.env _ (newList []) false (eval iter X.env) (some (assign (.Name x pos') X.env))) _ _ s
 refine wpAny_bind (wpAny_mono (zdt (use:=some (assign (.Name x pos') X.env)) (Q':=fun _ s'=>SP X pins D0 .next s') S hc hi hg ht hcs he I h hs fun D C H' s' I' q hC hL hz hcl hpn hZ=>hZ.elim fun m hm=>?_) (fun _ s' hq=>wpAny_pure (wpAny_pure hq)) fun _ _ e=>e)
 show wpAny _ X.A (assign (.Name x pos') X.env (.ref D)) _ _ s'
 refine wpAny_assign_Name (zba (v := .ref D) I' hN hix (.inl hx) rfl (fun s'' I'' hZ=>hZ.elim fun a hZ=>hZ.elim fun sb ha=>?_) (.inr hx))
 have hCa:C≠a:=by
  rintro rfl
  rcases ha with ha|ha
  · exact hL ha
  · exact hcl x C ha rfl
 refine⟨m,hm.sameBut sb hCa,fun h' sb'=>⟨_,H',I''.turned (fun b o hb e=>sb'.extBut b o hb e) hC hL (.inr hz) hcl hpn,q⟩⟩
end
end L2

end
section
set_option Elab.async false
set_option linter.all false
set_option maxRecDepth 100000
namespace L2
open PySem PySem.Spec PyProof.Rows
section
variable {X:Cx}
def CDivG(_ j:Int):Prop:=j≠0∧j.natAbs.log2<9000
theorem zlK:OpR X (binaryOp .FloorDiv) (rI CDivG fun i j => .int (i.fdiv j)):=opI fun _ _ _ _ _ _ _ hc q=>floordiv_int hc.1 q (.inl (PyProof.noPylong_of_log2 hc.2))
theorem zcE{i:Int}{k:Nat}(h:i.natAbs<2 ^ k):Builtin.Int.intBits i≤k:=by
 unfold Builtin.Int.intBits
 split
 · exact Nat.zero_le _
 · rename_i h0
   have h1:i.natAbs≠0:=by
    intro e
    apply h0
    have:i=0:=Int.natAbs_eq_zero.mp e
    subst this
    rfl
   exact Nat.succ_le_of_lt ((Nat.log2_lt h1).mpr h)
theorem pe_ty{x:Str}{T:String}{pos:Pos}(hg:Gl X x)(hm:X.mg x=none)(hv:bootBuiltins x=some (.type T))(hn:x ≠ "__name__" := by decide)(hd:(x==("__debug__" : Str))=false:=by decide):PE X (.Name x pos) (tC (.ty T)):=zpw (v:=V.ty T) hg hm hv rfl hn hd
end
end L2

end
section
set_option Elab.async false
set_option linter.all false
set_option maxRecDepth 100000
namespace L2
open PySem PySem.Spec PyProof.Rows
def hidL(A:List Addr)(H:Hp):Hp:=fun b=>if b∈A then none else H b
def z1l(A:List Addr)(H H':Hp):Hp:=fun b=>if b∈A then H b else H' b
section
variable {A:List Addr}{H H' H1:Hp}{a b:Addr}{o:HO}
theorem z2R(h:b∈A):hidL A H b=none:=if_pos h
theorem z0r(h:b ∉ A):hidL A H b=H b:=if_neg h
theorem z4E(h:hidL A H b=some o):b ∉ A∧H b=some o:=by
 unfold hidL at h
 split at h
 · cases h
 · rename_i q;exact⟨q,h⟩
theorem z0O:Same (hidL A H) H:=fun b o e=>(z4E e).2
theorem zdu:hidL [] H=H:=funext fun b=>by unfold hidL;simp
theorem z5L(h:b∈A):z1l A H H' b=H b:=if_pos h
theorem z1e(h:b ∉ A):z1l A H H' b=H' b:=if_neg h
theorem Same.glue(h:Same (hidL A H) H')(hn:∀ a∈A,H' a=none):Same H (z1l A H H'):=fun b o e=>by
 by_cases q:b∈A
 · rw[z5L q];exact e
 · rw[z1e q];exact h b o (by rw[z0r q];exact e)
theorem z3n(hn:∀ a∈A,H' a=none):hidL A (z1l A H H')=H':=funext fun b=>by
 by_cases q:b∈A
 · rw[z2R q,hn b q]
 · rw[z0r q,z1e q]
end
def OwnL(X:Cx)(A:List Addr)(H:Hp):Prop:=∀ a∈A,(∃ vs,H a=some (.lst vs))∧X.H₀ a=none
section
variable {X:Cx}{A:List Addr}{pins:List (Addr×Obj)}{σ:St}{H H':Hp}{s s':Shared}
def zdv(h:Heap)(A:List Addr):List (Addr×Obj):=A.filterMap fun a=>(h.get? a).map fun o=>(a,o)
theorem zbi{h:Heap}{a:Addr}{o:Obj}(ha:a∈A)(e:h.get? a=some o):(a,o)∈zdv h A:=List.mem_filterMap.mpr ⟨a,ha,by rw[e];rfl⟩
theorem zlL{h:Heap}{p:Addr×Obj}(hp:p∈zdv h A):p.1∈A∧h.get? p.1=some p.2:=by
 obtain⟨a,ha,e⟩:=List.mem_filterMap.mp hp
 cases q:h.get? a with
 | none=>rw[q]at e;cases e
 | some o=>rw[q]at e;cases e;exact⟨ha,q⟩
theorem Inv.fsFree(I:Inv X pins σ H s){b:Addr}(hb:b∈X.fs):H b=none:=by
 obtain⟨_,o,ho,_⟩:=I.ok.funs.mem hb
 exact I.base.free b o ho (I.ok.frf b hb) fun z=>I.ok.exfs b z hb
theorem Inv.hide(I:Inv X pins σ H s)(hA:OwnL X A H):Inv X (pins++zdv s.heap A) σ (hidL A H) s:=by
 have nl:∀ b o,H b=some o→(∀ vs,o ≠ .lst vs)→b ∉ A:=fun b o e n hb=>by
   obtain⟨⟨vs,q⟩,_⟩:=hA b hb
   rw[e]at q
   exact n vs (Option.some.inj q)
 refine⟨I.ok,I.os,I.bare,⟨I.base.keep,I.base.slot,fun b o e n hx=>?_,I.base.there,fun b xs e=>?_,fun b o u e=>?_,fun b ps e=>?_⟩,I.loc,I.cell,?_,fun x c e=>?_,fun p hp=>?_,fun a o e=>?_,I.len⟩
 · have:=I.base.free b o e n hx
   unfold hidL
   split
   · rfl
   · exact this
 · have:=I.base.tups b xs e
   rw[z0r (nl b _ this fun _ z=>by cases z)];exact this
 · have:=I.base.frzs b o u e
   rw[z0r (nl b _ this fun _ z=>by cases z)];exact this
 · obtain⟨more,this⟩:=I.base.tbls b ps e
   exact⟨more,by rw[z0r (nl b _ this fun _ z=>by cases z)];exact this⟩
 · have:=I.free
   unfold hidL
   split
   · rfl
   · exact this
 · have:=I.freeC x c e
   unfold hidL
   split
   · rfl
   · exact this
 · rw[←List.append_assoc]at hp
   rcases List.mem_append.mp hp with hp|hp
   · obtain⟨q1,q2,q3⟩:=I.pin p hp
     refine⟨q1,?_,q3⟩
     unfold hidL
     split
     · rfl
     · exact q2
   · obtain⟨q1,q2⟩:=zlL hp
     obtain⟨⟨vs,q⟩,_⟩:=hA _ q1
     refine⟨q2,z2R q1,fun z=>?_,fun z=>?_,fun v z=>?_⟩
     · rw[z,I.free]at q;cases q
     · rw[I.fsFree z]at q;cases q
     · obtain⟨_,its,n,_,e⟩:=I.hok _ _ q
       rw[q2]at e
       have e:=Option.some.inj e
       rw[e]at z
       cases z
 · obtain⟨q1,q2⟩:=z4E e
   refine(I.hok a o q2).stay (fun b u _ z=>z) (fun b z=>?_) (fun b xs z=>?_)
   · rw[z0r (nl b _ z fun _ z=>by cases z)];exact z
   · rw[z0r (nl b _ z fun _ z=>by cases z)];exact z
theorem Inv.unhide{σ':St}(I:Inv X pins σ H s)(hA:OwnL X A H)(J:Inv X (pins++zdv s.heap A) σ' H' s'):(∀ a∈A,H' a=none)∧Inv X pins σ' (z1l A H H') s':=by
 have pn:∀ a∈A,∃ o,s.heap.get? a=some o∧s'.heap.get? a=some o∧H' a=none:=fun a ha=>by
   obtain⟨⟨vs,q⟩,_⟩:=hA a ha
   obtain⟨_,its,n,_,e⟩:=I.hok _ _ q
   have:=J.pin _ (List.mem_append_right _ (List.mem_append_right _ (zbi ha e)))
   exact⟨_,e,this.1,this.2.1⟩
 have hn:∀ a∈A,H' a=none:=fun a ha=>by obtain⟨o,_,_,q⟩:=pn a ha;exact q
 have out:∀ b,H b=none→b ∉ A:=fun b e hb=>by
   obtain⟨⟨vs,q⟩,_⟩:=hA b hb
   rw[e]at q;cases q
 have tr:∀ b o,H' b=some o→b ∉ A:=fun b o e hb=>by rw[hn b hb]at e;cases e
 refine⟨hn,J.ok,J.os,J.bare,⟨J.base.keep,J.base.slot,fun b o e n hx=>?_,J.base.there,fun b xs e=>?_,fun b o u e=>?_,fun b ps e=>?_⟩,J.loc,J.cell,?_,fun x c e=>?_,fun p hp=>?_,fun a o e=>?_,J.len⟩
 · rw[z1e (out b (I.base.free b o e n hx))];exact J.base.free b o e n hx
 · have:=J.base.tups b xs e
   rw[z1e (tr b _ this)];exact this
 · have:=J.base.frzs b o u e
   rw[z1e (tr b _ this)];exact this
 · obtain⟨more,this⟩:=J.base.tbls b ps e
   exact⟨more,by rw[z1e (tr b _ this)];exact this⟩
 · rw[z1e (out _ I.free)];exact J.free
 · rw[z1e (out _ (I.freeC x c e))];exact J.freeC x c e
 · have hp':p∈X.pn++(pins++zdv s.heap A):=by
     rw[←List.append_assoc];exact List.mem_append_left _ hp
   obtain⟨q1,q2,q3⟩:=J.pin p hp'
   refine⟨q1,?_,q3⟩
   rw[z1e (out _ (I.pin p hp).2.1)];exact q2
 · by_cases ha:a∈A
   · rw[z5L ha]at e
     obtain⟨⟨vs,q⟩,_⟩:=hA a ha
     rw[q]at e
     cases e
     obtain⟨hz,its,n,r,e1⟩:=I.hok _ _ q
     obtain⟨o,e2,e3,_⟩:=pn a ha
     rw[e1]at e2
     cases e2
     exact⟨hz,its,n,r,e3⟩
   · rw[z1e ha]at e
     refine(J.hok a o e).stay (fun b u _ z=>z) (fun b z=>?_) (fun b xs z=>?_)
     · rw[z1e (tr b _ z)];exact z
     · rw[z1e (tr b _ z)];exact z
theorem PE.frame{e:Expr}{t:TE}(h:PE X e t):PE X e (fun σ H Q=>∃ A,OwnL X A H∧t σ (hidL A H) fun v H'=>(∀ a∈A,H' a=none)→Q v (z1l A H H')):=by
 intro pins s σ H Q I ⟨A,hA,z⟩
 refine thn (h _ s σ _ _ (I.hide hA) z) ?_
 rintro u s' ⟨v,H',J,r,q⟩
 obtain⟨hn,J'⟩:=I.unhide hA J
 exact⟨v,_,J',r,q hn⟩
theorem PA.frame{es:List Expr}{t:TA}(h:PA X es t):PA X es (fun σ H Q=>∃ A,OwnL X A H∧t σ (hidL A H) fun v H'=>(∀ a∈A,H' a=none)→Q v (z1l A H H')):=by
 intro pos pins s σ H Q I ⟨A,hA,z⟩
 refine thn (h pos _ s σ _ _ (I.hide hA) z) ?_
 rintro u s' ⟨v,H',J,r,q⟩
 obtain⟨hn,J'⟩:=I.unhide hA J
 exact⟨v,_,J',r,q hn⟩
def hidD(A:List Addr)(H:Hp)(D:Ends):Ends where
 nx:=fun σ H'=>(∀ a∈A,H' a=none)→D.nx σ (z1l A H H')
 rt:=fun v H'=>(∀ a∈A,H' a=none)→D.rt v (z1l A H H')
 bk:=fun σ H'=>(∀ a∈A,H' a=none)→D.bk σ (z1l A H H')
 ct:=fun σ H'=>(∀ a∈A,H' a=none)→D.ct σ (z1l A H H')
theorem PS.frame{st:Stmt}{t:TS}(h:PS X st t):PS X st (fun D σ H=>∃ A,OwnL X A H∧t (hidD A H D) σ (hidL A H)):=by
 intro pins s σ H D I ⟨A,hA,z⟩
 refine thn (h _ s σ _ _ (I.hide hA) z) fun f s' q=>?_
 cases f with
 | next=>obtain⟨σ',H',J,q⟩:=q;obtain⟨hn,J'⟩:=I.unhide hA J;exact⟨_,_,J',q hn⟩
 | brk=>obtain⟨σ',H',J,q⟩:=q;obtain⟨hn,J'⟩:=I.unhide hA J;exact⟨_,_,J',q hn⟩
 | cont=>obtain⟨σ',H',J,q⟩:=q;obtain⟨hn,J'⟩:=I.unhide hA J;exact⟨_,_,J',q hn⟩
 | ret u=>obtain⟨v,σ',H',J,r,q⟩:=q;obtain⟨hn,J'⟩:=I.unhide hA J;exact⟨_,_,_,J',r,q hn⟩
theorem PI.frame{tg e:Expr}{t:TI}(h:PI X tg e t):PI X tg e (fun σ H R=>∃ A,OwnL X A H∧t σ (hidL A H) fun J H'=>(∀ a∈A,H' a=none)→R J (z1l A H H')):=by
 intro pins s σ H R I ⟨A,hA,z⟩
 refine thn (h _ s σ _ _ (I.hide hA) z) fun v s1 q=>thn q ?_
 rintro itv s2 ⟨it,fp,tn,J,H',e,I2,T,st,hf,r⟩
 obtain⟨hn,I3⟩:=I.unhide hA I2
 refine⟨it,fp,tn,J,_,e,I3,T,st,fun b hb=>?_,r hn⟩
 obtain⟨f1,f2,f3,f4,f5,f6⟩:=hf b hb
 have hbA:b ∉ A:=fun ha=>by
  obtain⟨⟨vs,q⟩,_⟩:=hA b ha
  obtain⟨_,its,n,_,e⟩:=I.hok _ _ q
  exact f6 _ (List.mem_append_right _ (List.mem_append_right _ (zbi ha e))) rfl
 refine⟨by rw[z1e hbA];exact f1,f2,f3,f4,f5,fun p hp=>f6 p ?_⟩
 rw[←List.append_assoc];exact List.mem_append_left _ hp
end
end L2

end
section
set_option Elab.async false
set_option linter.all false
set_option maxRecDepth 100000
namespace L2
open PySem PySem.Spec PyProof.Rows
inductive Dt where
 | non|bl (b:Bool)|int (i:Int)|str (x:Str)|lst (xs:List Dt)|tup (xs:List Dt)|scr (ns:List Int)
def emp:Hp:=fun _=>none
theorem z9y{A C:List Addr}{H:Hp}:hidL A (hidL C H)=hidL C (hidL A H):=funext fun b=>by
 unfold hidL
 by_cases p:b∈A<;>by_cases q:b∈C<;>simp[p,q]
theorem z29{A:List Addr}{H H':Hp}(h:Same H H'):Same (hidL A H) (hidL A H'):=fun b o e=>by
 obtain⟨q1,q2⟩:=z4E e
 rw[z0r q1];exact h b o q2
theorem z42{A B:List Addr}{H:Hp}(h:∀ a∈B,a∈A):Same (hidL A H) (hidL B H):=fun b o e=>by
 obtain⟨q1,q2⟩:=z4E e
 rw[z0r fun z=>q1 (h b z)];exact q2
theorem Same.seqT{K:PySem.W.Frag}{H H':Hp}{a:Addr}{xs:List V}(e:Same H H')(h:SqT K H a xs):SqT K H' a xs:=by
 rcases h with(h|⟨o,h⟩)|h
 · exact .inl (.inl (e _ _ h))
 · exact .inl (.inr ⟨o,e _ _ h⟩)
 · exact .inr h
theorem Same.emp{H:Hp}:Same emp H:=fun _ _ e=>by cases e
mutual
def Rp(K:PySem.W.Frag)(B:Hp):Dt→Hp→V→Prop
 | .non,_,v=>v = .non
 | .bl b,_,v=>v = .bl b
 | .int i,_,v=>v = .int i
 | .str x,_,v=>v = .str x
 | .lst ds,H,v=>∃ a vs,v = .ref a∧B a=none∧H a=some (.lst vs)∧Rps K B ds (hidL [a] H) vs
 | .tup ds,H,v=>∃ a vs,v = .ref a∧SqT K H a vs∧Rps K B ds H vs
 | .scr ns,H,v=>∃ a,v = .ref a∧B a=none∧SqL K H a (ns.map V.int)
def Rps(K:PySem.W.Frag)(B:Hp):List Dt→Hp→List V→Prop
 | [],_,vs=>vs=[]
 | d::ds,H,vs=>∃ v r,vs=v::r∧Rp K B d H v∧Rps K B ds H r
end
section
variable {K:PySem.W.Frag}{B B' H H':Hp}
theorem Rp.int_{i:Int}{v:V}:Rp K B (.int i) H v↔v = .int i:=by unfold Rp;exact Iff.rfl
theorem Rp.bl_{b:Bool}{v:V}:Rp K B (.bl b) H v↔v = .bl b:=by unfold Rp;exact Iff.rfl
theorem Rp.non_{v:V}:Rp K B .non H v↔v = .non:=by unfold Rp;exact Iff.rfl
theorem Rp.str_{x:Str}{v:V}:Rp K B (.str x) H v↔v = .str x:=by unfold Rp;exact Iff.rfl
theorem Rp.lst_{ds:List Dt}{v:V}:Rp K B (.lst ds) H v↔∃ a vs,v = .ref a∧B a=none∧H a=some (.lst vs)∧Rps K B ds (hidL [a] H) vs:=by rw[Rp]
theorem Rp.tup_{ds:List Dt}{v:V}:Rp K B (.tup ds) H v↔∃ a vs,v = .ref a∧SqT K H a vs∧Rps K B ds H vs:=by rw[Rp]
theorem Rp.scr_{ns:List Int}{v:V}:Rp K B (.scr ns) H v↔∃ a,v = .ref a∧B a=none∧SqL K H a (ns.map V.int):=by rw[Rp]
theorem Rps.nil_{vs:List V}:Rps K B [] H vs↔vs=[]:=by rw[Rps]
theorem Rps.cons_{d:Dt}{ds:List Dt}{vs:List V}:Rps K B (d::ds) H vs↔∃ v r,vs=v::r∧Rp K B d H v∧Rps K B ds H r:=by rw[Rps]
mutual
theorem Rp.mono:∀(d:Dt) {H H':Hp} {v:V},Same H H'→Rp K B d H v→Rp K B d H' v
 | .non,_,_,v,e,h=>by unfold Rp at h ⊢;exact h
 | .bl b,_,_,v,e,h=>by unfold Rp at h ⊢;exact h
 | .int i,_,_,v,e,h=>by unfold Rp at h ⊢;exact h
 | .str x,_,_,v,e,h=>by unfold Rp at h ⊢;exact h
 | .lst ds,_,_,v,e,h=>by
  unfold Rp at h ⊢
  obtain⟨a,vs,rfl,h0,h1,h2⟩:=h
  exact⟨a,vs,rfl,h0,e _ _ h1,Rps.mono ds (z29 e) h2⟩
 | .tup ds,_,_,v,e,h=>by
  unfold Rp at h ⊢
  obtain⟨a,vs,rfl,h1,h2⟩:=h
  exact⟨a,vs,rfl,e.seqT h1,Rps.mono ds e h2⟩
 | .scr ns,_,_,v,e,h=>by
  unfold Rp at h ⊢
  obtain⟨a,rfl,h0,h1⟩:=h
  exact⟨a,rfl,h0,e.seq h1⟩
theorem Rps.mono:∀(ds:List Dt) {H H':Hp} {vs:List V},Same H H'→Rps K B ds H vs→Rps K B ds H' vs
 | [],_,_,vs,e,h=>by unfold Rps at h ⊢;exact h
 | d::ds,_,_,vs,e,h=>by
  unfold Rps at h ⊢
  obtain⟨v,r,rfl,h1,h2⟩:=h
  exact⟨v,r,rfl,Rp.mono d e h1,Rps.mono ds e h2⟩
end
mutual
theorem Rp.anti(e:Same B' B):∀(d:Dt) {H:Hp} {v:V},Rp K B d H v→Rp K B' d H v
 | .non,_,v,h=>by unfold Rp at h ⊢;exact h
 | .bl b,_,v,h=>by unfold Rp at h ⊢;exact h
 | .int i,_,v,h=>by unfold Rp at h ⊢;exact h
 | .str x,_,v,h=>by unfold Rp at h ⊢;exact h
 | .lst ds,_,v,h=>by
  unfold Rp at h ⊢
  obtain⟨a,vs,rfl,h0,h1,h2⟩:=h
  exact⟨a,vs,rfl,e.free h0,h1,Rps.anti e ds h2⟩
 | .tup ds,_,v,h=>by
  unfold Rp at h ⊢
  obtain⟨a,vs,rfl,h1,h2⟩:=h
  exact⟨a,vs,rfl,h1,Rps.anti e ds h2⟩
 | .scr ns,_,v,h=>by
  unfold Rp at h ⊢
  obtain⟨a,rfl,h0,h1⟩:=h
  exact⟨a,rfl,e.free h0,h1⟩
theorem Rps.anti(e:Same B' B):∀(ds:List Dt) {H:Hp} {vs:List V},Rps K B ds H vs→Rps K B' ds H vs
 | [],_,vs,h=>by unfold Rps at h ⊢;exact h
 | d::ds,_,vs,h=>by
  unfold Rps at h ⊢
  obtain⟨v,r,rfl,h1,h2⟩:=h
  exact⟨v,r,rfl,Rp.anti e d h1,Rps.anti e ds h2⟩
end
theorem SqT.hid{A:List Addr}{a:Addr}{xs:List V}(hA:∀ b∈A,∀ o,H b=some o→∃ vs,o = .lst vs)(h:SqT K H a xs):SqT K (hidL A H) a xs:=by
 rcases h with(h|⟨o,h⟩)|h
 · refine .inl (.inl ?_)
   rw[z0r fun z=>by obtain⟨vs,e⟩:=hA a z _ h;cases e];exact h
 · refine .inl (.inr ⟨o,?_⟩)
   rw[z0r fun z=>by obtain⟨vs,e⟩:=hA a z _ h;cases e];exact h
 · exact .inr h
theorem SqL.hid{A:List Addr}{a:Addr}{xs:List V}(hA:a ∉ A)(h:SqL K H a xs):SqL K (hidL A H) a xs:=by
 rcases h with(h|⟨o,h⟩)|h
 · exact .inl (.inl (by rw[z0r hA];exact h))
 · exact .inl (.inr ⟨o,by rw[z0r hA];exact h⟩)
 · exact .inr h
mutual
theorem Rp.hid{A:List Addr}(hB:∀ b∈A,B b≠none):∀(d:Dt) {H:Hp} {v:V},(∀ b∈A,∀ o,H b=some o→∃ vs,o = .lst vs)→Rp K B d H v→Rp K B d (hidL A H) v
 | .non,_,v,_,h=>by unfold Rp at h ⊢;exact h
 | .bl b,_,v,_,h=>by unfold Rp at h ⊢;exact h
 | .int i,_,v,_,h=>by unfold Rp at h ⊢;exact h
 | .str x,_,v,_,h=>by unfold Rp at h ⊢;exact h
 | .lst ds,H,v,hA,h=>by
  unfold Rp at h ⊢
  obtain⟨a,vs,rfl,h0,h1,h2⟩:=h
  refine⟨a,vs,rfl,h0,by rw[z0r fun z=>hB a z h0];exact h1,?_⟩
  rw[z9y]
  exact Rps.hid hB ds (fun b hb o e=>hA b hb o (z4E e).2) h2
 | .tup ds,H,v,hA,h=>by
  unfold Rp at h ⊢
  obtain⟨a,vs,rfl,h1,h2⟩:=h
  exact⟨a,vs,rfl,h1.hid hA,Rps.hid hB ds hA h2⟩
 | .scr ns,H,v,hA,h=>by
  unfold Rp at h ⊢
  obtain⟨a,rfl,h0,h1⟩:=h
  exact⟨a,rfl,h0,h1.hid fun z=>hB a z h0⟩
theorem Rps.hid{A:List Addr}(hB:∀ b∈A,B b≠none):∀(ds:List Dt) {H:Hp} {vs:List V},(∀ b∈A,∀ o,H b=some o→∃ vs,o = .lst vs)→Rps K B ds H vs→Rps K B ds (hidL A H) vs
 | [],_,vs,_,h=>by unfold Rps at h ⊢;exact h
 | d::ds,_,vs,hA,h=>by
  unfold Rps at h ⊢
  obtain⟨v,r,rfl,h1,h2⟩:=h
  exact⟨v,r,rfl,Rp.hid hB d hA h1,Rps.hid hB ds hA h2⟩
end
end
mutual
def Dt.flat:Dt→Bool
 | .lst _=>false
 | .scr _=>false
 | .tup ds=>z1z ds
 | _=>true
def z1z:List Dt→Bool
 | []=>true
 | d::ds=>d.flat&&z1z ds
end
section
variable {K:PySem.W.Frag}{B B' H H':Hp}
mutual
theorem Rp.flat:∀(d:Dt) {H:Hp} {v:V},d.flat=true→Rp K B d H v→Rp K B' d H v
 | .non,_,v,_,h=>by unfold Rp at h ⊢;exact h
 | .bl b,_,v,_,h=>by unfold Rp at h ⊢;exact h
 | .int i,_,v,_,h=>by unfold Rp at h ⊢;exact h
 | .str x,_,v,_,h=>by unfold Rp at h ⊢;exact h
 | .lst ds,_,v,f,h=>by unfold Dt.flat at f;cases f
 | .tup ds,_,v,f,h=>by
  unfold Dt.flat at f
  unfold Rp at h ⊢
  obtain⟨a,vs,rfl,h1,h2⟩:=h
  exact⟨a,vs,rfl,h1,Rps.flat ds f h2⟩
 | .scr ns,_,v,f,h=>by unfold Dt.flat at f;cases f
theorem Rps.flat:∀(ds:List Dt) {H:Hp} {vs:List V},z1z ds=true→Rps K B ds H vs→Rps K B' ds H vs
 | [],_,vs,_,h=>by unfold Rps at h ⊢;exact h
 | d::ds,_,vs,f,h=>by
  unfold z1z at f
  rw[Bool.and_eq_true]at f
  unfold Rps at h ⊢
  obtain⟨v,r,rfl,h1,h2⟩:=h
  exact⟨v,r,rfl,Rp.flat d f.1 h1,Rps.flat ds f.2 h2⟩
end
theorem Rps.length:∀{ds:List Dt} {vs:List V},Rps K B ds H vs→vs.length=ds.length
 | [],vs,h=>by rw[Rps.nil_.mp h];rfl
 | d::ds,vs,h=>by
  obtain⟨v,r,rfl,_,h2⟩:=Rps.cons_.mp h
  rw[List.length_cons,List.length_cons,Rps.length h2]
theorem Rps.get:∀{ds:List Dt} {vs:List V} {i:Nat} {d:Dt},Rps K B ds H vs→ds[i]?=some d→∃ v,vs[i]?=some v∧Rp K B d H v
 | [],vs,i,d,_,e=>by simp at e
 | c::ds,vs,0,d,h,e=>by
  obtain⟨v,r,rfl,h1,_⟩:=Rps.cons_.mp h
  simp at e;subst e
  exact⟨v,rfl,h1⟩
 | c::ds,vs,i+1,d,h,e=>by
  obtain⟨v,r,rfl,_,h2⟩:=Rps.cons_.mp h
  have e:ds[i]?=some d:=by simpa using e
  obtain⟨u,q1,q2⟩:=Rps.get h2 e
  exact⟨u,by simpa using q1,q2⟩
theorem Rps.append:∀{ds ds':List Dt} {vs vs':List V},Rps K B ds H vs→Rps K B ds' H vs'→Rps K B (ds++ds') H (vs++vs')
 | [],ds',vs,vs',h,h'=>by rw[Rps.nil_.mp h];exact h'
 | d::ds,ds',vs,vs',h,h'=>by
  obtain⟨v,r,rfl,h1,h2⟩:=Rps.cons_.mp h
  exact Rps.cons_.mpr ⟨v,r++vs',rfl,h1,Rps.append h2 h'⟩
theorem Rps.one{d:Dt}{v:V}(h:Rp K B d H v):Rps K B [d] H [v]:=Rps.cons_.mpr ⟨v,[],rfl,h,Rps.nil_.mpr rfl⟩
theorem Rps.take:∀{ds:List Dt} {vs:List V} (n:Nat),Rps K B ds H vs→Rps K B (ds.take n) H (vs.take n)
 | ds,vs,0,_=>by rw[List.take_zero,List.take_zero];exact Rps.nil_.mpr rfl
 | [],vs,n+1,h=>by rw[Rps.nil_.mp h];exact Rps.nil_.mpr rfl
 | d::ds,vs,n+1,h=>by
  obtain⟨v,r,rfl,h1,h2⟩:=Rps.cons_.mp h
  exact Rps.cons_.mpr ⟨v,r.take n,rfl,h1,Rps.take n h2⟩
theorem Rps.drop:∀{ds:List Dt} {vs:List V} (n:Nat),Rps K B ds H vs→Rps K B (ds.drop n) H (vs.drop n)
 | ds,vs,0,h=>h
 | [],vs,n+1,h=>by rw[Rps.nil_.mp h];exact Rps.nil_.mpr rfl
 | d::ds,vs,n+1,h=>by
  obtain⟨v,r,rfl,h1,h2⟩:=Rps.cons_.mp h
  exact Rps.drop n h2
theorem Rps.set:∀{ds:List Dt} {vs:List V} (i:Nat) {d:Dt} {v:V},Rps K B ds H vs→Rp K B d H v→Rps K B (ds.set i d) H (vs.set i v)
 | [],vs,i,d,v,h,_=>by rw[Rps.nil_.mp h];exact Rps.nil_.mpr rfl
 | c::ds,vs,0,d,v,h,q=>by
  obtain⟨u,r,rfl,h1,h2⟩:=Rps.cons_.mp h
  exact Rps.cons_.mpr ⟨v,r,rfl,q,h2⟩
 | c::ds,vs,i+1,d,v,h,q=>by
  obtain⟨u,r,rfl,h1,h2⟩:=Rps.cons_.mp h
  exact Rps.cons_.mpr ⟨u,r.set i v,rfl,h1,Rps.set i h2 q⟩
theorem Rps.reverse:∀{ds:List Dt} {vs:List V},Rps K B ds H vs→Rps K B ds.reverse H vs.reverse
 | [],vs,h=>by rw[Rps.nil_.mp h];exact Rps.nil_.mpr rfl
 | d::ds,vs,h=>by
  obtain⟨v,r,rfl,h1,h2⟩:=Rps.cons_.mp h
  rw[List.reverse_cons,List.reverse_cons]
  exact Rps.append (Rps.reverse h2) (Rps.one h1)
theorem zdw{p:Addr}{o:HO}(h:H p=none):hidL [p] (upd H p o)=H:=funext fun b=>by
 by_cases q:b=p
 · subst q;rw[z2R (by simp),h]
 · rw[z0r (by simpa using q),z0x q]
theorem z1m{p:Addr}{o:HO}(h:H p=none):Same H (upd H p o):=fun b u e=>by rw[z0x (z2z e h)];exact e
theorem Rp.new{ds:List Dt}{vs:List V}{p:Addr}(hp:H p=none)(hB:B p=none)(r:Rps K B ds H vs):Rp K B (.lst ds) (upd H p (.lst vs)) (.ref p) :=
 Rp.lst_.mpr ⟨p,vs,rfl,hB,z13,by rw[zdw hp];exact r⟩
end
inductive Fl where
 | sh|tn|fr|nw
def Fl.isNw:Fl→Bool
 | .nw=>true
 | _=>false
def Fl.isFr:Fl→Bool
 | .nw=>true
 | .fr=>true
 | _=>false
abbrev Dv:=Fl×Dt
def nrm(f:Fl)(d:Dt):Dv:=(if d.flat then .nw else f,d)
structure Ky where
 K:PySem.W.Frag
 H₀:Hp
abbrev Cx.ky(X:Cx):Ky:=⟨X.K,X.H₀⟩
def RpF(X:Ky)(H:Hp)(f:Fl)(d:Dt)(H':Hp)(v:V):Prop:=match f with
 | .sh=>Rp X.K emp d H' v
 | .tn=>Rp X.K emp d H' v∧(∃ ds,d = .lst ds)∧∀ a,v = .ref a→H a=none
 | .fr=>Rp X.K X.H₀ d H' v
 | .nw=>Rp X.K H d H' v
section
variable {X:Ky}{H H' H1:Hp}{f:Fl}{d:Dt}{v:V}
theorem RpF.sh(h:RpF X H f d H' v):Rp X.K emp d H' v:=by
 cases f with
 | sh=>exact h
 | tn=>exact h.1
 | fr=>exact Rp.anti Same.emp d h
 | nw=>exact Rp.anti Same.emp d h
theorem RpF.fr(h0:Same X.H₀ H)(e:f.isFr=true)(h:RpF X H f d H' v):Rp X.K X.H₀ d H' v:=by
 cases f with
 | sh=>cases e
 | tn=>cases e
 | fr=>exact h
 | nw=>exact Rp.anti h0 d h
theorem RpF.mono(h:RpF X H f d H' v)(s:Same H' H1):RpF X H f d H1 v:=by
 cases f with
 | sh=>exact Rp.mono d s h
 | tn=>exact⟨Rp.mono d s h.1,h.2⟩
 | fr=>exact Rp.mono d s h
 | nw=>exact Rp.mono d s h
theorem RpF.early(s:Same H H1)(h:RpF X H1 f d H' v):RpF X H f d H' v:=by
 cases f with
 | sh=>exact h
 | tn=>exact⟨h.1,h.2.1,fun a e=>s.free (h.2.2 a e)⟩
 | fr=>exact h
 | nw=>exact Rp.anti s d h
theorem RpF.nrm(h:RpF X H f d H' v):RpF X H (nrm f d).1 d H' v:=by
 unfold L2.nrm
 by_cases q:d.flat=true
 · rw[if_pos q];exact Rp.flat d q h.sh
 · rw[if_neg q];exact h
theorem RpF.scal(q:d.flat=true)(h:Rp X.K emp d H' v):RpF X H .nw d H' v:=Rp.flat d q h
end
inductive Cell where
 | no|sh (f:Bool) (d:Dt)|ow (f:Bool) (ds:List Dt)
abbrev Rho:=List Cell
def flOf(f:Bool):Fl:=if f then .fr else .sh
def Cell.val:Cell→Option Dv
 | .no=>none
 | .sh f d=>some (nrm (flOf f) d)
 | .ow f ds=>some (flOf f,.lst ds)
def zbj(ρ:Rho)(i:Nat):Option Dv:=(ρ[i]?).bind Cell.val
def bsOf(X:Ky)(f:Bool):Hp:=if f then X.H₀ else emp
def RpC(X:Ky)(H:Hp):Cell→Option V→Prop
 | .no,_=>True
 | .sh f d,o=>∃ v,o=some v∧Rp X.K (bsOf X f) d H v
 | .ow f ds,o=>∃ v,o=some v∧Rp X.K (bsOf X f) (.lst ds) H v
structure RepS(X:Ky)(H:Hp)(ρ:Rho)(σ:St):Prop where
 len:ρ.length=σ.length
 base:Same X.H₀ H
 at_:∀(i:Nat) (c:Cell),ρ[i]?=some c→∃ o,σ[i]?=some o∧RpC X H c o
section
variable {X:Ky}{H H':Hp}{ρ:Rho}{σ:St}
theorem RpC.mono(e:Same H H'){c:Cell}{o:Option V}(h:RpC X H c o):RpC X H' c o:=by
 cases c with
 | no=>trivial
 | sh f d=>obtain⟨v,q,r⟩:=h;exact⟨v,q,Rp.mono d e r⟩
 | ow f ds=>obtain⟨v,q,r⟩:=h;exact⟨v,q,Rp.mono _ e r⟩
theorem RepS.mono(h:RepS X H ρ σ)(e:Same H H'):RepS X H' ρ σ:=⟨h.len,h.base.trans e,fun i c q=>by obtain⟨o,q1,q2⟩:=h.at_ i c q;exact⟨o,q1,q2.mono e⟩⟩
theorem zlM{f:Bool}{d:Dt}{v:V}(h:Rp X.K (bsOf X f) d H v):RpF X H (flOf f) d H v:=by
 cases f with
 | false=>exact h
 | true=>exact h
theorem RepS.val(h:RepS X H ρ σ){i:Nat}{f:Fl}{d:Dt}(e:zbj ρ i=some (f,d)):∃ v,σ[i]?=some (some v)∧RpF X H f d H v:=by
 unfold zbj at e
 cases q:ρ[i]? with
 | none=>rw[q]at e;cases e
 | some c =>
  rw[q]at e
  obtain⟨o,q1,q2⟩:=h.at_ i c q
  cases c with
  | no=>cases e
  | sh f' d' =>
   obtain⟨v,rfl,r⟩:=q2
   have e:nrm (flOf f') d'=(f,d):=Option.some.inj e
   have r':=(zlM r).nrm
   refine⟨v,q1,?_⟩
   have e1:d'=d:=congrArg Prod.snd e
   subst e1
   rw[e]at r'
   exact r'
  | ow f' ds =>
   obtain⟨v,rfl,r⟩:=q2
   cases e
   exact⟨v,q1,zlM r⟩
end
end L2

end
section
set_option Elab.async false
set_option linter.all false
set_option maxRecDepth 100000
namespace L2
open PySem PySem.Spec PyProof.Rows
theorem PE.imp{X:Cx}{e:Expr}{t t':TE}(h:PE X e t)(q:∀ σ H Q,t' σ H Q→t σ H Q):PE X e t':=fun pins s σ H Q I z=>h pins s σ H Q I (q σ H Q z)
theorem PT.imp{X:Cx}{e:Expr}{t t':TT}(h:PT X e t)(q:∀ σ H Q,t' σ H Q→t σ H Q):PT X e t':=fun pins s σ H Q I z=>h pins s σ H Q I (q σ H Q z)
theorem PW.imp{X:Cx}{e:Expr}{t t':TT}(h:PW X e t)(q:∀ σ H Q,t' σ H Q→t σ H Q):PW X e t':=fun whole pins s σ H Q I z=>h whole pins s σ H Q I (q σ H Q z)
theorem PA.imp{X:Cx}{es:List Expr}{t t':TA}(h:PA X es t)(q:∀ σ H Q,t' σ H Q→t σ H Q):PA X es t':=fun pos pins s σ H Q I z=>h pos pins s σ H Q I (q σ H Q z)
theorem z05{α β:Type}{o:Option α}{f:α→Option β}{b:β}(h:o.bind f=some b):∃ a,o=some a∧f a=some b:=by
 cases o with
 | none=>cases h
 | some a=>exact⟨a,rfl,h⟩
section
variable {X:Ky}{H H':Hp}
theorem RpF.i_{i:Int}:RpF X H .nw (.int i) H' (.int i):=(Rp.int_ (K:=X.K) (B:=H) (H:=H')).mpr rfl
theorem RpF.b_{i:Bool}:RpF X H .nw (.bl i) H' (.bl i):=(Rp.bl_ (K:=X.K) (B:=H) (H:=H')).mpr rfl
theorem RpF.s_{i:Str}:RpF X H .nw (.str i) H' (.str i):=(Rp.str_ (K:=X.K) (B:=H) (H:=H')).mpr rfl
theorem RpF.n_:RpF X H .nw .non H' .non:=(Rp.non_ (K:=X.K) (B:=H) (H:=H')).mpr rfl
end
abbrev FE:=Rho→Option Dv
abbrev FT:=Rho→Option Bool
abbrev FA:=Rho→Option (List Dv)
def upK(Y:Ky)(F:FE):TE:=fun σ H Q=>∃ ρ f d,RepS Y H ρ σ∧F ρ=some (f,d)∧∀ v H',Same H H'→RpF Y H f d H' v→Q v H'
abbrev upF(X:Cx)(F:FE):TE:=upK X.ky F
def PF(X:Cx)(e:Expr)(F:FE):Prop:=PE X e (upF X F)
def upBK(Y:Ky)(F:FT):TT:=fun σ H Q=>∃ ρ b,RepS Y H ρ σ∧F ρ=some b∧∀ H',Same H H'→Q b H'
abbrev upB(X:Cx)(F:FT):TT:=upBK X.ky F
def PFT(X:Cx)(e:Expr)(F:FT):Prop:=PT X e (upB X F)
def PFW(X:Cx)(e:Expr)(F:FT):Prop:=PW X e (upB X F)
theorem PFW.pt{X:Cx}{e:Expr}{F:FT}(h:PFW X e F):PFT X e F:=PW.pt h
section
variable {X:Cx}{a b c e:Expr}{Fa Fb Fc:FE}{pos:Pos}
def fN(i:Nat):FE:=fun ρ=>zbj ρ i
theorem z00(i:Nat){x:Str}{pos:Pos}(hN:X.N[i]?=some x:=by rfl)(hv:Vis X.env.scope x:=by first|exact Or.inl rfl|exact Or.inr (Or.inl rfl)|exact Or.inr (Or.inr rfl))(hd:(x==("__debug__" : Str))=false:=by decide)
  (hcd:(x==("__classdict__" : Str))=false:=by decide):PF X (.Name x pos) (fN i) :=
 (zcz hN hv hd hcd).imp fun σ H Q ⟨ρ,f,d,rs,e,k⟩=>by
  obtain⟨v,e1,e2⟩:=rs.val e
  exact⟨v,e1,k v H (Same.refl H) e2⟩
def fC(d:Dt):FE:=fun _=>some (.nw,d)
theorem z09{i:Int}{j:Nat}:PF X (.Constant (.int i) j pos) (fC (.int i)):=pe_int.imp (by rintro σ H Q ⟨ρ,f,d,rs,e,k⟩;cases e;exact k _ H (Same.refl H) RpF.i_)
theorem p_bl{v:Bool}{j:Nat}:PF X (.Constant (.bool v) j pos) (fC (.bl v)):=pe_bl.imp (by rintro σ H Q ⟨ρ,f,d,rs,e,k⟩;cases e;exact k _ H (Same.refl H) RpF.b_)
theorem zlN{j:Nat}:PF X (.Constant .none j pos) (fC .non):=pe_non.imp (by rintro σ H Q ⟨ρ,f,d,rs,e,k⟩;cases e;exact k _ H (Same.refl H) RpF.n_)
theorem zjC{x:Str}{j:Nat}:PF X (.Constant (.str x) j pos) (fC (.str x)):=pe_str.imp (by rintro σ H Q ⟨ρ,f,d,rs,e,k⟩;cases e;exact k _ H (Same.refl H) RpF.s_)
theorem zlO{x:Str}{i:Int}{t:Tok}(hg:Gl X x)(hm:X.mg x=some (.int i t))(hd:(x==("__debug__" : Str))=false:=by decide):PF X (.Name x pos) (fC (.int i)) :=
 (zjv (v:=V.int i) hg hm ⟨t,rfl⟩ hd).imp (by rintro σ H Q ⟨ρ,f,d,rs,e,k⟩;cases e;exact k _ H (Same.refl H) RpF.i_)
abbrev FO:=Dt→Dt→Option Dv
def OpF(X:Cx)(f:Value→Value→Sem Value)(r:FO):Prop :=
 OpR X f (fun x y H Q=>∃ dx dy f d,Rp X.K emp dx H x∧Rp X.K emp dy H y∧r dx dy=some (f,d)∧∀ v H',Same H H'→RpF X.ky H f d H' v→Q v H')
def fOp(r:FO)(Fa Fb:FE):FE:=fun ρ=>(Fa ρ).bind fun x=>(Fb ρ).bind fun y=>r x.2 y.2
theorem zf0{r:FO}{σ:St}{H:Hp}{Q:VK}(h:upF X (fOp r Fa Fb) σ H Q):
  upF X Fa σ H fun x H1=>upF X Fb σ H1 fun y H2=>∃ dx dy f d,Rp X.K emp dx H2 x∧Rp X.K emp dy H2 y∧r dx dy=some (f,d)∧∀ v H',Same H2 H'→RpF X.ky H2 f d H' v→Q v H':=by
 obtain⟨ρ,f,d,rs,e,k⟩:=h
 obtain⟨⟨fa,da⟩,ea,e⟩:=z05 e
 obtain⟨⟨fb,db⟩,eb,e⟩:=z05 e
 exact⟨ρ,fa,da,rs,ea,fun v H1 s1 r1=>⟨ρ,fb,db,rs.mono s1,eb,fun u H2 s2 r2=>⟨da,db,f,d,Rp.mono _ s2 r1.sh,r2.sh,e,fun w H' s' r'=>k w H' (s1.trans (s2.trans s')) (r'.early (s1.trans s2))⟩⟩⟩
theorem p_op{op:Operator}{r:FO}(ho:OpF X (binaryOp op) r)(ha:PF X a Fa)(hb:PF X b Fb):PF X (.BinOp a op b pos) (fOp r Fa Fb):=(pe_op ho ha hb).imp fun σ H Q h=>zf0 h
theorem zdx{op:CmpOp}{r:FO}(ho:OpF X (compareOp op) r)(ha:PF X a Fa)(hb:PF X b Fb)(hm:behindInMarks op b=false):PF X (.Compare a [op] [b] pos) (fOp r Fa Fb):=(zpB ho ha hb hm).imp fun σ H Q h=>zf0 h
def rII(C:Int→Int→Bool)(g:Int→Int→Dt):FO
 | .int i,.int j=>if C i j then some (.nw,g i j) else none
 | _,_=>none
theorem zcF{f:Value→Value→Sem Value}{P:Int→Int→Prop}{C:Int→Int→Bool}{g:Int→Int→V}{g':Int→Int→Dt}(ho:OpR X f (rI P g))(hP:∀ i j,C i j=true→P i j)(hf:∀ i j,(g' i j).flat=true)(hg:∀ i j H,Rp X.K emp (g' i j) H (g i j)):OpF X f (rII C g') :=
 fun pins s σ H x y v u Q I r1 r2 ⟨d1,d2,f,d,q1,q2,e,k⟩=>by
  unfold rII at e
  split at e
  · rename_i i j
    split at e
    · rename_i hc
      cases e
      rw[Rp.int_]at q1 q2
      exact ho pins s σ H x y v u Q I r1 r2 ⟨i,j,q1,q2,hP i j hc,k _ H (Same.refl H) (RpF.scal (hf i j) (hg i j H))⟩
    · cases e
  · cases e
theorem z5M{f:Value→Value→Sem Value}{g:Int→Int→V}{g':Int→Int→Dt}(ho:OpR X f (rI0 g))(hf:∀ i j,(g' i j).flat=true)(hg:∀ i j H,Rp X.K emp (g' i j) H (g i j)):OpF X f (rII (fun _ _=>true) g') :=
 fun pins s σ H x y v u Q I r1 r2 ⟨d1,d2,f,d,q1,q2,e,k⟩=>by
  unfold rII at e
  split at e
  · rename_i i j
    rw[if_pos rfl]at e
    cases e
    rw[Rp.int_]at q1 q2
    exact ho pins s σ H x y v u Q I r1 r2 ⟨i,j,q1,q2,k _ H (Same.refl H) (RpF.scal (hf i j) (hg i j H))⟩
  · cases e
def OpF.or{f:Value→Value→Sem Value}{r r':FO}(h:OpF X f r)(h':OpF X f r'):OpF X f (fun x y=>(r x y).orElse fun _=>r' x y) :=
 fun pins s σ H x y v u Q I r1 r2 hZ=>hZ.elim fun d1 hZ=>hZ.elim fun d2 hZ=>hZ.elim fun f hZ=>hZ.elim fun d hZ=>hZ.elim fun q1 hZ=>hZ.elim fun q2 hZ=>hZ.elim fun e k=>by
  replace e:((r d1 d2).orElse fun _=>r' d1 d2)=some (f,d):=e
  cases q:r d1 d2 with
  | some z =>
   rw[q]at e
   cases e
   exact h pins s σ H x y v u Q I r1 r2 ⟨d1,d2,_,_,q1,q2,q,k⟩
  | none =>
   rw[q]at e
   exact h' pins s σ H x y v u Q I r1 r2 ⟨d1,d2,_,_,q1,q2,e,k⟩
def z18(i j:Int):Bool:=decide (Builtin.Int.intBits i+Builtin.Int.intBits j≤134217728)||(decide (i.natAbs<2 ^ 64)||decide (j.natAbs<2 ^ 64))
def z2i(_ j:Int):Bool:=decide (j≠0)&&decide (j.natAbs.log2<9000)
def z3I(_ j:Int):Bool:=decide (j≠0)
def z9z(i j:Int):Bool:=decide (0≤j)&&decide (j≤1000000)&&decide (i.natAbs<2 ^ 64)
theorem zpQ:OpR X (binaryOp .Mult) (rI (fun i j=>z18 i j=true) fun i j => .int (i*j)):=opI fun i j _ _ _ _ _ hc q=>by
 refine mul_int q ?_
 unfold z18 at hc
 rw[Bool.or_eq_true,Bool.or_eq_true]at hc
 rcases hc with hc|hc|hc
 · exact IntMulOk.of_le (Nat.le_refl _) (Nat.le_refl _) (of_decide_eq_true hc)
 · have:=of_decide_eq_true hc
   exact CMul.ok (.inl ⟨by omega,by omega⟩)
 · have:=of_decide_eq_true hc
   exact CMul.ok (.inr ⟨by omega,by omega⟩)
def zlP:FO:=rII (fun _ _=>true) fun i j => .int (i+j)
def z8D:FO:=rII (fun _ _=>true) fun i j => .int (i-j)
def z19:FO:=rII z18 fun i j => .int (i*j)
def z43:FO:=rII z2i fun i j => .int (i.fdiv j)
def z1n:FO:=rII z3I fun i j => .int (i.fmod j)
def zbk:FO:=rII z9z fun i j => .int (i ^ j.toNat)
def opLt:FO:=rII (fun _ _=>true) fun i j => .bl (decide (i<j))
def opLe:FO:=rII (fun _ _=>true) fun i j => .bl (decide (i≤j))
def opGt:FO:=rII (fun _ _=>true) fun i j => .bl (decide (j<i))
def opGe:FO:=rII (fun _ _=>true) fun i j => .bl (decide (j≤i))
theorem o_addI:OpF X (binaryOp .Add) zlP:=z5M op_add (fun _ _=>rfl) fun _ _ _=>Rp.int_.mpr rfl
theorem zlQ:OpF X (binaryOp .Sub) z8D:=z5M op_sub (fun _ _=>rfl) fun _ _ _=>Rp.int_.mpr rfl
theorem z52:OpF X (binaryOp .Mult) z19:=zcF zpQ (fun _ _ h=>h) (fun _ _=>rfl) fun _ _ _=>Rp.int_.mpr rfl
theorem z4F:OpF X (binaryOp .FloorDiv) z43:=zcF zlK (fun i j h=>by unfold z2i at h;rw[Bool.and_eq_true]at h;exact⟨of_decide_eq_true h.1,of_decide_eq_true h.2⟩) (fun _ _=>rfl) fun _ _ _=>Rp.int_.mpr rfl
theorem z2y:OpF X (binaryOp .Mod) z1n:=zcF zpA (fun i j h=>of_decide_eq_true h) (fun _ _=>rfl) fun _ _ _=>Rp.int_.mpr rfl
theorem zlR:OpF X (binaryOp .Pow) zbk:=zcF op_pow (fun i j h=>by unfold z9z at h;rw[Bool.and_eq_true,Bool.and_eq_true]at h;exact⟨of_decide_eq_true h.1.1,of_decide_eq_true h.1.2,of_decide_eq_true h.2⟩) (fun _ _=>rfl) fun _ _ _=>Rp.int_.mpr rfl
theorem o_lt:OpF X (compareOp .Lt) opLt:=z5M op_lt (fun _ _=>rfl) fun _ _ _=>Rp.bl_.mpr rfl
theorem o_le:OpF X (compareOp .LtE) opLe:=z5M op_le (fun _ _=>rfl) fun _ _ _=>Rp.bl_.mpr rfl
theorem o_gt:OpF X (compareOp .Gt) opGt:=z5M op_gt (fun _ _=>rfl) fun _ _ _=>Rp.bl_.mpr rfl
theorem o_ge:OpF X (compareOp .GtE) opGe:=z5M op_ge (fun _ _=>rfl) fun _ _ _=>Rp.bl_.mpr rfl
def lfl(ds:List Dt):Fl:=if z1z ds then .nw else .tn
def newL(ds:List Dt):Dv:=(lfl ds,.lst ds)
theorem z6V{X:Ky}{H:Hp}{ds:List Dt}{vs:List V}{p:Addr}(hp:H p=none)(r:Rps X.K emp ds H vs):RpF X H (lfl ds) (.lst ds) (upd H p (.lst vs)) (.ref p):=by
 unfold lfl
 by_cases q:z1z ds=true
 · rw[if_pos q];exact Rp.new hp hp (Rps.flat ds q r)
 · rw[if_neg q];exact⟨Rp.new hp rfl r,⟨ds,rfl⟩,fun a e=>by cases e;exact hp⟩
def z6W:FO
 | .lst xs,.lst ys=>if xs.length+ys.length≤1000000 then some (newL (xs++ys)) else none
 | _,_=>none
theorem Rp.items{K:PySem.W.Frag}{B H:Hp}{ds:List Dt}{v:V}(h:Rp K B (.lst ds) H v):∃ a vs,v = .ref a∧B a=none∧H a=some (.lst vs)∧Rps K B ds H vs:=by
 obtain⟨a,vs,e,h0,h1,h2⟩:=Rp.lst_.mp h
 exact⟨a,vs,e,h0,h1,Rps.mono _ z0O h2⟩
theorem o_cat:OpF X (binaryOp .Add) z6W:=by
 rintro pins s σ H x y v u Q I r1 r2 ⟨d1,d2,f,d,q1,q2,e,k⟩
 unfold z6W at e
 split at e
 · rename_i xs ys
   split at e
   · rename_i hc
     cases e
     obtain⟨a,vs,rfl,_,ha,ra⟩:=q1.items
     obtain⟨b,ws,rfl,_,hb,rb⟩:=q2.items
     exact op_cat pins s σ H _ _ v u Q I r1 r2 ⟨a,b,vs,ws,rfl,rfl,ha,hb,Nat.le_trans (by rw[ra.length,rb.length];exact hc) (by decide),fun p hp=>k _ _ (z1m hp) (z6V hp (ra.append rb))⟩
   · cases e
 · cases e
def z0y:FO:=fun x y=>(zlP x y).orElse fun _=>z6W x y
theorem z37:OpF X (binaryOp .Add) z0y:=o_addI.or o_cat
def truD:Dt→Option Bool
 | .non=>some false
 | .bl b=>some b
 | .int i=>some (i != 0)
 | .lst ds=>some (!ds.isEmpty)
 | .tup ds=>some (!ds.isEmpty)
 | _=>none
theorem Rps.isEmpty{K:PySem.W.Frag}{B H:Hp}{ds:List Dt}{vs:List V}(h:Rps K B ds H vs):(!vs.isEmpty)=!ds.isEmpty:=by
 have:=h.length
 cases ds<;>cases vs<;>first|rfl|(simp at this)
theorem zpR{H:Hp}{d:Dt}{v:V}{k:Bool}(r:Rp X.K emp d H v)(e:truD d=some k):TruV X.K v H k:=by
 cases d with
 | non=>rw[Rp.non_.mp r];cases e;rfl
 | bl b=>rw[Rp.bl_.mp r];cases e;rfl
 | int i=>rw[Rp.int_.mp r];cases e;rfl
 | str x=>cases e
 | scr x=>cases e
 | lst ds =>
  obtain⟨p,vs,rfl,_,h1,h2⟩:=r.items
  cases e
  exact .inl ⟨vs,SqL.of h1,h2.isEmpty.symm⟩
 | tup ds =>
  obtain⟨p,vs,rfl,h1,h2⟩:=Rp.tup_.mp r
  cases e
  exact .inr (.inl ⟨vs,h1,h2.isEmpty.symm⟩)
def blD:Dt→Option Bool
 | .bl b=>some b
 | _=>none
def z0n(F:FE):FT:=fun ρ=>(F ρ).bind fun x=>blD x.2
def fTru(F:FE):FT:=fun ρ=>(F ρ).bind fun x=>truD x.2
theorem z0W{op:CmpOp}{r:FO}(ho:OpF X (compareOp op) r)(ha:PF X a Fa)(hb:PF X b Fb)(hm:behindInMarks op b=false):PFT X (.Compare a [op] [b] pos) (z0n (fOp r Fa Fb)) :=
 (zpC ho ha hb hm).imp fun σ H Q hZ=>hZ.elim fun ρ hZ=>hZ.elim fun k hZ=>hZ.elim fun rs hZ=>hZ.elim fun e q=>by
  obtain⟨⟨f,d⟩,e1,e2⟩:=z05 e
  refine zf0 ⟨ρ,f,d,rs,e1,fun v H' s r=>?_⟩
  cases d<;>first|cases e2|skip
  exact⟨k,Rp.bl_.mp r.sh,q H' s⟩
theorem z3o(ha:PF X a Fa)(he:∀ whole,isTrue a X.env whole=(do let v ←whole;standAt a.pos;holding [v] (truthy v))):PFT X a (fTru Fa) :=
 (zlz ha he).imp fun σ H Q hZ=>hZ.elim fun ρ hZ=>hZ.elim fun k hZ=>hZ.elim fun rs hZ=>hZ.elim fun e q=>by
  obtain⟨⟨f,d⟩,e1,e2⟩:=z05 e
  exact⟨ρ,f,d,rs,e1,fun v H' s r=>⟨k,zpR r.sh e2,q H' s⟩⟩
def fNot(F:FT):FT:=fun ρ=>(F ρ).map not
theorem z44{F:FT}(ha:PFT X a F):PFT X (.UnaryOp .Not a pos) (fNot F):=(pt_not ha).imp fun σ H Q hZ=>hZ.elim fun ρ hZ=>hZ.elim fun k hZ=>hZ.elim fun rs hZ=>hZ.elim fun e q=>by
 unfold fNot at e
 cases h:F ρ with
 | none=>rw[h]at e;cases e
 | some b=>rw[h]at e;cases e;exact⟨ρ,b,rs,h,q⟩
def fAnd(F G:FT):FT:=fun ρ=>(F ρ).bind fun b=>if b then G ρ else some false
def fOr(F G:FT):FT:=fun ρ=>(F ρ).bind fun b=>if b then some true else G ρ
theorem z8E{F:FT}(ha:PFT X a F):PFW X (.BoolOp .Or [a] pos) F:=pw_or1 ha
theorem w_or{rest:List Expr}{F G:FT}(ha:PFT X a F)(hb:PFW X (.BoolOp .Or (b::rest) pos) G):PFW X (.BoolOp .Or (a::b::rest) pos) (fOr F G) :=
 (pw_or ha hb).imp fun σ H Q hZ=>hZ.elim fun ρ hZ=>hZ.elim fun k hZ=>hZ.elim fun rs hZ=>hZ.elim fun e q=>by
  obtain⟨z,e1,e2⟩:=z05 e
  refine⟨ρ,z,rs,e1,fun H' s=>?_⟩
  dsimp only
  cases z with
  | true=>rw[if_pos rfl]at e2 ⊢;cases e2;exact q H' s
  | false=>rw[if_neg Bool.false_ne_true]at e2 ⊢;exact⟨ρ,k,rs.mono s,e2,fun H'' s'=>q H'' (s.trans s')⟩
def vAnd(F G:FE):FE:=fun ρ=>(z0n F ρ).bind fun b=>if b then G ρ else some (.nw,.bl false)
def vOr(F G:FE):FE:=fun ρ=>(z0n F ρ).bind fun b=>if b then some (.nw,.bl true) else G ρ
def vNot(F:FE):FE:=fun ρ=>(z0n F ρ).map fun b=>(.nw,.bl (!b))
theorem zjD{op}(h:PF X a Fa):PF X (.BoolOp op [a] pos) Fa:=pe_one h
theorem zjE{rest:List Expr}(ha:PF X a Fa)(hb:PF X (.BoolOp .And (b::rest) pos) Fb):PF X (.BoolOp .And (a::b::rest) pos) (vAnd Fa Fb) :=
 (pe_and ha hb).imp fun σ H Q hZ=>hZ.elim fun ρ hZ=>hZ.elim fun f hZ=>hZ.elim fun d hZ=>hZ.elim fun rs hZ=>hZ.elim fun e k=>by
  obtain⟨z,e1,e2⟩:=z05 e
  obtain⟨⟨f1,d1⟩,e3,e4⟩:=z05 e1
  refine⟨ρ,f1,d1,rs,e3,fun v H' s r=>?_⟩
  cases d1<;>first|cases e4|skip
  refine⟨z,Rp.bl_.mp r.sh,?_⟩
  cases z with
  | true=>rw[if_pos rfl]at e2 ⊢;exact⟨ρ,f,d,rs.mono s,e2,fun v H'' s' r=>k v H'' (s.trans s') (r.early s)⟩
  | false=>rw[if_neg Bool.false_ne_true]at e2 ⊢;cases e2;exact k _ H' s RpF.b_
theorem p_not(ha:PF X a Fa):PF X (.UnaryOp .Not a pos) (vNot Fa):=(pe_not ha).imp fun σ H Q hZ=>hZ.elim fun ρ hZ=>hZ.elim fun f hZ=>hZ.elim fun d hZ=>hZ.elim fun rs hZ=>hZ.elim fun e k=>by
 unfold vNot at e
 cases h:z0n Fa ρ with
 | none=>rw[h]at e;cases e
 | some z =>
  rw[h]at e
  cases e
  obtain⟨⟨f1,d1⟩,e3,e4⟩:=z05 h
  refine⟨ρ,f1,d1,rs,e3,fun v H' s r=>?_⟩
  cases d1<;>first|cases e4|skip
  exact⟨z,Rp.bl_.mp r.sh,k _ H' s RpF.b_⟩
def fIf(F:FT)(Fa Fb:FE):FE:=fun ρ=>(F ρ).bind fun b=>if b then Fa ρ else Fb ρ
theorem p_if{F:FT}(hc:PFT X c F)(ha:PF X a Fa)(hb:PF X b Fb):PF X (.IfExp c a b pos) (fIf F Fa Fb) :=
 (zls hc ha hb).imp fun σ H Q hZ=>hZ.elim fun ρ hZ=>hZ.elim fun f hZ=>hZ.elim fun d hZ=>hZ.elim fun rs hZ=>hZ.elim fun e k=>by
  obtain⟨z,e1,e2⟩:=z05 e
  refine⟨ρ,z,rs,e1,fun H' s=>?_⟩
  dsimp only
  cases z with
  | true=>rw[if_pos rfl]at e2 ⊢;exact⟨ρ,f,d,rs.mono s,e2,fun v H'' s' r=>k v H'' (s.trans s') (r.early s)⟩
  | false=>rw[if_neg Bool.false_ne_true]at e2 ⊢;exact⟨ρ,f,d,rs.mono s,e2,fun v H'' s' r=>k v H'' (s.trans s') (r.early s)⟩
def fNeg(F:FE):FE:=fun ρ=>(F ρ).bind fun x=>match x.2 with|.int i=>some (.nw,.int (-i))|_=>none
theorem zbl(ha:PF X a Fa):PF X (.UnaryOp .USub a pos) (fNeg Fa):=(pe_un un_neg ha).imp fun σ H Q ⟨ρ,f,d,rs,e,k⟩=>by
 obtain⟨⟨f1,d1⟩,e1,e2⟩:=z05 e
 refine⟨ρ,f1,d1,rs,e1,fun v H' s r=>?_⟩
 cases d1<;>first|cases e2|skip
 rename_i i
 exact⟨i,Rp.int_.mp r.sh,k _ H' s RpF.i_⟩
def z9A(r r':FO)(Fa Fb Fc:FE):FE:=fun ρ=>(Fa ρ).bind fun x=>(Fb ρ).bind fun y=>(r x.2 y.2).bind fun z=>(blD z.2).bind fun k=>if k then(Fc ρ).bind fun w=>r' y.2 w.2 else some (.nw,.bl false)
theorem zkB{r r':FO}{σ:St}{H:Hp}{Q:VK}(h:upF X (z9A r r' Fa Fb Fc) σ H Q):
  zlx (fun x y H Q=>∃ dx dy f d,Rp X.K emp dx H x∧Rp X.K emp dy H y∧r dx dy=some (f,d)∧∀ v H',Same H H'→RpF X.ky H f d H' v→Q v H') (fun x y H Q=>∃ dx dy f d,Rp X.K emp dx H x∧Rp X.K emp dy H y∧r' dx dy=some (f,d)∧∀ v H',Same H H'→RpF X.ky H f d H' v→Q v H')
   (upF X Fa) (upF X Fb) (upF X Fc) σ H Q:=by
 obtain⟨ρ,f,d,rs,e0,k⟩:=h
 obtain⟨⟨fa,da⟩,ea,e1⟩:=z05 e0
 obtain⟨⟨fb,db⟩,eb,e2⟩:=z05 e1
 obtain⟨⟨fz,dz⟩,ez,e3⟩:=z05 e2
 obtain⟨z,ek,e⟩:=z05 e3
 clear e3 e2 e1 e0
 refine⟨ρ,fa,da,rs,ea,fun v H1 s1 r1=>⟨ρ,fb,db,rs.mono s1,eb,fun u H2 s2 r2=>⟨da,db,fz,dz,Rp.mono _ s2 r1.sh,r2.sh,ez,fun w H3 s3 r3=>?_⟩⟩⟩
 cases dz<;>first|cases ek|skip
 refine⟨z,Rp.bl_.mp r3.sh,?_⟩
 cases z with
 | true =>
  rw[if_pos rfl]at e ⊢
  obtain⟨⟨fc,dc⟩,ec,e⟩:=z05 e
  exact⟨ρ,fc,dc,rs.mono (s1.trans (s2.trans s3)),ec,fun w' H4 s4 r4=>⟨db,dc,f,d,Rp.mono _ (s3.trans s4) r2.sh,r4.sh,e,fun y H' s' r'=>k y H' (s1.trans (s2.trans (s3.trans (s4.trans s')))) (r'.early (s1.trans (s2.trans (s3.trans s4))))⟩⟩
 | false =>
  rw[if_neg Bool.false_ne_true]at e ⊢
  cases e
  exact k _ _ (s1.trans (s2.trans s3)) RpF.b_
theorem zpS{op op':CmpOp}{r r':FO}(ho:OpF X (compareOp op) r)(ho':OpF X (compareOp op') r')(ha:PF X a Fa)(hb:PF X b Fb)(hc:PF X c Fc)
 (hm:lastMarks [op,op'] [b,c]=false:=by with_unfolding_all rfl):PF X (.Compare a [op,op'] [b,c] pos) (z9A r r' Fa Fb Fc):=(zly ho ho' ha hb hc hm).imp fun σ H Q h=>zkB h
def isN:Dt→Bool
 | .non=>true
 | _=>false
def zdy:FO:=fun x y=>match y with|.non=>some (.nw,.bl (isN x))|_=>none
theorem isNon{H:Hp}{d:Dt}{v:V}(r:Rp X.K emp d H v):decide (v=V.non)=isN d:=by
 cases d with
 | non=>rw[Rp.non_.mp r];rfl
 | bl b=>rw[Rp.bl_.mp r];rfl
 | int i=>rw[Rp.int_.mp r];rfl
 | str x=>rw[Rp.str_.mp r];rfl
 | lst ds=>obtain⟨a,_,rfl,_⟩:=Rp.lst_.mp r;rfl
 | tup ds=>obtain⟨a,_,rfl,_⟩:=Rp.tup_.mp r;rfl
 | scr ds=>obtain⟨a,rfl,_⟩:=Rp.scr_.mp r;rfl
theorem o_isN:OpF X (compareOp .Is) zdy:=by
 rintro pins s σ H x y v u Q I r1 r2 ⟨d1,d2,f,d,q1,q2,e,k⟩
 unfold zdy at e
 split at e
 · cases e
   refine op_isN pins s σ H x y v u Q I r1 r2 ⟨Rp.non_.mp q2,?_⟩
   rw[isNon q1]
   exact k _ H (Same.refl H) RpF.b_
 · cases e
theorem z4G{K:PySem.W.Frag}{B H:Hp}{ds:List Dt}{vs:List V}{i:Int}{d:Dt}(h:Rps K B ds H vs)(e:atI ds i=some d):∃ v,atI vs i=some v∧Rp K B d H v:=by
 unfold atI at e ⊢
 rw[h.length]
 cases q:ixN ds.length i with
 | none=>rw[q]at e;cases e
 | some j =>
  rw[q]at e
  exact h.get e
def Fl.item:Fl→Fl
 | .tn => .sh
 | f=>f
def opAt(x:Dv)(y:Dv):Option Dv:=match x.2,y.2 with
 | .lst ds,.int i=>(atI ds i).map (nrm x.1.item)
 | .tup ds,.int i=>(atI ds i).map (nrm x.1.item)
 | .scr ns,.int i=>(atI ns i).map fun n=>(.nw,.int n)
 | _,_=>none
def fAt(Fa Fb:FE):FE:=fun ρ=>(Fa ρ).bind fun x=>(Fb ρ).bind fun y=>opAt x y
theorem RpF.item{X:Ky}{H H':Hp}{f:Fl}{ds:List Dt}{v:V}{i:Int}{d:Dt}(h:RpF X H f (.lst ds) H' v)(e:atI ds i=some d):∃ a vs w,v = .ref a∧SqL X.K H' a vs∧atI vs i=some w∧RpF X H f.item d H' w:=by
 cases f with
 | sh=>obtain⟨a,vs,rfl,_,h1,h2⟩:=Rp.items h;obtain⟨w,e1,e2⟩:=z4G h2 e;exact⟨a,vs,w,rfl,SqL.of h1,e1,e2⟩
 | tn=>obtain⟨a,vs,rfl,_,h1,h2⟩:=Rp.items h.1;obtain⟨w,e1,e2⟩:=z4G h2 e;exact⟨a,vs,w,rfl,SqL.of h1,e1,e2⟩
 | fr=>obtain⟨a,vs,rfl,_,h1,h2⟩:=Rp.items h;obtain⟨w,e1,e2⟩:=z4G h2 e;exact⟨a,vs,w,rfl,SqL.of h1,e1,e2⟩
 | nw=>obtain⟨a,vs,rfl,_,h1,h2⟩:=Rp.items h;obtain⟨w,e1,e2⟩:=z4G h2 e;exact⟨a,vs,w,rfl,SqL.of h1,e1,e2⟩
theorem RpF.itemT{X:Ky}{H H':Hp}{f:Fl}{ds:List Dt}{v:V}{i:Int}{d:Dt}(h:RpF X H f (.tup ds) H' v)(e:atI ds i=some d):∃ a vs w,v = .ref a∧SqT X.K H' a vs∧atI vs i=some w∧RpF X H f.item d H' w:=by
 cases f with
 | sh=>obtain⟨a,vs,rfl,h1,h2⟩:=Rp.tup_.mp h;obtain⟨w,e1,e2⟩:=z4G h2 e;exact⟨a,vs,w,rfl,h1,e1,e2⟩
 | tn=>obtain⟨⟨_,h2⟩,_⟩:=h.2;cases h2
 | fr=>obtain⟨a,vs,rfl,h1,h2⟩:=Rp.tup_.mp h;obtain⟨w,e1,e2⟩:=z4G h2 e;exact⟨a,vs,w,rfl,h1,e1,e2⟩
 | nw=>obtain⟨a,vs,rfl,h1,h2⟩:=Rp.tup_.mp h;obtain⟨w,e1,e2⟩:=z4G h2 e;exact⟨a,vs,w,rfl,h1,e1,e2⟩
theorem zpT{α β:Type}{g:α→β}{xs:List α}{i:Int}{x:α}(h:atI xs i=some x):atI (xs.map g) i=some (g x):=by
 unfold atI at h ⊢
 rw[List.length_map]
 cases q:ixN xs.length i with
 | none=>rw[q]at h;cases h
 | some j=>rw[q]at h;have h:xs[j]?=some x:=h;show(xs.map g)[j]?=_;rw[List.getElem?_map,h];rfl
theorem p_ix(ha:PF X a Fa)(hb:PF X b Fb)(hs:zjA b):PF X (.Subscript a b pos) (fAt Fa Fb) :=
 (pe_ix ix_seq ha hb hs).imp fun σ H Q hZ=>hZ.elim fun ρ hZ=>hZ.elim fun f hZ=>hZ.elim fun d hZ=>hZ.elim fun rs hZ=>hZ.elim fun e0 k=>by
  obtain⟨⟨fa,da⟩,ea,e1⟩:=z05 e0
  obtain⟨⟨fb,db⟩,eb,e⟩:=z05 e1
  clear e1 e0
  refine⟨ρ,fa,da,rs,ea,fun v H1 s1 r1=>⟨ρ,fb,db,rs.mono s1,eb,fun u H2 s2 r2=>?_⟩⟩
  have r1:=r1.mono s2
  unfold opAt at e
  split at e
  · rename_i ds i ed ei
    cases ed;cases ei
    cases q:atI ds i with
    | none=>rw[q]at e;cases e
    | some d0 =>
     rw[q]at e
     obtain⟨p,vs,w,rfl,h1,h2,h3⟩:=r1.item q
     have e:nrm fa.item d0=(f,d):=Option.some.inj e
     have h4:=h3.nrm
     have e1:d0=d:=congrArg Prod.snd e
     subst e1
     rw[e]at h4
     exact .inl ⟨p,vs,i,w,rfl,Rp.int_.mp r2.sh,h1,h2,k _ _ (s1.trans s2) h4⟩
  · rename_i ds i ed ei
    cases ed;cases ei
    cases q:atI ds i with
    | none=>rw[q]at e;cases e
    | some d0 =>
     rw[q]at e
     obtain⟨p,vs,w,rfl,h1,h2,h3⟩:=r1.itemT q
     have e:nrm fa.item d0=(f,d):=Option.some.inj e
     have h4:=h3.nrm
     have e1:d0=d:=congrArg Prod.snd e
     subst e1
     rw[e]at h4
     exact .inr (.inl ⟨p,vs,i,w,rfl,Rp.int_.mp r2.sh,h1,h2,k _ _ (s1.trans s2) h4⟩)
  · rename_i ns i ed ei
    cases ed;cases ei
    cases q:atI ns i with
    | none=>rw[q]at e;cases e
    | some n =>
     rw[q]at e
     cases e
     obtain⟨p,rfl,_,h1⟩:=Rp.scr_.mp r1.sh
     exact .inl ⟨p,_,i,_,rfl,Rp.int_.mp r2.sh,h1,zpT q,k _ _ (s1.trans s2) RpF.i_⟩
  · cases e
end
end L2

end
section
local macro_rules|`(tactic| omega)=>`(tactic| first|lia|omega +splitDisjunctions)
set_option Elab.async false
set_option linter.all false
set_option maxRecDepth 100000
namespace L2
open PySem PySem.Spec PyProof.Rows
mutual
def Dt.py:Dt→PyData
 | .non => .none
 | .bl b => .bool b
 | .int i => .int i
 | .str x => .str x
 | .lst ds => .list (pys ds)
 | .tup ds => .tuple (pys ds)
 | .scr ns => .list (ns.map .int)
def pys:List Dt→List PyData
 | []=>[]
 | d::ds=>d.py::pys ds
end
mutual
def Dt.okN:Nat→Dt→Bool
 | _,.str x=>PyData.strOk x
 | 0,.lst _=>false
 | 0,.tup _=>false
 | n+1,.lst ds=>oksN n ds
 | n+1,.tup ds=>oksN n ds
 | 0,.scr _=>false
 | _,_=>true
def oksN:Nat→List Dt→Bool
 | _,[]=>true
 | n,d::ds=>d.okN n&&oksN n ds
end
theorem zcG:∀ ns:List Int,PyData.canLayAll0 (ns.map PyData.int)=true∧PyData.depthAll (ns.map PyData.int)=0
 | []=>⟨rfl,rfl⟩
 | n::ns=>⟨by rw[List.map_cons,PyData.canLayAll0,(zcG ns).1];rfl,by rw[List.map_cons,PyData.depthAll,(zcG ns).2];rfl⟩
mutual
theorem zjF:∀(n:Nat) (d:Dt),d.okN n=true→d.py.canLay0=true∧d.py.depth≤n
 | n,.non,_=>⟨rfl,by rw[Dt.py,PyData.depth];exact Nat.zero_le _⟩
 | n,.bl b,_=>⟨rfl,by rw[Dt.py,PyData.depth];exact Nat.zero_le _⟩
 | n,.int i,_=>⟨rfl,by rw[Dt.py,PyData.depth];exact Nat.zero_le _⟩
 | n,.str x,h=>by
  have h:PyData.strOk x=true:=by cases n<;>simpa[Dt.okN]using h
  exact⟨by rw[Dt.py,PyData.canLay0];exact h,by rw[Dt.py,PyData.depth];exact Nat.zero_le _⟩
 | 0,.lst ds,h=>by rw[Dt.okN]at h;cases h
 | 0,.tup ds,h=>by rw[Dt.okN]at h;cases h
 | 0,.scr ds,h=>by rw[Dt.okN]at h;cases h
 | n+1,.lst ds,h=>by
  rw[Dt.okN]at h
  obtain⟨h1,h2⟩:=z9B n ds h
  exact⟨by rw[Dt.py,PyData.canLay0];exact h1,by rw[Dt.py,PyData.depth];omega⟩
 | n+1,.tup ds,h=>by
  rw[Dt.okN]at h
  obtain⟨h1,h2⟩:=z9B n ds h
  exact⟨by rw[Dt.py,PyData.canLay0];exact h1,by rw[Dt.py,PyData.depth];omega⟩
 | n+1,.scr ns,h=>by
  obtain⟨h1,h2⟩:=zcG ns
  exact⟨by rw[Dt.py,PyData.canLay0];exact h1,by rw[Dt.py,PyData.depth];omega⟩
theorem z9B:∀(n:Nat) (ds:List Dt),oksN n ds=true→PyData.canLayAll0 (pys ds)=true∧PyData.depthAll (pys ds)≤n
 | n,[],_=>⟨rfl,by rw[pys,PyData.depthAll];exact Nat.zero_le _⟩
 | n,d::ds,h=>by
  rw[oksN,Bool.and_eq_true]at h
  obtain⟨h1,h2⟩:=zjF n d h.1
  obtain⟨h3,h4⟩:=z9B n ds h.2
  refine⟨by rw[pys,PyData.canLayAll0,h1,h3];rfl,?_⟩
  rw[pys,PyData.depthAll]
  exact Nat.max_le.mpr ⟨h2,h4⟩
end
theorem z5N{d:Dt}{n:Nat}(h:d.okN n=true)(hn:n≤64):SeqAt.shaped d.py=true:=by
 obtain⟨h1,h2⟩:=zjF n d h
 unfold SeqAt.shaped
 rw[h1,Bool.true_and]
 exact decide_eq_true (Nat.le_trans h2 hn)
section
variable {X:Cx}{pins:List (Addr×Obj)}{σ:St}{H:Hp}{s:Shared}
theorem z9C{h:Heap}:∀{ns:List Int} {us:List Value},Vals (ns.map V.int) us→∃ as,ReadsAll h us (ns.map PyData.int) as
 | [],us,r=>by cases r;exact⟨_,.nil⟩
 | n::ns,us,r=>by
  rw[List.map_cons]at r
  cases r with
  | cons r1 r2 =>
   obtain⟨t,rfl⟩:=r1
   obtain⟨as,q⟩:=z9C r2
   exact⟨_,.cons (.int n t) q⟩
mutual
theorem z55(I:Inv X pins σ H s):∀(d:Dt) {v:V} {u:Value},Rp X.K emp d H v→RelV v u→∃ as,Reads s.heap u d.py as
 | .non,v,u,h,r=>by rw[Rp.non_]at h;subst h;cases r;exact⟨_,.none⟩
 | .bl b,v,u,h,r=>by rw[Rp.bl_]at h;subst h;cases r;exact⟨_,.bool b⟩
 | .int i,v,u,h,r=>by rw[Rp.int_]at h;subst h;obtain⟨t,rfl⟩:=r;exact⟨_,.int i t⟩
 | .str x,v,u,h,r=>by rw[Rp.str_]at h;subst h;obtain⟨t,rfl⟩:=r;exact⟨_,.str x t⟩
 | .lst ds,v,u,h,r=>by
  obtain⟨a,vs,rfl,_,h1,h2⟩:=Rp.lst_.mp h
  cases r
  obtain⟨its,rv,⟨o,n,e,c,dd,dt⟩,_⟩:=I.list (SqL.of (K:=X.K) h1)
  obtain⟨as,q⟩:=z56 I ds (Rps.mono ds z0O h2) rv
  exact⟨_,by rw[Dt.py];exact .list e c dt q⟩
 | .tup ds,v,u,h,r=>by
  obtain⟨a,vs,rfl,h1,h2⟩:=Rp.tup_.mp h
  cases r
  obtain⟨its,rv,⟨o,e,c,n,dt⟩,_⟩:=I.tuple h1
  obtain⟨as,q⟩:=z56 I ds h2 rv
  exact⟨_,by rw[Dt.py];exact .tuple e c dt q⟩
 | .scr ns,v,u,h,r=>by
  obtain⟨a,rfl,_,h1⟩:=Rp.scr_.mp h
  cases r
  obtain⟨its,rv,⟨o,n,e,c,dd,dt⟩,_⟩:=I.list h1
  obtain⟨as,q⟩:=z9C (h:=s.heap) rv
  exact⟨_,by rw[Dt.py];exact .list e c dt q⟩
theorem z56(I:Inv X pins σ H s):∀(ds:List Dt) {vs:List V} {us:List Value},Rps X.K emp ds H vs→Vals vs us→∃ as,ReadsAll s.heap us (pys ds) as
 | [],vs,us,h,r=>by rw[Rps.nil_]at h;subst h;cases r;exact⟨_,by rw[pys];exact .nil⟩
 | d::ds,vs,us,h,r=>by
  obtain⟨v,ws,rfl,h1,h2⟩:=Rps.cons_.mp h
  cases r with
  | cons r1 r2 =>
   obtain⟨as,q1⟩:=z55 I d h1 r1
   obtain⟨bs,q2⟩:=z56 I ds h2 r2
   exact⟨_,by rw[pys];exact .cons q1 q2⟩
end
end
def eqD(x y:Dt):Bool:=PyData.eqv x.py y.py
section
variable {X:Cx}{a b c e:Expr}{Fa Fb Fc:FE}{pos:Pos}
def opEq:FO:=fun x y=>if x.okN 8&&y.okN 8 then some (.nw,.bl (eqD x y)) else none
def opNe:FO:=fun x y=>if x.okN 8&&y.okN 8 then some (.nw,.bl (!eqD x y)) else none
theorem o_eq(hu:X.A.units+64<cLine):OpF X (compareOp .Eq) opEq:=by
 rintro pins s σ H x y v u Q I r1 r2 ⟨d1,d2,f,d,q1,q2,e,k⟩
 unfold opEq at e
 split at e
 · rename_i h
   rw[Bool.and_eq_true]at h
   cases e
   obtain⟨as,ra⟩:=z55 I d1 q1 r1
   obtain⟨bs,rb⟩:=z55 I d2 q2 r2
   exact eq_dataH ra rb (z5N h.1 (by decide)) (z5N h.2 (by decide)) hu ⟨.bl _,H,I,rfl,k _ H (Same.refl H) RpF.b_⟩
 · cases e
theorem o_ne(hu:X.A.units+64<cLine):OpF X (compareOp .NotEq) opNe:=by
 rintro pins s σ H x y v u Q I r1 r2 ⟨d1,d2,f,d,q1,q2,e,k⟩
 unfold opNe at e
 split at e
 · rename_i h
   rw[Bool.and_eq_true]at h
   cases e
   obtain⟨as,ra⟩:=z55 I d1 q1 r1
   obtain⟨bs,rb⟩:=z55 I d2 q2 r2
   exact ne_dataH ra rb (z5N h.1 (by decide)) (z5N h.2 (by decide)) hu ⟨.bl _,H,I,rfl,k _ H (Same.refl H) RpF.b_⟩
 · cases e
end
def RpFs(X:Ky)(H:Hp):List Dv→Hp→List V→Prop
 | [],_,vs=>vs=[]
 | x::xs,H',vs=>∃ v r,vs=v::r∧RpF X H x.1 x.2 H' v∧RpFs X H xs H' r
def upAs(X:Cx)(F:FA):TA:=fun σ H Q=>∃ ρ xs,RepS X.ky H ρ σ∧F ρ=some xs∧∀ vs H',Same H H'→RpFs X.ky H xs H' vs→Q vs H'
def PFA(X:Cx)(es:List Expr)(F:FA):Prop:=PA X es (upAs X F)
def sndL:List Dv→List Dt
 | []=>[]
 | x::xs=>x.2::sndL xs
def z45:List Dv→Bool
 | []=>true
 | x::xs=>x.1.isNw&&z45 xs
def z38:List Dv→Bool
 | []=>true
 | x::xs=>x.1.isFr&&z38 xs
section
variable {X:Ky}{H H' H1:Hp}
theorem RpFs.sh:∀{xs:List Dv} {vs:List V},RpFs X H xs H' vs→Rps X.K emp (sndL xs) H' vs
 | [],vs,h=>Rps.nil_.mpr h
 | x::xs,vs,⟨v,r,e,h1,h2⟩=>Rps.cons_.mpr ⟨v,r,e,h1.sh,RpFs.sh h2⟩
theorem RpFs.nw:∀{xs:List Dv} {vs:List V},z45 xs=true→RpFs X H xs H' vs→Rps X.K H (sndL xs) H' vs
 | [],vs,_,h=>Rps.nil_.mpr h
 | ⟨f,d⟩::xs,vs,q,⟨v,r,e,h1,h2⟩=>by
  unfold z45 at q
  rw[Bool.and_eq_true]at q
  cases f<;>first|(exact absurd q.1 Bool.false_ne_true)|exact Rps.cons_.mpr ⟨v,r,e,h1,RpFs.nw q.2 h2⟩
theorem RpFs.fr(h0:Same X.H₀ H):∀{xs:List Dv} {vs:List V},z38 xs=true→RpFs X H xs H' vs→Rps X.K X.H₀ (sndL xs) H' vs
 | [],vs,_,h=>Rps.nil_.mpr h
 | ⟨f,d⟩::xs,vs,q,⟨v,r,e,h1,h2⟩=>by
  unfold z38 at q
  rw[Bool.and_eq_true]at q
  exact Rps.cons_.mpr ⟨v,r,e,h1.fr h0 q.1,RpFs.fr h0 q.2 h2⟩
theorem RpFs.mono:∀{xs:List Dv} {vs:List V},RpFs X H xs H' vs→Same H' H1→RpFs X H xs H1 vs
 | [],vs,h,_=>h
 | x::xs,vs,⟨v,r,e,h1,h2⟩,s=>⟨v,r,e,h1.mono s,RpFs.mono h2 s⟩
theorem RpFs.early(s:Same H H1):∀{xs:List Dv} {vs:List V},RpFs X H1 xs H' vs→RpFs X H xs H' vs
 | [],vs,h=>h
 | x::xs,vs,⟨v,r,e,h1,h2⟩=>⟨v,r,e,h1.early s,RpFs.early s h2⟩
end
section
variable {X:Cx}{a b c e:Expr}{es:List Expr}{Fa Fb Fe:FE}{Fs:FA}{pos:Pos}
def fNil:FA:=fun _=>some []
def z01(Fa:FE)(Fs:FA):FA:=fun ρ=>(Fa ρ).bind fun x=>(Fs ρ).bind fun xs=>some (x::xs)
theorem z07:PFA X [] fNil:=z9v.imp (by rintro σ H Q ⟨ρ,xs,rs,e,k⟩;cases e;exact k [] H (Same.refl H) rfl)
theorem z03(ha:PF X e Fe)(hr:PFA X es Fs)(hs:starEach (e::es) X.env=(false,eval e X.env)::starEach es X.env:=by rfl):PFA X (e::es) (z01 Fe Fs) :=
 (z4z ha hr hs).imp fun σ H Q hZ=>hZ.elim fun ρ hZ=>hZ.elim fun xs hZ=>hZ.elim fun rs hZ=>hZ.elim fun e0 k=>by
  obtain⟨⟨f,d⟩,e1,e2⟩:=z05 e0
  obtain⟨ys,e3,e4⟩:=z05 e2
  cases e4
  exact⟨ρ,f,d,rs,e1,fun v H1 s1 r1=>⟨ρ,ys,rs.mono s1,e3,fun vs H2 s2 r2=>k _ _ (s1.trans s2) ⟨v,vs,rfl,r1.mono s2,r2.early s1⟩⟩⟩
theorem RpFs.length{X:Ky}{H H':Hp}:∀{xs:List Dv} {vs:List V},RpFs X H xs H' vs→vs.length=xs.length
 | [],vs,h=>by rw[show vs=[]from h];rfl
 | x::xs,vs,⟨v,r,e,_,h2⟩=>by rw[e,List.length_cons,List.length_cons,RpFs.length h2]
def fLst(Fs:FA):FE:=fun ρ=>(Fs ρ).bind fun xs=>if xs.length≤1000 then some (if z45 xs then .nw else .tn,.lst (sndL xs)) else none
def fTup(Fs:FA):FE:=fun ρ=>(Fs ρ).bind fun xs=>if xs.length≤1000 then some (if z45 xs then .nw else if z38 xs then .fr else .sh,.tup (sndL xs)) else none
theorem z46(h:PFA X es Fs):PF X (.List es pos) (fLst Fs):=(pe_lst h).imp fun σ H Q hZ=>hZ.elim fun ρ hZ=>hZ.elim fun f hZ=>hZ.elim fun d hZ=>hZ.elim fun rs hZ=>hZ.elim fun e0 k=>by
 obtain⟨xs,e1,e2⟩:=z05 e0
 split at e2
 · rename_i hl
   cases e2
   refine⟨ρ,xs,rs,e1,fun vs H1 s1 r1=>⟨Nat.le_trans (by rw[r1.length];exact hl) (by decide),fun p hp=>k _ _ (s1.trans (z1m hp)) ?_⟩⟩
   have hp0:H p=none:=s1.free hp
   by_cases q:z45 xs=true
   · rw[if_pos q]
     exact Rp.new (K:=X.K) (B:=H) hp hp0 (r1.nw q)
   · rw[if_neg q]
     exact⟨Rp.new hp rfl r1.sh,⟨_,rfl⟩,fun a e=>by cases e;exact hp0⟩
 · cases e2
theorem z3p{x1}(h:PFA X es Fs):PF X (.Tuple es x1 pos) (fTup Fs):=(pe_tup h).imp fun σ H Q hZ=>hZ.elim fun ρ hZ=>hZ.elim fun f hZ=>hZ.elim fun d hZ=>hZ.elim fun rs hZ=>hZ.elim fun e0 k=>by
 obtain⟨xs,e1,e2⟩:=z05 e0
 split at e2
 · rename_i hl
   cases e2
   refine⟨ρ,xs,rs,e1,fun vs H1 s1 r1=>⟨Nat.le_trans (by rw[r1.length];exact hl) (by decide),fun p hp=>k _ _ (s1.trans (z1m hp)) ?_⟩⟩
   have r2:=r1.mono (z1m (o := .tup vs) hp)
   by_cases q:z45 xs=true
   · rw[if_pos q]
     exact(Rp.tup_ (K:=X.K) (B:=H)).mpr ⟨p,vs,rfl,SqT.of z13,r2.nw q⟩
   · rw[if_neg q]
     by_cases q2:z38 xs=true
     · rw[if_pos q2]
       exact(Rp.tup_ (K:=X.K) (B:=X.H₀)).mpr ⟨p,vs,rfl,SqT.of z13,r2.fr rs.base q2⟩
     · rw[if_neg q2]
       exact(Rp.tup_ (K:=X.K) (B:=emp)).mpr ⟨p,vs,rfl,SqT.of z13,r2.sh⟩
 · cases e2
abbrev FC:=List Dt→Option Dt
def spc(K:PySem.W.Frag)(fr:Bool)(c:FC):Sp:=fun vs H Q _=>∃ ds d,Rps K emp ds H vs∧c ds=some d∧∀ v H',Same H H'→Rp K (if fr then H else emp) d H' v→Q v H'
def z06(fr:Bool)(c:FC)(Fs:FA):FE:=fun ρ=>(Fs ρ).bind fun xs=>(c (sndL xs)).map (nrm (if fr then .nw else .sh))
theorem zlS{X:Ky}{fr:Bool}{H H1 H':Hp}{d:Dt}{v:V}(s:Same H H1)(r:Rp X.K (if fr then H1 else emp) d H' v):RpF X H (nrm (if fr then .nw else .sh) d).1 d H' v:=by
 cases fr with
 | true=>exact RpF.nrm (f := .nw) (RpF.early s (show RpF X H1 .nw d H' v from r))
 | false=>exact RpF.nrm (f := .sh) r
theorem p_call{fr:Bool}{k:Nat}{f:Addr}{fd:FuncData}{ps:List Str}{ct:FC}{x:Str}{p:Pos}(F:FnOk X.prog X.w X.K X.mg X.base CX0 k f fd ps (spc X.K fr ct))(hr:Room k X.A)(hg:Gl X x)(hm:X.mg x=some (.ref f))(hk:PySem.W.keepIn X.K (.ref f)=true)(hb:Binds X.K fd ps [])
  (ha:PFA X (e::es) Fs) (hdb:(x==("__debug__" : Str))=false:=by decide) (hst:starEach (e::es) X.env=(false,eval e X.env)::starEach es X.env:=by rfl) (hpl:(backTo pos (starEach es X.env)).any (·.1)=false:=by rfl):PF X (.Call (.Name x p) (e::es) [] pos) (z06 fr ct Fs) :=
 (zpE (E:=E0) (dvs:=[]) F hr hg hm hk hb .nil pass0 ha hdb hst hpl).imp fun σ H Q hZ=>hZ.elim fun ρ hZ=>hZ.elim fun f hZ=>hZ.elim fun d hZ=>hZ.elim fun rs hZ=>hZ.elim fun e0 k=>by
  obtain⟨xs,e1,e2⟩:=z05 e0
  cases q:ct (sndL xs) with
  | none=>rw[q]at e2;cases e2
  | some d0 =>
   rw[q]at e2
   have e2:nrm (if fr then .nw else .sh) d0=(f,d):=Option.some.inj e2
   have e3:d0=d:=congrArg Prod.snd e2
   subst e3
   refine⟨ρ,xs,rs,e1,fun vs H1 s1 r1=>?_⟩
   dsimp only
   rw[List.append_nil]
   refine⟨_,d0,r1.sh,q,fun v H' s' r'=>k v H' (s1.trans s') ?_⟩
   have:=zlS (X:=X.ky) s1 r'
   rw[e2]at this
   exact this
abbrev FB:=List Dt→Option Dv
def z6X(X:Cx)(f:Value)(r:FB):Prop:=z8C X f (fun xs H Q=>∃ ds f d,Rps X.K emp ds H xs∧r ds=some (f,d)∧∀ v H',Same H H'→RpF X.ky H f d H' v→Q v H')
def fBlt(r:FB)(Fs:FA):FE:=fun ρ=>(Fs ρ).bind fun xs=>r (sndL xs)
theorem zjG{r:FB}{σ:St}{H:Hp}{Q:VK}(h:upF X (fBlt r Fs) σ H Q):upAs X Fs σ H fun vs H1=>∃ ds f d,Rps X.K emp ds H1 vs∧r ds=some (f,d)∧∀ v H',Same H1 H'→RpF X.ky H1 f d H' v→Q v H':=by
 obtain⟨ρ,f,d,rs,e0,k⟩:=h
 obtain⟨xs,e1,e2⟩:=z05 e0
 exact⟨ρ,xs,rs,e1,fun vs H1 s1 r1=>⟨_,f,d,r1.sh,e2,fun v H' s' r'=>k v H' (s1.trans s') (r'.early s1)⟩⟩
theorem z0z{id:String}{r:FB}{x:Str}{p:Pos}(hc:z6X X (.builtin id) r)(hg:Gl X x)(hm:X.mg x=none)(hv:bootBuiltins x=some (.builtin id))(ha:PFA X (e::es) Fs)(hn:x ≠ "__name__" := by decide)(hdb:(x==("__debug__" : Str))=false:=by decide)(hst:starEach (e::es) X.env=(false,eval e X.env)::starEach es X.env:=by rfl)(hpl:(backTo pos (starEach es X.env)).any (·.1)=false:=by rfl):
 PF X (.Call (.Name x p) (e::es) [] pos) (fBlt r Fs):=(zdr hc hg hm hv ha hn hdb hst hpl).imp fun σ H Q h=>zjG h
theorem z1A{T:String}{r:FB}{x:Str}{p:Pos}(hc:z6X X (.type T) r)(hg:Gl X x)(hm:X.mg x=none)(hv:bootBuiltins x=some (.type T))(ha:PFA X (e::es) Fs)(hn:x ≠ "__name__" := by decide)(hdb:(x==("__debug__" : Str))=false:=by decide)(hst:starEach (e::es) X.env=(false,eval e X.env)::starEach es X.env:=by rfl)(hpl:(backTo pos (starEach es X.env)).any (·.1)=false:=by rfl):
 PF X (.Call (.Name x p) (e::es) [] pos) (fBlt r Fs):=(zky hc hg hm hv ha hn hdb hst hpl).imp fun σ H Q h=>zjG h
end
section
variable {X:Cx}
theorem Rps.one'{K:PySem.W.Frag}{B H:Hp}{d:Dt}{vs:List V}(h:Rps K B [d] H vs):∃ v,vs=[v]∧Rp K B d H v:=by
 obtain⟨v,r,rfl,h1,h2⟩:=Rps.cons_.mp h
 rw[Rps.nil_.mp h2]
 exact⟨v,rfl,h1⟩
def bLen:FB
 | [.lst xs]=>some (.nw,.int xs.length)
 | [.tup xs]=>some (.nw,.int xs.length)
 | [.scr xs]=>some (.nw,.int xs.length)
 | _=>none
theorem z1F:z6X X (.builtin "len") bLen:=by
 rintro pins s σ H xs us Q I r ⟨ds,f,d,rs,e,k⟩
 unfold bLen at e
 split at e
 · cases e
   obtain⟨v,rfl,h⟩:=rs.one'
   obtain⟨p,vs,rfl,_,q1,q2⟩:=h.items
   exact z4B pins s σ H _ us Q I r ⟨p,vs,rfl,.inl (SqL.of q1),by rw[q2.length];exact k _ H (Same.refl H) RpF.i_⟩
 · cases e
   obtain⟨v,rfl,h⟩:=rs.one'
   obtain⟨p,vs,rfl,q1,q2⟩:=Rp.tup_.mp h
   exact z4B pins s σ H _ us Q I r ⟨p,vs,rfl,.inr q1,by rw[q2.length];exact k _ H (Same.refl H) RpF.i_⟩
 · cases e
   obtain⟨v,rfl,h⟩:=rs.one'
   obtain⟨p,rfl,_,q1⟩:=Rp.scr_.mp h
   exact z4B pins s σ H _ us Q I r ⟨p,_,rfl,.inl q1,by rw[List.length_map];exact k _ H (Same.refl H) RpF.i_⟩
 · cases e
def bTup:FB
 | [.lst xs]=>some (if z1z xs then .nw else .sh,.tup xs)
 | [.tup xs]=>some (if z1z xs then .nw else .sh,.tup xs)
 | _=>none
theorem zjH{X:Ky}{H H':Hp}{xs:List Dt}{v:V}(h:Rp X.K emp (.tup xs) H' v):RpF X H (if z1z xs then .nw else .sh) (.tup xs) H' v:=by
 by_cases q:z1z xs=true
 · rw[if_pos q];exact RpF.scal (by rw[Dt.flat];exact q) h
 · rw[if_neg q];exact h
theorem zlT:z6X X (.type "tuple") bTup:=by
 rintro pins s σ H xs us Q I r ⟨ds,f,d,rs,e,k⟩
 unfold bTup at e
 split at e
 · cases e
   obtain⟨v,rfl,h⟩:=rs.one'
   obtain⟨p,vs,rfl,_,q1,q2⟩:=h.items
   exact z6k pins s σ H _ us Q I r ⟨p,vs,rfl,.inl ⟨SqL.of q1,fun l hl=>k _ _ (z1m hl) (zjH (Rp.tup_.mpr ⟨l,vs,rfl,SqT.of z13,Rps.mono _ (z1m hl) q2⟩))⟩⟩
 · cases e
   obtain⟨v,rfl,h⟩:=rs.one'
   obtain⟨p,vs,rfl,q1,q2⟩:=Rp.tup_.mp h
   exact z6k pins s σ H _ us Q I r ⟨p,vs,rfl,.inr ⟨q1,k _ H (Same.refl H) (zjH h)⟩⟩
 · cases e
def bLst:FB
 | [.lst xs]=>some (newL xs)
 | [.tup xs]=>some (newL xs)
 | _=>none
theorem z6Y:z6X X (.type "list") bLst:=by
 rintro pins s σ H xs us Q I r ⟨ds,f,d,rs,e,k⟩
 unfold bLst at e
 split at e
 · cases e
   obtain⟨v,rfl,h⟩:=rs.one'
   obtain⟨p,vs,rfl,_,q1,q2⟩:=h.items
   exact z6U pins s σ H _ us Q I r ⟨p,vs,rfl,.inl (SqL.of q1),fun l hl=>k _ _ (z1m hl) (z6V hl q2)⟩
 · cases e
   obtain⟨v,rfl,h⟩:=rs.one'
   obtain⟨p,vs,rfl,q1,q2⟩:=Rp.tup_.mp h
   exact z6U pins s σ H _ us Q I r ⟨p,vs,rfl,.inr q1,fun l hl=>k _ _ (z1m hl) (z6V hl q2)⟩
 · cases e
def bAbs:FB
 | [.int i]=>some (.nw,.int (if i<0 then -i else i))
 | _=>none
theorem c_abs:z6X X (.builtin "abs") bAbs:=by
 rintro pins s σ H xs us Q I r ⟨ds,f,d,rs,e,k⟩
 unfold bAbs at e
 split at e
 · rename_i i
   cases e
   obtain⟨v,rfl,h⟩:=rs.one'
   rw[Rp.int_]at h
   subst h
   exact zlA pins s σ H _ us Q I r ⟨i,rfl,k _ H (Same.refl H) RpF.i_⟩
 · cases e
def z6l:List Dt→Option (List Bool)
 | []=>some []
 | .bl b::ds=>(z6l ds).map (b::·)
 | _=>none
def z4H:List Dt→Option (List Int)
 | []=>some []
 | .int i::ds=>(z4H ds).map (i::·)
 | _=>none
theorem z7N{K:PySem.W.Frag}{B H:Hp}:∀{ds:List Dt} {bs:List Bool} {vs:List V},z6l ds=some bs→Rps K B ds H vs→vs=bs.map V.bl
 | [],bs,vs,e,r=>by cases e;exact Rps.nil_.mp r
 | .bl b::ds,bs,vs,e,r=>by
  obtain⟨v,ws,rfl,h1,h2⟩:=Rps.cons_.mp r
  unfold z6l at e
  cases q:z6l ds with
  | none=>rw[q]at e;cases e
  | some cs=>rw[q]at e;cases e;rw[Rp.bl_.mp h1,z7N q h2];rfl
 | .non::ds,bs,vs,e,r=>by cases e
 | .int _::ds,bs,vs,e,r=>by cases e
 | .str _::ds,bs,vs,e,r=>by cases e
 | .lst _::ds,bs,vs,e,r=>by cases e
 | .tup _::ds,bs,vs,e,r=>by cases e
 | .scr _::ds,bs,vs,e,r=>by cases e
theorem z9D{K:PySem.W.Frag}{B H:Hp}:∀{ds:List Dt} {bs:List Int} {vs:List V},z4H ds=some bs→Rps K B ds H vs→vs=bs.map V.int
 | [],bs,vs,e,r=>by cases e;exact Rps.nil_.mp r
 | .int b::ds,bs,vs,e,r=>by
  obtain⟨v,ws,rfl,h1,h2⟩:=Rps.cons_.mp r
  unfold z4H at e
  cases q:z4H ds with
  | none=>rw[q]at e;cases e
  | some cs=>rw[q]at e;cases e;rw[Rp.int_.mp h1,z9D q h2];rfl
 | .non::ds,bs,vs,e,r=>by cases e
 | .bl _::ds,bs,vs,e,r=>by cases e
 | .str _::ds,bs,vs,e,r=>by cases e
 | .lst _::ds,bs,vs,e,r=>by cases e
 | .tup _::ds,bs,vs,e,r=>by cases e
 | .scr _::ds,bs,vs,e,r=>by cases e
def bAll:FB
 | [.lst xs]=>(z6l xs).map fun bs=>(.nw,.bl (bs.all id))
 | _=>none
def bAny:FB
 | [.lst xs]=>(z6l xs).map fun bs=>(.nw,.bl (bs.any id))
 | _=>none
def bSum:FB
 | [.lst xs]=>(z4H xs).map fun ns=>(.nw,.int ns.sum)
 | _=>none
theorem zkC(bs:List Bool):(List.range bs.length).all (fun i=>bs.getD i false)=bs.all id:=by
 rw[Bool.eq_iff_iff,List.all_eq_true,List.all_eq_true]
 constructor
 · intro h b hb
   obtain⟨i,hi,e⟩:=List.getElem_of_mem hb
   have:=h i (List.mem_range.mpr hi)
   simp[List.getD,List.getElem?_eq_getElem hi,e]at this
   exact this
 · intro h i hi
   have hi:=List.mem_range.mp hi
   have:=h _ (List.getElem_mem hi)
   simpa[List.getD,List.getElem?_eq_getElem hi]using this
theorem zkD(bs:List Bool):(List.range bs.length).any (fun i=>bs.getD i false)=bs.any id:=by
 rw[Bool.eq_iff_iff,List.any_eq_true,List.any_eq_true]
 constructor
 · rintro⟨i,hi,h⟩
   have hi:=List.mem_range.mp hi
   exact⟨_,List.getElem_mem hi,by simpa[List.getD,List.getElem?_eq_getElem hi]using h⟩
 · rintro⟨b,hb,h⟩
   obtain⟨i,hi,e⟩:=List.getElem_of_mem hb
   exact⟨i,List.mem_range.mpr hi,by simp[List.getD,List.getElem?_eq_getElem hi,e];exact h⟩
theorem z8F(ns:List Int):∀ k,k≤ns.length→preSum (fun i=>ns.getD i 0) k=(ns.take k).sum
 | 0,_=>by simp[preSum]
 | k+1,h=>by
  have hk:k<ns.length:=h
  rw[preSum,z8F ns k (by omega),List.take_succ,List.getElem?_eq_getElem hk,List.sum_append]
  simp[List.getD,List.getElem?_eq_getElem hk]
theorem zjI{bs:List Bool}{us:List Value}(r:Vals (bs.map V.bl) us){prog:Program}{w:World}{A:Around}:TruthOf prog w A (fun i v=>us.toArray[i]?=some v) (fun i=>bs.getD i false):=by
 intro i v s Q E hP hQ
 have e:us[i]?=some v:=by simpa using hP
 cases q:bs[i]? with
 | none =>
  have:=r.none_of (i:=i) (by rw[List.getElem?_map,q];rfl)
  rw[this]at e;cases e
 | some b =>
  obtain⟨u,h1,h2⟩:=r.get (i:=i) (x:=V.bl b) (by rw[List.getElem?_map,q];rfl)
  rw[e]at h1
  cases h1
  cases h2
  have hQ':Q b s:=by simpa[List.getD,q]using hQ
  exact wpAny_truthy_bool hQ'
theorem c_all(hc:X.calm=true):z6X X (.builtin "all") bAll:=by
 rintro pins s σ H xs us Q I r ⟨ds,f,d,rs,e,k⟩
 unfold bAll at e
 split at e
 · rename_i ys
   cases q:z6l ys with
   | none=>rw[q]at e;cases e
   | some bs =>
    rw[q]at e
    cases e
    obtain⟨v,rfl,h⟩:=rs.one'
    obtain⟨p,vs,rfl,_,q1,q2⟩:=h.items
    obtain⟨u,rfl,ru⟩:=r.one
    cases ru
    have ev:=z7N q q2
    subst ev
    obtain⟨its,rv,pl,hz⟩:=I.list (SqL.of (K:=X.K) q1)
    have hlen:its.toArray.size=bs.length:=by rw[List.size_toArray,←rv.length,List.length_map]
    refine call_all_walk (wpAny_pyIter_list pl.isList ?_)
    have hne:p≠s.heap.objs.size:=Nat.ne_of_lt (by obtain⟨o,e,_⟩:=pl.isList;exact Heap.lt_size e)
    refine⟨_,_,_,_,_,_,fun i=>bs.getD i false,rfl,Walks.list (A:=X.A.in1) (I.ok.hd hc) s.heap.objs.size p hne its.toArray,⟨⟨_,Heap.get?_push_size _ rfl,rfl,rfl⟩,pl.isList.at fun o e=>Heap.get?_push_of_some _ e⟩,zjI rv,fun h' tk hk=>?_⟩
    rw[hlen,zkC]
    exact⟨.bl _,H,I.kept fun b o e=>hk b o (by simp;exact Nat.ne_of_lt (Heap.lt_size e)) (Heap.get?_push_of_some _ e),rfl,k _ H (Same.refl H) RpF.b_⟩
 · cases e
theorem c_any(hc:X.calm=true):z6X X (.builtin "any") bAny:=by
 rintro pins s σ H xs us Q I r ⟨ds,f,d,rs,e,k⟩
 unfold bAny at e
 split at e
 · rename_i ys
   cases q:z6l ys with
   | none=>rw[q]at e;cases e
   | some bs =>
    rw[q]at e
    cases e
    obtain⟨v,rfl,h⟩:=rs.one'
    obtain⟨p,vs,rfl,_,q1,q2⟩:=h.items
    obtain⟨u,rfl,ru⟩:=r.one
    cases ru
    have ev:=z7N q q2
    subst ev
    obtain⟨its,rv,pl,hz⟩:=I.list (SqL.of (K:=X.K) q1)
    have hlen:its.toArray.size=bs.length:=by rw[List.size_toArray,←rv.length,List.length_map]
    refine call_any_walk (wpAny_pyIter_list pl.isList ?_)
    have hne:p≠s.heap.objs.size:=Nat.ne_of_lt (by obtain⟨o,e,_⟩:=pl.isList;exact Heap.lt_size e)
    refine⟨_,_,_,_,_,_,fun i=>bs.getD i false,rfl,Walks.list (A:=X.A.in1) (I.ok.hd hc) s.heap.objs.size p hne its.toArray,⟨⟨_,Heap.get?_push_size _ rfl,rfl,rfl⟩,pl.isList.at fun o e=>Heap.get?_push_of_some _ e⟩,zjI rv,fun h' tk hk=>?_⟩
    rw[hlen,zkD]
    exact⟨.bl _,H,I.kept fun b o e=>hk b o (by simp;exact Nat.ne_of_lt (Heap.lt_size e)) (Heap.get?_push_of_some _ e),rfl,k _ H (Same.refl H) RpF.b_⟩
 · cases e
theorem c_sum(hc:X.calm=true):z6X X (.builtin "sum") bSum:=by
 rintro pins s σ H xs us Q I r ⟨ds,f,d,rs,e,k⟩
 unfold bSum at e
 split at e
 · rename_i ys
   cases q:z4H ys with
   | none=>rw[q]at e;cases e
   | some ns =>
    rw[q]at e
    cases e
    obtain⟨v,rfl,h⟩:=rs.one'
    obtain⟨p,vs,rfl,_,q1,q2⟩:=h.items
    obtain⟨u,rfl,ru⟩:=r.one
    cases ru
    have ev:=z9D q q2
    subst ev
    obtain⟨its,rv,pl,hz⟩:=I.list (SqL.of (K:=X.K) q1)
    have hlen:its.toArray.size=ns.length:=by rw[List.size_toArray,←rv.length,List.length_map]
    refine call_sum_walkG (wpAny_pyIter_list pl.isList ?_)
    have hlt:p<s.heap.objs.size:=by obtain⟨o,e,_⟩:=pl.isList;exact Heap.lt_size e
    have hne:p≠s.heap.objs.size:=Nat.ne_of_lt hlt
    refine⟨_,_,_,_,_,_,fun i=>ns.getD i 0,rfl,Walks.list (A:=X.A.in1) (I.ok.hd hc) s.heap.objs.size p hne its.toArray,⟨⟨_,Heap.get?_push_size _ rfl,rfl,rfl⟩,pl.isList.at fun o e=>Heap.get?_push_of_some _ e⟩,fun b hb=>?_,fun i v hP=>?_,fun h' tk t' hk=>?_⟩
    · show b<(s.heap.push _).objs.size
      rw[Heap.size_push]
      rcases List.mem_cons.mp hb with e|hb
      · rw[e];exact Nat.lt_succ_self _
      · rw[List.mem_singleton.mp hb];exact Nat.lt_succ_of_lt hlt
    · have e:its[i]?=some v:=by simpa using hP
      cases q:ns[i]? with
      | none =>
        have:=rv.none_of (i:=i) (by rw[List.getElem?_map,q];rfl)
        rw[this]at e;cases e
      | some n =>
        obtain⟨u,h1,h2⟩:=rv.get (i:=i) (x:=V.int n) (by rw[List.getElem?_map,q];rfl)
        rw[e]at h1
        cases h1
        obtain⟨t,rfl⟩:=h2
        exact⟨t,by simp[List.getD,q]⟩
    · rw[hlen,z8F ns ns.length (Nat.le_refl _),List.take_length]
      exact⟨.int _,H,I.kept fun b o e=>hk b o (by simp;exact Nat.ne_of_lt (Heap.lt_size e)) (Heap.get?_push_of_some _ e),⟨t',rfl⟩,k _ H (Same.refl H) RpF.i_⟩
 · cases e
def tyN:Dt→String
 | .non => "NoneType"
 | .bl _ => "bool"
 | .int _ => "int"
 | .str _ => "str"
 | .lst _ => "list"
 | .scr _ => "list"
 | .tup _ => "tuple"
def zdz(t T:String):Bool:=t==T||(t == "bool" && T == "int")
def okT(T:String):Bool:=T == "int" || T == "bool" || T == "str" || T == "list" || T == "tuple" || T == "dict"
theorem zkE{T:String}(h:okT T=true):T = "int" ∨ T = "bool" ∨ T = "str" ∨ T = "list" ∨ T = "tuple" ∨ T = "dict" := by
 unfold okT at h
 simp only[Bool.or_eq_true,beq_iff_eq]at h
 rcases h with((((h|h)|h)|h)|h)|h
 · exact .inl h
 · exact .inr (.inl h)
 · exact .inr (.inr (.inl h))
 · exact .inr (.inr (.inr (.inl h)))
 · exact .inr (.inr (.inr (.inr (.inl h))))
 · exact .inr (.inr (.inr (.inr (.inr h))))
theorem kit_D{K:PySem.W.Frag}{d:Dt}{T:String}(h:okT T=true):PySem.W.kitOne K (.type (tyN d)) (.type T)=some (zdz (tyN d) T):=by
 rcases zkE h with rfl|rfl|rfl|rfl|rfl|rfl<;>cases d<;>rfl
def fIsi(T:String)(F:FE):FE:=fun ρ=>(F ρ).map fun x=>(.nw,.bl (zdz (tyN x.2) T))
theorem zpU{T:String}(hT:okT T=true):z8C X (.builtin "isinstance") (fun xs H Q=>∃ d v,xs=[v,.ty T]∧Rp X.K emp d H v∧Q (.bl (zdz (tyN d) T)) H):=by
 intro pins s σ H xs us Q I r ⟨d,v,ex,h1,fin⟩
 subst ex
 have e:=kit_D (K:=X.K) (d:=d) hT
 obtain⟨u,u',rfl,r1,r2⟩:=vals2 r
 cases r2
 cases d with
 | non=>rw[Rp.non_.mp h1]at r1;exact z5K I r1 .non e fun tk=>⟨.bl _,H,I.tok tk,rfl,fin⟩
 | bl b=>rw[Rp.bl_.mp h1]at r1;exact z5K I r1 (.bl b) e fun tk=>⟨.bl _,H,I.tok tk,rfl,fin⟩
 | int i=>rw[Rp.int_.mp h1]at r1;exact z5K I r1 (.int i) e fun tk=>⟨.bl _,H,I.tok tk,rfl,fin⟩
 | str x=>rw[Rp.str_.mp h1]at r1;exact z5K I r1 (.str x) e fun tk=>⟨.bl _,H,I.tok tk,rfl,fin⟩
 | lst ys =>
  obtain⟨p,vs,rfl,_,q1,q2⟩:=h1.items
  cases r1
  obtain⟨its,_,pl,_⟩:=I.list (SqL.of (K:=X.K) q1)
  obtain⟨o,ho,hc,_⟩:=pl.isList
  exact PySem.W.kia_one PySem.W.kitx_list I.kIn ⟨o,ho,hc⟩ e (fun z=>nomatch z) fun tk=>⟨.bl _,H,I.tok tk,rfl,fin⟩
 | scr ys =>
  obtain⟨p,rfl,_,q1⟩:=Rp.scr_.mp h1
  cases r1
  obtain⟨its,_,pl,_⟩:=I.list q1
  obtain⟨o,ho,hc,_⟩:=pl.isList
  exact PySem.W.kia_one PySem.W.kitx_list I.kIn ⟨o,ho,hc⟩ e (fun z=>nomatch z) fun tk=>⟨.bl _,H,I.tok tk,rfl,fin⟩
 | tup ys =>
  obtain⟨p,vs,rfl,q1,q2⟩:=Rp.tup_.mp h1
  cases r1
  obtain⟨its,_,pl,_⟩:=I.tuple q1
  obtain⟨o,ho,hc,_⟩:=pl
  exact PySem.W.kia_one PySem.W.kitx_tuple I.kIn ⟨o,ho,hc⟩ e (fun z=>nomatch z) fun tk=>⟨.bl _,H,I.tok tk,rfl,fin⟩
theorem z6Z{a:Expr}{Fa:FE}{x:Str}{T:String}{p q pos:Pos}(hT:okT T=true)(hg:Gl X "isinstance")(hm:X.mg "isinstance" = none)(hgT:Gl X x)(hmT:X.mg x=none)(hvT:bootBuiltins x=some (.type T))(ha:PF X a Fa)
  (hn:x ≠ "__name__" := by decide) (hd:(x==("__debug__" : Str))=false:=by decide) (hs1:starEach [.Name x q] X.env=[(false,eval (.Name x q) X.env)]:=by rfl)
  (hs:starEach [a,.Name x q] X.env=(false,eval a X.env)::starEach [.Name x q] X.env:=by rfl):PF X (.Call (.Name "isinstance" p) [a,.Name x q] [] pos) (fIsi T Fa) :=
 (zdr (zpU hT) hg hm boot_isinstance (z4z ha (z4z (pe_ty hgT hmT hvT hn hd) z9v hs1) hs) (by decide) (by decide) hs (by rw[hs1];rfl)).imp fun σ H Q hZ=>hZ.elim fun ρ hZ=>hZ.elim fun f hZ=>hZ.elim fun d hZ=>hZ.elim fun rs hZ=>hZ.elim fun e0 k=>by
  unfold fIsi at e0
  cases h:Fa ρ with
  | none=>rw[h]at e0;cases e0
  | some z =>
   rw[h]at e0
   cases e0
   exact⟨ρ,z.1,z.2,rs,h,fun v H1 s1 r1=>⟨z.2,v,rfl,r1.sh,k _ H1 s1 RpF.b_⟩⟩
abbrev FP:=Rho→Option (Option Int)
def upP(X:Cx)(F:FP):TO:=fun σ H Q=>∃ ρ o,RepS X.ky H ρ σ∧F ρ=some o∧∀ H',Same H H'→Q o H'
def PFP(X:Cx)(e:Option Expr)(F:FP):Prop:=PO X e (upP X F)
def z0L:FP:=fun _=>some none
def intD:Dt→Option Int
 | .int i=>some i
 | _=>none
def z1G(F:FE):FP:=fun ρ=>(F ρ).bind fun x=>(intD x.2).map some
theorem PO.imp{e:Option Expr}{t t':TO}(h:PO X e t)(q:∀ σ H Q,t' σ H Q→t σ H Q):PO X e t':=fun pins s σ H Q I z=>h pins s σ H Q I (q σ H Q z)
theorem z3T:PFP X none z0L:=zpG.imp (by rintro σ H Q ⟨ρ,o,rs,e,k⟩;cases e;exact k H (Same.refl H))
theorem z3U{e:Expr}{F:FE}(h:PF X e F):PFP X (some e) (z1G F):=(zpH h).imp fun σ H Q ⟨ρ,o,rs,e,k⟩=>by
 obtain⟨⟨f,d⟩,e1,e2⟩:=z05 e
 refine⟨ρ,f,d,rs,e1,fun v H1 s1 r1=>?_⟩
 cases d<;>first|cases e2|skip
 rename_i i
 exact⟨i,Rp.int_.mp r1.sh,k H1 s1⟩
def cutD{α:Type}(xs:List α)(lo hi:Option Int):List α:=(xs.drop (HT.sIx xs.length 0 lo)).take (HT.sIx xs.length xs.length hi-HT.sIx xs.length 0 lo)
def fSl(F:FE)(L U:FP):FE:=fun ρ=>(F ρ).bind fun x=>(L ρ).bind fun lo=>(U ρ).bind fun hi=>match x.2 with|.lst ds=>some (newL (cutD ds lo hi))|_=>none
theorem z2S{e:Expr}{F:FE}{lo hi:Option Expr}{L U:FP}{pos p2:Pos}(he:PF X e F)(hl:PFP X lo L)(hu:PFP X hi U):PF X (.Subscript e (.Slice lo hi none p2) pos) (fSl F L U) :=
 (zlC zpJ he hl hu).imp fun σ H Q hZ=>hZ.elim fun ρ hZ=>hZ.elim fun f hZ=>hZ.elim fun d hZ=>hZ.elim fun rs hZ=>hZ.elim fun e0 k=>by
  obtain⟨⟨fx,dx⟩,e1,e2⟩:=z05 e0
  obtain⟨l,e3,e4⟩:=z05 e2
  obtain⟨u,e5,e6⟩:=z05 e4
  clear e0 e2 e4
  refine⟨ρ,fx,dx,rs,e1,fun v H1 s1 r1=>⟨ρ,l,rs.mono s1,e3,fun H2 s2=>⟨ρ,u,rs.mono (s1.trans s2),e5,fun H3 s3=>?_⟩⟩⟩
  have ex:∃ ds,dx = .lst ds∧newL (cutD ds l u)=(f,d):=by
   cases dx<;>first|(rename_i ds;exact⟨ds,rfl,Option.some.inj e6⟩)|cases e6
  obtain⟨ds,rfl,e7⟩:=ex
  cases e7
  obtain⟨p,vs,rfl,_,q1,q2⟩:=(Rp.mono _ (s2.trans s3) r1.sh).items
  refine⟨p,vs,rfl,SqL.of q1,fun a ha=>k _ _ ((s1.trans (s2.trans s3)).trans (z1m ha)) ?_⟩
  have h1:Rps X.K emp (cutD ds l u) H3 (cutV vs l u):=by
   unfold cutD cutV
   rw[q2.length]
   exact Rps.take _ (Rps.drop _ q2)
  exact(z6V ha h1).early (s1.trans (s2.trans s3))
end
end L2

end
section
local macro_rules|`(tactic| omega)=>`(tactic| first|lia|omega +splitDisjunctions)
set_option Elab.async false
set_option linter.all false
set_option maxRecDepth 100000
namespace L2
open PySem PySem.Spec PyProof.Rows
def Walk(K:PySem.W.Frag)(J:It)(items:List Dt)(H1:Hp):Prop:=∀(A:List Addr) (H:Hp),Same H1 (hidL A H)→(∀ a∈A,∃ o,H a=some o) →
 (∀(i:Nat) (d:Dt),items[i]?=some d→J.go i H∧∀ x H',J.yld i H x H'→Same (hidL A H) (hidL A H')∧(∀ a∈A,H' a=H a)∧Rp K emp d (hidL A H') x)∧∀ i,items.length≤i→J.stop i H
abbrev FI:=Rho→Option (List Dt)
def upIK(Y:Ky)(F:FI):TI:=fun σ H R=>∃ ρ items,RepS Y H ρ σ∧F ρ=some items∧∀ J H',Same H H'→items.length≤sizeLine→Walk Y.K J items H'→R J H'
abbrev upI(X:Cx)(F:FI):TI:=upIK X.ky F
def PFI(X:Cx)(tg e:Expr)(F:FI):Prop:=PI X tg e (upI X F)
theorem PI.imp{X:Cx}{tg e:Expr}{t t':TI}(h:PI X tg e t)(q:∀ σ H Q,t' σ H Q→t σ H Q):PI X tg e t':=fun pins s σ H Q I z=>h pins s σ H Q I (q σ H Q z)
section
variable {X:Cx}{tg a b e:Expr}{Fa Fb Fe:FE}{pos:Pos}
theorem zkF{K:PySem.W.Frag}{p:Addr}{ds:List Dt}{vs:List V}{H1:Hp}(h1:SqL K H1 p vs)(h2:Rps K emp ds H1 vs):Walk K (Itl K p) ds H1:=by
 intro A H sm hA
 have s2:Same H1 H:=sm.trans z0O
 refine⟨fun i d e=>?_,fun i hi=>⟨vs,s2.seq h1,by rw[h2.length];exact hi⟩⟩
 obtain⟨v,e1,e2⟩:=h2.get e
 refine⟨⟨vs,v,s2.seq h1,e1⟩,?_⟩
 rintro x H' ⟨z,y⟩
 subst z
 have hx:=y vs (s2.seq h1)
 rw[e1]at hx
 cases hx
 exact⟨Same.refl _,fun _ _=>rfl,Rp.mono _ sm e2⟩
theorem zlU{K:PySem.W.Frag}{p:Addr}{ds:List Dt}{vs:List V}{H1:Hp}(h1:SqT K H1 p vs)(h2:Rps K emp ds H1 vs):Walk K (Itt K p) ds H1:=by
 intro A H sm hA
 have s2:Same H1 H:=sm.trans z0O
 refine⟨fun i d e=>?_,fun i hi=>⟨vs,s2.seqT h1,by rw[h2.length];exact hi⟩⟩
 obtain⟨v,e1,e2⟩:=h2.get e
 refine⟨⟨vs,v,s2.seqT h1,e1⟩,?_⟩
 rintro x H' ⟨z,y⟩
 subst z
 have hx:=y vs (s2.seqT h1)
 rw[e1]at hx
 cases hx
 exact⟨Same.refl _,fun _ _=>rfl,Rp.mono _ sm e2⟩
def z1Y(lo:Int)(n:Nat):List Dt:=(List.range n).map fun(k:Nat) => .int (lo+(k:Int))
theorem z6u{K:PySem.W.Frag}{lo:Int}{n:Nat}{H1:Hp}:Walk K (Itr lo n) (z1Y lo n) H1:=by
 intro A H sm hA
 refine⟨fun i d e=>?_,fun i hi=>by unfold z1Y at hi;rw[List.length_map,List.length_range]at hi;exact hi⟩
 unfold z1Y at e
 rw[List.getElem?_map]at e
 have hi:i<n:=by
  by_cases hi:i<n
  · exact hi
  · rw[List.getElem?_eq_none (by simp;omega)]at e;cases e
 rw[List.getElem?_range hi]at e
 cases e
 refine⟨hi,fun x H' hZ=>hZ.elim fun z y=>?_⟩
 subst z;subst y
 exact⟨Same.refl _,fun _ _=>rfl,Rp.int_.mpr rfl⟩
def seqD:Dt→Option (List Dt)
 | .lst ds=>some ds
 | .tup ds=>some ds
 | _=>none
def iSeq(F:FE):FI:=fun ρ=>(F ρ).bind fun x=>seqD x.2
theorem z1D(ha:PF X a Fa):PFI X tg a (iSeq Fa):=by
 intro pins s σ H R I ⟨ρ,items,rs,e0,k⟩
 obtain⟨⟨f,d⟩,e1,e2⟩:=z05 e0
 refine thn (ha pins s σ H (fun x H1=>Same H H1∧Rp X.K emp d H1 x) I ⟨ρ,f,d,rs,e1,fun v H1 s1 r1=>⟨s1,r1.sh⟩⟩) fun v s1 hZ=>hZ.elim fun x hZ=>hZ.elim fun H1 hZ=>hZ.elim fun I1 hZ=>hZ.elim fun r1 hZ=>hZ.elim fun sm rd=>?_
 cases d<;>first|cases e2|skip
 · rename_i ds
   obtain⟨p,vs,rfl,_,h1,h2⟩:=rd.items
   cases r1
   obtain⟨its,rv,pl,hz⟩:=I1.list (SqL.of (K:=X.K) h1)
   refine wpAny_pyIter_list pl.isList ?_
   refine⟨s1.heap.objs.size,[s1.heap.objs.size],_,_,H1,rfl,I1.kept (t':=s1.toks) fun b o e=>Heap.get?_push_of_some _ e,zkt p _,⟨_,Heap.get?_push_size _ rfl,rfl,rfl⟩,fun b hb=>?_,k _ H1 sm (by rw[←h2.length];exact hz) (zkF (SqL.of h1) h2)⟩
   have e:b=s1.heap.objs.size:=by simpa using hb
   subst e
   exact I1.fpOk (Nat.le_refl _) (I1.hok.fresh (Nat.le_refl _))
 · rename_i ds
   obtain⟨p,vs,rfl,h1,h2⟩:=Rp.tup_.mp rd
   cases r1
   obtain⟨its,rv,pl,hz⟩:=I1.tuple h1
   refine wpAny_pyIter_tuple (show s1.heap.IsTuple p its.toArray from pl) ?_
   refine⟨s1.heap.objs.size,[s1.heap.objs.size],_,_,H1,rfl,I1.kept (t':=s1.toks) fun b o e=>Heap.get?_push_of_some _ e,zeS p _,⟨_,Heap.get?_push_size _ rfl,rfl,rfl⟩,fun b hb=>?_,k _ H1 sm (by rw[←h2.length];exact hz) (zlU h1 h2)⟩
   have e:b=s1.heap.objs.size:=by simpa using hb
   subst e
   exact I1.fpOk (Nat.le_refl _) (I1.hok.fresh (Nat.le_refl _))
def z39(i:Int):Bool:=decide (-1000000≤i)&&decide (i≤1000000)
theorem zcH{i:Int}(h:z39 i=true): -1000000≤i∧i≤1000000:=by
 unfold z39 at h
 rw[Bool.and_eq_true]at h
 exact⟨of_decide_eq_true h.1,of_decide_eq_true h.2⟩
def z0l(F:FE):FI:=fun ρ=>(F ρ).bind fun x=>(intD x.2).bind fun j=>if z39 j then some (z1Y 0 j.toNat) else none
theorem z6v{lo:Int}{n:Nat}:(z1Y lo n).length=n:=by unfold z1Y;simp
theorem z5O{d:Dt}{i:Int}(h:intD d=some i):d = .int i:=by
 cases d<;>first|cases h|skip
 rfl
theorem z1o{p:Pos}(hg:Gl X "range")(hm:X.mg "range" = none)(ha:PF X a Fa)(hs:starEach [a] X.env=[(false,eval a X.env)]:=by rfl):PFI X tg (.Call (.Name "range" p) [a] [] pos) (z0l Fa) :=
 (zbb hg hm (z4z ha z9v hs) hs).imp fun σ H R hZ=>hZ.elim fun ρ hZ=>hZ.elim fun items hZ=>hZ.elim fun rs hZ=>hZ.elim fun e0 k=>by
  obtain⟨⟨f,d⟩,e1,e2⟩:=z05 e0
  obtain⟨j,e3,e4⟩:=z05 e2
  clear e0 e2
  have ed:=z5O e3
  cases (show d = .int j from ed)
  split at e4
  · rename_i hr
    cases e4
    obtain⟨h1,h2⟩:=zcH hr
    refine⟨ρ,f,_,rs,e1,fun v H1 s1 r1=>⟨j,by rw[Rp.int_.mp r1.sh],by omega,by omega,k _ H1 s1 ?_ z6u⟩⟩
    rw[z6v]
    have:sizeLine=16777216:=rfl
    omega
  · cases e4
def z9d(F G:FE):FI:=fun ρ=>(F ρ).bind fun x=>(G ρ).bind fun y=>(intD x.2).bind fun i=>(intD y.2).bind fun j=>if z39 i&&z39 j then some (z1Y i (j-i).toNat) else none
end
inductive Tg where
 | one (i:Nat)|many (is:List Nat)
def z2j:List Nat→TGs
 | []=>gNil
 | i::is=>gCons (z9s i) (z2j is)
def Tg.low(K:PySem.W.Frag):Tg→TG
 | .one i=>z9s i
 | .many is=>gTup K is.length (z2j is)
def z2A:Rho→List Nat→List Dt→Rho
 | ρ,i::is,d::ds=>z2A (ρ.set i (.sh false d)) is ds
 | ρ,_,_=>ρ
def Tg.put:Tg→Dt→Rho→Option Rho
 | .one i,d,ρ=>some (ρ.set i (.sh false d))
 | .many is,.tup ds,ρ=>if ds.length=is.length then some (z2A ρ is ds) else none
 | .many _,_,_=>none
def Tg.below(nt:Nat):Tg→Prop
 | .one i=>i<nt
 | .many is=>∀ i∈is,i<nt
def KeepS(nt:Nat)(σ σ':St):Prop:=σ'.length=σ.length∧∀ i,nt≤i→σ'[i]?=σ[i]?
theorem KeepS.refl{nt:Nat}{σ:St}:KeepS nt σ σ:=⟨rfl,fun _ _=>rfl⟩
theorem KeepS.set{nt i:Nat}{σ:St}{v:V}(h:i<nt):KeepS nt σ (σ.set i (some v)):=⟨List.length_set,fun j hj=>List.getElem?_set_ne (by omega)⟩
theorem KeepS.trans{nt:Nat}{a b c:St}(h:KeepS nt a b)(k:KeepS nt b c):KeepS nt a c:=⟨k.1.trans h.1,fun i hi=>(k.2 i hi).trans (h.2 i hi)⟩
theorem z8G:∀{is:List Nat} {vs:List V} {σ:St} {H:Hp} {Q Q':St→Hp→Prop},z2j is vs σ H Q→(∀ σ H,Q σ H→Q' σ H)→z2j is vs σ H Q':=by
 intro is
 induction is with
 | nil=>intro vs σ H Q Q' ⟨e,q⟩ k;exact⟨e,k _ _ q⟩
 | cons j js ih=>intro vs σ H Q Q' ⟨v,r,e,q⟩ k;exact⟨v,r,e,ih q k⟩
theorem zbm{nt:Nat}:∀{is:List Nat} {vs:List V} {σ:St} {H:Hp} {Q:St→Hp→Prop},(∀ i∈is,i<nt)→z2j is vs σ H Q→z2j is vs σ H fun σ2 H2=>KeepS nt σ σ2∧Q σ2 H2
 | [],vs,σ,H,Q,_,⟨e,q⟩=>⟨e,KeepS.refl,q⟩
 | i::is,vs,σ,H,Q,hi,⟨v,r,e,q⟩=>by
  refine⟨v,r,e,?_⟩
  have q:z2j is r (σ.set i (some v)) H Q:=q
  have z:=zbm (nt:=nt) (fun j hj=>hi j (List.mem_cons_of_mem _ hj)) q
  show z2j is r (σ.set i (some v)) H _
  exact z8G z fun σ2 H2 hZ=>hZ.elim fun k1 k2=>⟨(KeepS.set (hi i List.mem_cons_self)).trans k1,k2⟩
theorem Tg.ok{K:PySem.W.Frag}{nt:Nat}{g:Tg}(h:g.below nt):TgOk nt (g.low K):=by
 intro x σ H Q q
 cases g with
 | one i=>exact⟨KeepS.set h,q⟩
 | many is =>
  obtain⟨a,xs,e,hq,hl,q⟩:=q
  exact⟨a,xs,e,hq,hl,zbm h q⟩
theorem Tg.low_mono{K:PySem.W.Frag}{g:Tg}{v:V}{σ:St}{H:Hp}{Q Q':St→Hp→Prop}(h:g.low K v σ H Q)(k:∀ σ H,Q σ H→Q' σ H):g.low K v σ H Q':=by
 cases g with
 | one i=>exact k _ _ h
 | many is =>
  obtain⟨a,xs,e,hq,hl,q⟩:=h
  exact⟨a,xs,e,hq,hl,z8G q k⟩
section
variable {Y:Ky}{H H':Hp}{ρ:Rho}{σ:St}
theorem RepS.set(h:RepS Y H ρ σ){i:Nat}{f:Bool}{d:Dt}{v:V}(r:Rp Y.K (bsOf Y f) d H v):RepS Y H (ρ.set i (.sh f d)) (σ.set i (some v)):=by
 refine⟨by rw[List.length_set,List.length_set];exact h.len,h.base,fun j c q=>?_⟩
 by_cases e:i=j
 · subst e
   rw[List.getElem?_set]at q ⊢
   rw[if_pos rfl]at q ⊢
   split at q
   · rename_i hl
     cases q
     rw[if_pos (by rw[←h.len];exact hl)]
     exact⟨_,rfl,v,rfl,r⟩
   · cases q
 · rw[List.getElem?_set_ne e]at q ⊢
   exact h.at_ j c q
theorem z9E{Hh:Hp}{ρ':Rho}:∀{is:List Nat} {ds:List Dt} {vs:List V} {ρ:Rho} {σ:St},RepS Y Hh ρ σ→Rps Y.K emp ds Hh vs→ds.length=is.length→z2A ρ is ds=ρ' →
  z2j is vs σ H fun σ' H'=>H'=H∧RepS Y Hh ρ' σ'
 | [],[],vs,ρ,σ,rs,r,hl,q=>⟨Rps.nil_.mp r,rfl,by rw[←q];exact rs⟩
 | [],d::ds,vs,ρ,σ,rs,r,hl,q=>by cases hl
 | i::is,[],vs,ρ,σ,rs,r,hl,q=>by cases hl
 | i::is,d::ds,vs,ρ,σ,rs,r,hl,q=>by
  obtain⟨v,r',rfl,h1,h2⟩:=Rps.cons_.mp r
  exact⟨v,r',rfl,z9E (rs.set (f:=false) h1) h2 (by simpa using hl) q⟩
theorem Tg.sim{Hh:Hp}{g:Tg}{d:Dt}{v:V}{ρ':Rho}(sm:Same Hh H)(rs:RepS Y Hh ρ σ)(r:Rp Y.K emp d Hh v)(h:g.put d ρ=some ρ'):
  g.low Y.K v σ H fun σ' H'=>H'=H∧RepS Y Hh ρ' σ':=by
 cases g with
 | one i=>cases h;exact⟨rfl,rs.set (f:=false) r⟩
 | many is =>
  cases d<;>first|cases h|skip
  rename_i ds
  replace h:(if ds.length=is.length then some (z2A ρ is ds) else none)=some ρ':=h
  split at h
  · rename_i hl
    obtain⟨a,vs,rfl,h1,h2⟩:=Rp.tup_.mp r
    exact⟨a,vs,rfl,sm.seqT h1,by rw[h2.length];exact hl,z9E rs h2 hl (Option.some.inj h)⟩
  · cases h
end
section
variable {X:Cx}{pos:Pos}
theorem z0P{i:Nat}{x:Str}(hN:X.N.Nodup)(hi:X.N[i]?=some x)(hx:Loc X.env.scope x)(hf:X.fn x=true∨X.env.scope.names.lookup x=some .local):PG X (.Name x pos) ((Tg.one i).low X.K):=z0J hN hi hx hf
theorem z3q:PGs X [] (z2j []):=zpz
theorem z0R{e:Expr}{es:List Expr}{i:Nat}{is:List Nat}(h1:PG X e (z9s i))(h2:PGs X es (z2j is))(hs:(assignEach (e::es) X.env).map (·.2)=assign e X.env::(assignEach es X.env).map (·.2):=by rfl):PGs X (e::es) (z2j (i::is)):=zlu h1 h2 hs
theorem z3r{es:List Expr}{k:Nat}{is:List Nat}(hc:X.calm=true)(h:PGs X es (z2j is))(hn:(assignEach es X.env).length=is.length:=by rfl)(hst:(assignEach es X.env).findIdx? (·.1)=none:=by rfl):PG X (.Tuple es k pos) ((Tg.many is).low X.K):=pg_tup hc h hn hst
end
def z57(g:Tg)(Fc:FT)(Fe:FE)(ρ0:Rho):List Dt→Option (List Dv)
 | []=>some []
 | x::xs=>(g.put x ρ0).bind fun ρ1=>(Fc ρ1).bind fun b=>if b then(Fe ρ1).bind fun v=>(z57 g Fc Fe ρ0 xs).bind fun r=>some (v::r) else z57 g Fc Fe ρ0 xs
def z58:Cell→Cell
 | .no => .no
 | .sh _ d => .sh false d
 | .ow _ ds => .sh false (.lst ds)
def sigD(nt:Nat)(js:List Nat)(ρ:Rho):Rho:=List.replicate nt Cell.no++js.map fun j=>match ρ[j]? with|some c=>z58 c|none => .no
def z0e(nt:Nat)(js:List Nat)(Fi:FI)(g:Tg)(Fc:FT)(Fe:FE):FE:=fun ρ=>(Fi ρ).bind fun items=>(z57 g Fc Fe (sigD nt js ρ) items).bind fun vs=>some (if z38 vs then .nw else .tn,.lst (sndL vs))
theorem z7O{g:Tg}{Fc:FT}{Fe:FE}{ρ0:Rho}:∀{xs:List Dt} {vs:List Dv},z57 g Fc Fe ρ0 xs=some vs→vs.length≤xs.length
 | [],vs,h=>by cases h;exact Nat.le_refl _
 | x::xs,vs,h=>by
  unfold z57 at h
  obtain⟨ρ1,_,h⟩:=z05 h
  obtain⟨b,_,h⟩:=z05 h
  split at h
  · obtain⟨v,_,h⟩:=z05 h
    obtain⟨r,h1,h⟩:=z05 h
    cases h
    have:=z7O h1
    rw[List.length_cons,List.length_cons];omega
  · have:=z7O h
    rw[List.length_cons];omega
def PFTs(X:Cx)(ifs:List Expr)(F:FT):Prop:=PTs X ifs (upB X F)
def fYes:FT:=fun _=>some true
theorem z0C{X:Cx}:PFTs X [] fYes:=fun pins s σ H Q I hZ=>hZ.elim fun ρ hZ=>hZ.elim fun b hZ=>hZ.elim fun rs hZ=>hZ.elim fun e k=>by cases e;exact zpM pins s σ H Q I (k H (Same.refl H))
theorem zf1{X:Cx}{c:Expr}{F:FT}(h:PFT X c F):PFTs X [c] F:=zpN h
theorem RpC.shS{Y:Ky}{H H1:Hp}{c:Cell}{o:Option V}(h:RpC Y H c o):RpC ⟨Y.K,H1⟩ H (z58 c) o:=by
 cases c with
 | no=>trivial
 | sh f d=>obtain⟨v,q,r⟩:=h;exact⟨v,q,Rp.anti Same.emp d r⟩
 | ow f ds=>obtain⟨v,q,r⟩:=h;exact⟨v,q,Rp.anti Same.emp _ r⟩
theorem RepS.sigs{Y:Ky}{H H1:Hp}{ρ:Rho}{σ:St}{nt:Nat}{js:List Nat}(h:RepS Y H ρ σ)(hj:∀ j∈js,j<σ.length)(h1:Same H1 H):RepS ⟨Y.K,H1⟩ H (sigD nt js ρ) (sig nt js σ):=by
 unfold sigD sig
 refine⟨by simp,h1,fun i c q=>?_⟩
 by_cases hi:i<nt
 · rw[List.getElem?_append_left (by simpa using hi),List.getElem?_replicate,if_pos hi]at q
   cases q
   exact⟨none,by rw[List.getElem?_append_left (by simpa using hi),List.getElem?_replicate,if_pos hi],trivial⟩
 · rw[List.getElem?_append_right (by simp;omega),List.length_replicate,List.getElem?_map]at q
   rw[List.getElem?_append_right (by simp;omega),List.length_replicate,List.getElem?_map]
   cases ej:js[i-nt]? with
   | none=>rw[ej]at q;cases q
   | some j =>
    rw[ej]at q
    have hlt:=hj j (List.mem_of_getElem? ej)
    have hlt':j<ρ.length:=by rw[h.len];exact hlt
    rw[Option.map_some,List.getElem?_eq_getElem hlt']at q
    cases q
    obtain⟨o,e1,e2⟩:=h.at_ j _ (List.getElem?_eq_getElem hlt')
    refine⟨o,?_,e2.shS⟩
    rw[Option.map_some,e1];rfl
def frE(t:Hp→TE)(H1:Hp):TE:=fun σ H Q=>∃ A:List Addr,(∀ a∈A,(∃ vs,H a=some (.lst vs))∧H1 a=none)∧t H1 σ (hidL A H) fun v H'=>(∀ a∈A,H' a=none)→Q v (z1l A H H')
def frT(t:Hp→TT)(H1:Hp):TT:=fun σ H Q=>∃ A:List Addr,(∀ a∈A,(∃ vs,H a=some (.lst vs))∧H1 a=none)∧t H1 σ (hidL A H) fun v H'=>(∀ a∈A,H' a=none)→Q v (z1l A H H')
theorem PTs.frame{Y:Cx}{ifs:List Expr}{t:Hp→TT}(h:PTs Y ifs (t Y.H₀)):PTs Y ifs (frT t Y.H₀):=by
 intro pins s σ H Q I ⟨A,hA,z⟩
 refine thn (h _ s σ _ _ (I.hide hA) z) ?_
 rintro u s' ⟨H',J,q⟩
 obtain⟨hn,J'⟩:=I.unhide hA J
 exact⟨_,J',q hn⟩
theorem zcI{D:Addr}{H:Hp}{o:HO}:hidL [D] (upd H D o)=hidL [D] H:=funext fun b=>by
 by_cases q:b=D
 · subst q;rw[z2R (by simp),z2R (by simp)]
 · rw[z0r (by simpa using q),z0r (by simpa using q),z0x q]
theorem zlV{D:Addr}{H:Hp}(h:H D=none):hidL [D] H=H:=funext fun b=>by
 by_cases q:b=D
 · subst q;rw[z2R (by simp),h]
 · rw[z0r (by simpa using q)]
section
variable {X:Cx}{N:List Str}{scope:Scope}{nt:Nat}{js:List Nat}{tg elt iter:Expr}{ifs:List Expr}{Fi:FI}{g:Tg}{Fc:FT}{Fe:FE}{pos:Pos}
theorem RpFs.append{Y:Ky}{H H':Hp}:∀{xs ys:List Dv} {vs ws:List V},RpFs Y H xs H' vs→RpFs Y H ys H' ws→RpFs Y H (xs++ys) H' (vs++ws)
 | [],ys,vs,ws,h,h'=>by rw[show vs=[]from h];exact h'
 | x::xs,ys,vs,ws,⟨v,r,e,h1,h2⟩,h'=>⟨v,r++ws,by rw[e];rfl,h1,RpFs.append h2 h'⟩
def RpE(Y:Ky)(x:Dv)(H':Hp)(v:V):Prop:=if x.1.isFr then Rp Y.K Y.H₀ x.2 H' v else Rp Y.K emp x.2 H' v
def RpEs(Y:Ky):List Dv→Hp→List V→Prop
 | [],_,vs=>vs=[]
 | x::xs,H',vs=>∃ v r,vs=v::r∧RpE Y x H' v∧RpEs Y xs H' r
theorem RpE.of{Y:Ky}{H H':Hp}{x:Dv}{v:V}(h0:Same Y.H₀ H)(h:RpF Y H x.1 x.2 H' v):RpE Y x H' v:=by
 unfold RpE
 by_cases q:x.1.isFr=true
 · rw[if_pos q];exact h.fr h0 q
 · rw[if_neg q];exact h.sh
theorem RpE.mono{Y:Ky}{H H':Hp}{x:Dv}{v:V}(h:RpE Y x H v)(s:Same H H'):RpE Y x H' v:=by
 unfold RpE at h ⊢
 by_cases q:x.1.isFr=true
 · rw[if_pos q]at h ⊢;exact Rp.mono _ s h
 · rw[if_neg q]at h ⊢;exact Rp.mono _ s h
theorem RpEs.mono{Y:Ky}{H H':Hp}(s:Same H H'):∀{xs:List Dv} {vs:List V},RpEs Y xs H vs→RpEs Y xs H' vs
 | [],vs,h=>h
 | x::xs,vs,⟨v,r,e,h1,h2⟩=>⟨v,r,e,h1.mono s,RpEs.mono s h2⟩
theorem RpEs.append{Y:Ky}{H':Hp}:∀{xs ys:List Dv} {vs ws:List V},RpEs Y xs H' vs→RpEs Y ys H' ws→RpEs Y (xs++ys) H' (vs++ws)
 | [],ys,vs,ws,h,h'=>by rw[show vs=[]from h];exact h'
 | x::xs,ys,vs,ws,⟨v,r,e,h1,h2⟩,h'=>⟨v,r++ws,by rw[e];rfl,h1,RpEs.append h2 h'⟩
theorem RpEs.length{Y:Ky}{H':Hp}:∀{xs:List Dv} {vs:List V},RpEs Y xs H' vs→vs.length=xs.length
 | [],vs,h=>by rw[show vs=[]from h];rfl
 | x::xs,vs,⟨v,r,e,_,h2⟩=>by rw[e,List.length_cons,List.length_cons,RpEs.length h2]
theorem RpEs.sh{Y:Ky}{H':Hp}:∀{xs:List Dv} {vs:List V},RpEs Y xs H' vs→Rps Y.K emp (sndL xs) H' vs
 | [],vs,h=>Rps.nil_.mpr h
 | x::xs,vs,⟨v,r,e,h1,h2⟩=>by
  refine Rps.cons_.mpr ⟨v,r,e,?_,RpEs.sh h2⟩
  unfold RpE at h1
  split at h1
  · exact Rp.anti Same.emp _ h1
  · exact h1
theorem RpEs.fr{Y:Ky}{H':Hp}:∀{xs:List Dv} {vs:List V},z38 xs=true→RpEs Y xs H' vs→Rps Y.K Y.H₀ (sndL xs) H' vs
 | [],vs,_,h=>Rps.nil_.mpr h
 | x::xs,vs,q,⟨v,r,e,h1,h2⟩=>by
  unfold z38 at q
  rw[Bool.and_eq_true]at q
  refine Rps.cons_.mpr ⟨v,r,e,?_,RpEs.fr q.2 h2⟩
  unfold RpE at h1
  rw[if_pos q.1]at h1
  exact h1
theorem zjJ{σ:St}{H:Hp}{Q:VK}(hj:∀ j∈js,j<σ.length)(h:upF X (z0e nt js Fi g Fc Fe) σ H Q):
   zjB nt js (upI X Fi) (g.low X.K) (frT fun H1=>upBK ⟨X.K,H1⟩ Fc) (frE fun H1=>upK ⟨X.K,H1⟩ Fe) σ H Q:=by
 obtain⟨ρ,f,d,rs,e0,k⟩:=h
 obtain⟨items,ei,e1⟩:=z05 e0
 obtain⟨vs0,ec,e2⟩:=z05 e1
 cases e2
 clear e0 e1
 refine⟨ρ,items,rs,ei,fun J H1 sm hsz wk D hD=>?_⟩
 have nD:H D=none:=sm.free hD
 refine⟨fun i m ys H2=>m=items.length-i∧H2 D=some (.lst ys)∧Same H1 (hidL [D] H2)∧∃ ds rest,RpEs ⟨X.K,H1⟩ ds (hidL [D] H2) ys∧z57 g Fc Fe (sigD nt js ρ) (items.drop i)=some rest∧ds++rest=vs0,⟨_,rfl,z13,?_,[],vs0,rfl,ec,rfl⟩,?_⟩
 · rw[zcI,zlV hD];exact Same.refl _
 rintro i m ys H2 ⟨rfl,e2,s2,ds,rest,r2,c2,es⟩
 obtain⟨w1,w2⟩:=wk [D] H2 s2 (fun a ha=>by rw[List.mem_singleton.mp ha];exact⟨_,e2⟩)
 by_cases hlt:i<items.length
 · obtain⟨x,hx⟩:∃ x,items[i]?=some x:=⟨_,List.getElem?_eq_getElem hlt⟩
   have hdrop:items.drop i=x::items.drop (i+1):=by
     rw[List.drop_eq_getElem_cons hlt]
     rw[List.getElem?_eq_getElem hlt]at hx
     cases hx;rfl
   rw[hdrop]at c2
   unfold z57 at c2
   obtain⟨ρ1,p1,c3⟩:=z05 c2
   obtain⟨b,p2,c4⟩:=z05 c3
   obtain⟨go,yl⟩:=w1 i x hx
   refine .inr ⟨go,fun xv H3 y3=>?_⟩
   obtain⟨s3,k3,r3⟩:=yl xv H3 y3
   have e3:H3 D=some (.lst ys):=by rw[k3 D (by simp)];exact e2
   have s13:Same H1 (hidL [D] H3):=s2.trans s3
   refine Tg.low_mono (Tg.sim (Y:=⟨X.K,H1⟩) (Hh:=hidL [D] H3) z0O ((rs.mono (sm.trans s13)).sigs hj s13) r3 p1) ?_
   rintro σ4 H4 ⟨eH,rs4⟩
   subst eH
   have own:∀{H':Hp},H' D=some (.lst ys)→∀ a∈[D],(∃ vs,H' a=some (.lst vs))∧H1 a=none:=fun{H'} z a ha=>by
     rw[List.mem_singleton.mp ha]
     exact⟨⟨ys,z⟩,hD⟩
   refine⟨[D],own e3,ρ1,b,rs4,p2,fun H5 s5 n5=>?_⟩
   have h5:hidL [D] (z1l [D] H4 H5)=H5:=z3n n5
   have e5:z1l [D] H4 H5 D=some (.lst ys):=by rw[z5L (by simp)];exact e3
   have m5:items.length-(i+1)<items.length-i:=by omega
   dsimp only
   cases b with
   | true =>
     rw[if_pos rfl]at c4 ⊢
     obtain⟨⟨fv,dv⟩,p3,c5⟩:=z05 c4
     obtain⟨rest',p4,c6⟩:=z05 c5
     cases c6
     have rs5:RepS ⟨X.K,H1⟩ H5 ρ1 σ4:=rs4.mono s5
     refine⟨[D],own e5,ρ1,fv,dv,by rw[h5];exact rs5,p3,fun v H6 s6 r6 n6=>?_⟩
     rw[h5]at s6 r6
     have h6:hidL [D] (z1l [D] (z1l [D] H4 H5) H6)=H6:=z3n n6
     have r2':RpEs ⟨X.K,H1⟩ ds H6 ys:=r2.mono (s3.trans (s5.trans s6))
     have hlen:ys.length<sizeLine:=by
       have a1:=z7O ec
       have a2:=r2.length
       rw[←es,List.length_append,List.length_cons]at a1
       omega
     refine⟨by rw[z5L (by simp)];exact e5,hlen,_,m5,rfl,z13,?_,ds++[(fv,dv)],rest',?_,p4,by rw[List.append_assoc];exact es⟩
     · rw[zcI,h6];exact s13.trans (s5.trans s6)
     · rw[zcI,h6];exact r2'.append ⟨v,[],rfl,RpE.of rs5.base r6,rfl⟩
   | false =>
     rw[if_neg Bool.false_ne_true]at c4 ⊢
     refine⟨_,m5,rfl,e5,?_,ds,rest,?_,c4,es⟩
     · rw[h5];exact s13.trans s5
     · rw[h5];exact r2.mono (s3.trans s5)
 · have hd:items.drop i=[]:=List.drop_of_length_le (by omega)
   rw[hd]at c2
   cases c2
   rw[List.append_nil]at es
   subst es
   refine .inl ⟨w2 i (by omega),k _ H2 (sm.trans (s2.trans z0O)) ?_⟩
   by_cases q:z38 ds=true
   · rw[if_pos q]
     exact(Rp.lst_ (K:=X.K) (B:=H)).mpr ⟨D,ys,rfl,nD,e2,Rps.anti (show Same H H1 from sm) _ (r2.fr q)⟩
   · rw[if_neg q]
     exact⟨Rp.lst_.mpr ⟨D,ys,rfl,rfl,e2,r2.sh⟩,⟨_,rfl⟩,fun a e=>by cases e;exact nD⟩
theorem z0F(S:CompScope X N scope nt js)(hc:X.calm=true)(hi:PFI X tg iter Fi)(hg:∀ cl C fp s H,PG (z16 X N scope cl C fp s H) tg (g.low X.K))(hb:g.below nt)
  (hcs:∀ cl C fp s H,PFTs (z16 X N scope cl C fp s H) ifs Fc) (he:∀ cl C fp s H,PF (z16 X N scope cl C fp s H) elt Fe) (hj:∀ j∈js,j<X.N.length)
  (hs:∀ x,foldedSetIterable iter X.env x=pure x:=by intro _;rfl):PF X (.ListComp elt [⟨tg,iter,ifs,0⟩] scope pos) (z0e nt js Fi g Fc Fe):=by
 intro pins s σ H Q I h
 exact zpO S hc hi hg (Tg.ok hb) (fun cl C fp s H=>PTs.frame (t:=fun H1=>upBK ⟨X.K,H1⟩ Fc) (hcs cl C fp s H)) (fun cl C fp s H=>PE.frame (he cl C fp s H)) hs pins s σ H Q I (zjJ (fun j z=>by rw[I.len];exact hj j z) h)
end
end L2

end
section
local macro_rules|`(tactic| omega)=>`(tactic| first|lia|omega +splitDisjunctions)
set_option Elab.async false
set_option linter.all false
set_option maxRecDepth 100000
namespace L2
open PySem PySem.Spec PyProof.Rows
abbrev Own:=List (Nat×Addr)
abbrev Own.adr(O:Own):List Addr:=O.map (·.2)
def CellB(X:Cx)(H:Hp)(O:Own)(i:Nat):Cell→Option V→Prop
 | .no,_=>True
 | .sh f d,o=>∃ v,o=some v∧Rp X.K (bsOf X.ky f) d (hidL O.adr H) v
 | .ow f ds,o=>∃ a vs,(i,a)∈O∧o=some (.ref a)∧H a=some (.lst vs)∧Rps X.K (bsOf X.ky f) ds (hidL O.adr H) vs
structure RepO(X:Cx)(H₀ H:Hp)(O:Own)(ρ:Rho)(σ:St):Prop where
 ndA:O.adr.Nodup
 ndI:(O.map (·.1)).Nodup
 own:OwnL X O.adr H
 len:ρ.length=σ.length
 b0:Same X.H₀ H₀
 same:Same H₀ (hidL O.adr H)
 at_:∀(i:Nat) (c:Cell),ρ[i]?=some c→∃ o,σ[i]?=some o∧CellB X H O i c o
def RepB(X:Cx)(H₀ H:Hp)(ρ:Rho)(σ:St):Prop:=∃ O,RepO X H₀ H O ρ σ
def z59:Cell→Cell
 | .ow _ _ => .no
 | c=>c
def z1H:Rho→Rho
 | []=>[]
 | c::ρ=>z59 c::z1H ρ
theorem zbn:∀ ρ:Rho,z1H ρ=ρ.map z59
 | []=>rfl
 | c::ρ=>by rw[z1H,zbn ρ,List.map_cons]
section
variable {X:Cx}{H₀ H H':Hp}{O:Own}{ρ:Rho}{σ:St}
theorem RepO.mono(h:RepO X H₀ H O ρ σ)(sm:Same H H'):RepO X H₀ H' O ρ σ:=by
 refine⟨h.ndA,h.ndI,fun a ha=>?_,h.len,h.b0,h.same.trans (z29 sm),fun i c e=>?_⟩
 · obtain⟨⟨vs,q⟩,z⟩:=h.own a ha
   exact⟨⟨vs,sm _ _ q⟩,z⟩
 · obtain⟨o,e1,e2⟩:=h.at_ i c e
   refine⟨o,e1,?_⟩
   cases c with
   | no=>trivial
   | sh f d=>obtain⟨v,q,r⟩:=e2;exact⟨v,q,Rp.mono _ (z29 sm) r⟩
   | ow f ds=>obtain⟨a,vs,q1,q2,q3,r⟩:=e2;exact⟨a,vs,q1,q2,sm _ _ q3,Rps.mono _ (z29 sm) r⟩
theorem RepO.base(h:RepO X H₀ H O ρ σ){H1:Hp}(sm:Same H1 H₀)(b:Same X.H₀ H1):RepO X H1 H O ρ σ:=⟨h.ndA,h.ndI,h.own,h.len,b,sm.trans h.same,h.at_⟩
theorem RepO.below(h:RepO X H₀ H O ρ σ):Same X.H₀ H:=h.b0.trans (h.same.trans z0O)
theorem RepO.bsFree(h:RepO X H₀ H O ρ σ){a:Addr}(ha:a∈O.adr)(f:Bool):bsOf X.ky f a=none:=by
 cases f with
 | false=>rfl
 | true=>exact(h.own a ha).2
theorem z4I{i:Nat}{a:Addr}(h:(i,a)∈O):a∈O.adr:=List.mem_map.mpr ⟨_,h,rfl⟩
theorem RepO.all(h:RepO X H₀ H O ρ σ):RepS X.ky H ρ σ:=by
 refine⟨h.len,h.below,fun i c e=>?_⟩
 obtain⟨o,e1,e2⟩:=h.at_ i c e
 refine⟨o,e1,?_⟩
 cases c with
 | no=>trivial
 | sh f d=>obtain⟨v,q,r⟩:=e2;exact⟨v,q,Rp.mono _ z0O r⟩
 | ow f ds =>
  obtain⟨a,vs,q1,q2,q3,r⟩:=e2
  exact⟨_,q2,Rp.lst_.mpr ⟨a,vs,rfl,h.bsFree (z4I q1) f,q3,Rps.mono _ (z42 fun b hb=>by rw[List.mem_singleton.mp hb];exact z4I q1) r⟩⟩
theorem RepO.rest(h:RepO X H₀ H O ρ σ):RepS X.ky (hidL O.adr H) (z1H ρ) σ:=by
 rw[zbn]
 refine⟨by rw[List.length_map];exact h.len,h.b0.trans h.same,fun i c e=>?_⟩
 rw[List.getElem?_map]at e
 cases q:ρ[i]? with
 | none=>rw[q]at e;cases e
 | some c' =>
  rw[q]at e
  obtain⟨o,e1,e2⟩:=h.at_ i c' q
  refine⟨o,e1,?_⟩
  cases c' with
  | no=>cases e;trivial
  | sh f d=>cases e;obtain⟨v,q,r⟩:=e2;exact⟨v,q,r⟩
  | ow f ds=>cases e;trivial
def z47(O:Own)(i:Nat):Own:=O.filter fun p=>p.1 != i
theorem z2B{p:Nat×Addr}{i:Nat}:p∈z47 O i↔p∈O∧p.1≠i:=by
 unfold z47
 rw[List.mem_filter]
 simp
theorem z1Q{i:Nat}:∀ a∈(z47 O i).adr,a∈O.adr:=fun a ha=>by
 obtain⟨p,hp,e⟩:=List.mem_map.mp ha
 exact List.mem_map.mpr ⟨p,(z2B.mp hp).1,e⟩
theorem RepO.set(h:RepO X H₀ H O ρ σ){i:Nat}{f:Bool}{d:Dt}{v:V}(r:Rp X.K (bsOf X.ky f) d (hidL O.adr H) v):RepO X H₀ H (z47 O i) (ρ.set i (.sh f d)) (σ.set i (some v)):=by
 have sm:Same (hidL O.adr H) (hidL (z47 O i).adr H):=z42 z1Q
 refine⟨h.ndA.sublist (List.Sublist.map _ (List.filter_sublist)),h.ndI.sublist (List.Sublist.map _ (List.filter_sublist)),fun a ha=>h.own a (z1Q a ha),by rw[List.length_set,List.length_set];exact h.len,h.b0,h.same.trans sm,fun j c q=>?_⟩
 by_cases e:i=j
 · subst e
   rw[List.getElem?_set,if_pos rfl]at q
   rw[List.getElem?_set,if_pos rfl]
   split at q
   · rename_i hl
     cases q
     rw[if_pos (by rw[←h.len];exact hl)]
     exact⟨_,rfl,v,rfl,Rp.mono _ sm r⟩
   · cases q
 · rw[List.getElem?_set_ne e]at q ⊢
   obtain⟨o,e1,e2⟩:=h.at_ j c q
   refine⟨o,e1,?_⟩
   cases c with
   | no=>trivial
   | sh f d=>obtain⟨v,q,r⟩:=e2;exact⟨v,q,Rp.mono _ sm r⟩
   | ow f ds=>obtain⟨a,vs,q1,q2,q3,r⟩:=e2;exact⟨a,vs,z2B.mpr ⟨q1,fun z=>e z.symm⟩,q2,q3,Rps.mono _ sm r⟩
theorem z9F{D:Addr}{A:List Addr}{H:Hp}:hidL A (hidL [D] H)=hidL (D::A) H:=funext fun b=>by
 unfold hidL
 by_cases q1:b=D
 · subst q1;simp
 · by_cases q2:b∈A
   · simp[q1,q2]
   · simp[q1,q2]
theorem RepO.setNew(h:RepO X H₀ H' O ρ σ){i:Nat}{D:Addr}{f:Bool}{ds:List Dt}{vs:List V}(hi:i<ρ.length)(sm0:Same H' H)(hN:H' D=none)(hD:H D=some (.lst vs))(hn:D ∉ O.adr)(hX:X.H₀ D=none)
   (r:Rps X.K (bsOf X.ky f) ds (hidL (D::O.adr) H) vs):RepO X H₀ H ((i,D)::z47 O i) (ρ.set i (.ow f ds)) (σ.set i (some (.ref D))):=by
 have sub:∀ a∈(Own.adr ((i,D)::z47 O i)),a∈D::O.adr:=fun a ha=>by
   rcases List.mem_cons.mp ha with z|z
   · rw[z];exact List.mem_cons_self
   · exact List.mem_cons_of_mem _ (z1Q a z)
 have sm:Same (hidL (D::O.adr) H) (hidL (Own.adr ((i,D)::z47 O i)) H):=z42 sub
 have sm1:Same H' (hidL [D] H):=fun b o e=>by
   rw[z0r (by rw[List.mem_singleton];rintro rfl;rw[hN]at e;cases e)];exact sm0 _ _ e
 have sm2:Same (hidL O.adr H') (hidL (D::O.adr) H):=by rw[←z9F];exact z29 sm1
 have nD:D ∉ (z47 O i).adr:=fun z=>hn (z1Q D z)
 refine⟨List.nodup_cons.mpr ⟨nD,h.ndA.sublist (List.Sublist.map _ (List.filter_sublist))⟩,List.nodup_cons.mpr ⟨fun z=>?_,h.ndI.sublist (List.Sublist.map _ (List.filter_sublist))⟩,fun a ha=>?_,by rw[List.length_set,List.length_set];exact h.len,h.b0,h.same.trans (sm2.trans sm),fun j c q=>?_⟩
 · obtain⟨p,hp,e⟩:=List.mem_map.mp z
   exact(z2B.mp hp).2 e
 · rcases List.mem_cons.mp ha with z|z
   · rw[z];exact⟨⟨vs,hD⟩,hX⟩
   · obtain⟨⟨ws,q⟩,z2⟩:=h.own a (z1Q a z)
     exact⟨⟨ws,sm0 _ _ q⟩,z2⟩
 · by_cases e:i=j
   · subst e
     rw[List.getElem?_set,if_pos rfl,if_pos hi]at q
     rw[List.getElem?_set,if_pos rfl,if_pos (by rw[←h.len];exact hi)]
     cases q
     exact⟨_,rfl,D,vs,List.mem_cons_self,rfl,hD,Rps.mono _ sm r⟩
   · rw[List.getElem?_set_ne e]at q ⊢
     obtain⟨o,e1,e2⟩:=h.at_ j c q
     refine⟨o,e1,?_⟩
     cases c with
     | no=>trivial
     | sh f d=>obtain⟨v,q,r⟩:=e2;exact⟨v,q,Rp.mono _ (sm2.trans sm) r⟩
     | ow f ds' =>
      obtain⟨a,vs',q1,q2,q3,r⟩:=e2
      exact⟨a,vs',List.mem_cons_of_mem _ (z2B.mpr ⟨q1,fun z=>e z.symm⟩),q2,sm0 _ _ q3,Rps.mono _ (sm2.trans sm) r⟩
theorem zjK{O:Own}(nd:O.adr.Nodup):∀{p q:Nat×Addr},p∈O→q∈O→p.2=q.2→p=q:=by
 induction O with
 | nil=>intro p q hp;cases hp
 | cons o O ih =>
  intro p q hp hq e
  have nd:(o.2::O.map (·.2)).Nodup:=nd
  obtain⟨n1,n2⟩:=List.nodup_cons.mp nd
  rcases List.mem_cons.mp hp with hp|hp<;>rcases List.mem_cons.mp hq with hq|hq
  · rw[hp,hq]
  · exact absurd (List.mem_map.mpr ⟨q,hq,by rw[←e,hp]⟩) n1
  · exact absurd (List.mem_map.mpr ⟨p,hp,by rw[e,hq]⟩) n1
  · exact ih n2 hp hq e
theorem zpV{O:Own}(nd:(O.map (·.1)).Nodup):∀{p q:Nat×Addr},p∈O→q∈O→p.1=q.1→p=q:=by
 induction O with
 | nil=>intro p q hp;cases hp
 | cons o O ih =>
  intro p q hp hq e
  have nd:(o.1::O.map (·.1)).Nodup:=nd
  obtain⟨n1,n2⟩:=List.nodup_cons.mp nd
  rcases List.mem_cons.mp hp with hp|hp<;>rcases List.mem_cons.mp hq with hq|hq
  · rw[hp,hq]
  · exact absurd (List.mem_map.mpr ⟨q,hq,by rw[←e,hp]⟩) n1
  · exact absurd (List.mem_map.mpr ⟨p,hp,by rw[e,hq]⟩) n1
  · exact ih n2 hp hq e
theorem zf2{A:List Addr}{a:Addr}{o:HO}{H:Hp}(h:a∈A):hidL A (upd H a o)=hidL A H:=funext fun b=>by
 by_cases q:b∈A
 · rw[z2R q,z2R q]
 · rw[z0r q,z0r q,z0x fun z=>q (by rw[z];exact h)]
theorem RepO.upd(h:RepO X H₀ H O ρ σ){i:Nat}{a:Addr}{f g:Bool}{ds ds0:List Dt}{vs:List V}(hc:ρ[i]?=some (.ow g ds0))(hi:(i,a)∈O)(r:Rps X.K (bsOf X.ky f) ds (hidL O.adr H) vs):
   RepO X H₀ (upd H a (.lst vs)) O (ρ.set i (.ow f ds)) σ:=by
 have ha:a∈O.adr:=z4I hi
 have hh:hidL O.adr (L2.upd H a (.lst vs))=hidL O.adr H:=zf2 ha
 have hlt:i<ρ.length:=by
   by_cases hlt:i<ρ.length
   · exact hlt
   · rw[List.getElem?_eq_none (by omega)]at hc;cases hc
 refine⟨h.ndA,h.ndI,fun b hb=>?_,by rw[List.length_set];exact h.len,h.b0,by rw[hh];exact h.same,fun j c q=>?_⟩
 · by_cases e:b=a
   · subst e;exact⟨⟨vs,z13⟩,(h.own b hb).2⟩
   · rw[z0x e];exact h.own b hb
 · by_cases e:i=j
   · subst e
     rw[List.getElem?_set,if_pos rfl,if_pos hlt]at q
     cases q
     obtain⟨o,e1,a',vs',q1,q2,q3,r'⟩:=h.at_ i _ hc
     have e2:(i,a')=(i,a):=zpV h.ndI q1 hi rfl
     cases e2
     exact⟨o,e1,a,vs,hi,q2,z13,by rw[hh];exact r⟩
   · rw[List.getElem?_set_ne e]at q
     obtain⟨o,e1,e2⟩:=h.at_ j c q
     refine⟨o,e1,?_⟩
     cases c with
     | no=>trivial
     | sh f d=>obtain⟨v,q,r⟩:=e2;exact⟨v,q,by rw[hh];exact r⟩
     | ow f ds' =>
      obtain⟨b,vs',q1,q2,q3,r'⟩:=e2
      have hne:b≠a:=fun z=>by
       have:=zjK h.ndA q1 hi z
       exact e (congrArg Prod.fst this).symm
      exact⟨b,vs',q1,q2,by rw[z0x hne];exact q3,by rw[hh];exact r'⟩
def relC:Cell→Cell
 | .ow f ds => .sh f (.lst ds)
 | c=>c
def zbo(ρ:Rho)(i:Nat):Rho:=match ρ[i]? with|some c=>ρ.set i (relC c)|none=>ρ
def relS:List Nat→Rho→Rho
 | [],ρ=>ρ
 | i::is,ρ=>relS is (zbo ρ i)
theorem RepO.rel(h:RepO X H₀ H O ρ σ)(i:Nat):RepO X H₀ H (z47 O i) (zbo ρ i) σ:=by
 have sm:Same (hidL O.adr H) (hidL (z47 O i).adr H):=z42 z1Q
 have hl:(zbo ρ i).length=ρ.length:=by
  unfold zbo
  split
  · exact List.length_set
  · rfl
 refine⟨h.ndA.sublist (List.Sublist.map _ (List.filter_sublist)),h.ndI.sublist (List.Sublist.map _ (List.filter_sublist)),fun a ha=>h.own a (z1Q a ha),hl.trans h.len,h.b0,h.same.trans sm,fun j c q=>?_⟩
 have other:∀{c:Cell},ρ[j]?=some c→(∀ f ds,c = .ow f ds→j≠i)→∃ o,σ[j]?=some o∧CellB X H (z47 O i) j c o:=fun{c} q hne=>by
  obtain⟨o,e1,e2⟩:=h.at_ j c q
  refine⟨o,e1,?_⟩
  cases c with
  | no=>trivial
  | sh f d=>obtain⟨v,q,r⟩:=e2;exact⟨v,q,Rp.mono _ sm r⟩
  | ow f ds=>obtain⟨a,vs,q1,q2,q3,r⟩:=e2;exact⟨a,vs,z2B.mpr ⟨q1,hne f ds rfl⟩,q2,q3,Rps.mono _ sm r⟩
 unfold zbo at q
 cases e:ρ[i]? with
 | none =>
  rw[e]at q
  exact other q fun f ds _ z=>by rw[z,e]at q;cases q
 | some c' =>
  rw[e]at q
  dsimp only at q
  by_cases hij:i=j
  · subst hij
    have hlt:i<ρ.length:=by
     by_cases hlt:i<ρ.length
     · exact hlt
     · rw[List.getElem?_eq_none (by omega)]at e;cases e
    rw[List.getElem?_set,if_pos rfl,if_pos hlt]at q
    cases q
    cases c' with
    | no=>obtain⟨o,e1,e2⟩:=h.at_ i _ e;exact⟨o,e1,trivial⟩
    | sh f d=>exact other e fun f ds z=>by cases z
    | ow f ds =>
     obtain⟨o,e1,a,vs,q1,q2,q3,r⟩:=h.at_ i _ e
     have hna:a ∉ (z47 O i).adr:=fun z=>by
       obtain⟨p,hp,ep⟩:=List.mem_map.mp z
       have:=zjK h.ndA (z2B.mp hp).1 q1 ep
       exact(z2B.mp hp).2 (by rw[this])
     refine⟨o,e1,.ref a,q2,Rp.lst_.mpr ⟨a,vs,rfl,h.bsFree (z4I q1) f,by rw[z0r hna];exact q3,Rps.mono _ ?_ r⟩⟩
     rw[z9y,z9F]
     refine z42 fun b hb=>?_
     rcases List.mem_cons.mp hb with z|z
     · rw[z];exact z4I q1
     · exact z1Q b z
  · rw[List.getElem?_set_ne hij]at q
    exact other q fun f ds _ z=>hij z.symm
theorem RepO.rels(h:RepO X H₀ H O ρ σ):∀ is:List Nat,∃ O',RepO X H₀ H O' (relS is ρ) σ:=fun is=>by
 induction is generalizing O ρ with
 | nil=>exact⟨O,h⟩
 | cons i is ih=>exact ih (h.rel i)
end
inductive Oc where
 | nx (ρ:Rho)|rt (f:Fl) (d:Dt)|bk (ρ:Rho)|ct (ρ:Rho)
def OcOk(X:Cx)(H₀:Hp)(D:Ends):Oc→Prop
 | .nx ρ=>∀ σ H,RepB X H₀ H ρ σ→D.nx σ H
 | .rt f d=>∀ v H,Same H₀ H→Rp X.K (bsOf X.ky f.isFr) d H v→D.rt v H
 | .bk ρ=>∀ σ H,RepB X H₀ H ρ σ→D.bk σ H
 | .ct ρ=>∀ σ H,RepB X H₀ H ρ σ→D.ct σ H
abbrev FS:=Rho→Option Oc
def upS(X:Cx)(F:FS):TS:=fun D σ H=>∃ H₀ ρ oc,RepB X H₀ H ρ σ∧F ρ=some oc∧OcOk X H₀ D oc
def PFS(X:Cx)(st:Stmt)(F:FS):Prop:=PS X st (upS X F)
def PFSs(X:Cx)(sts:List Stmt)(F:FS):Prop:=PSs X sts (upS X F)
theorem PS.imp{X:Cx}{st:Stmt}{t t':TS}(h:PS X st t)(q:∀ D σ H,t' D σ H→t D σ H):PS X st t':=fun pins s σ H D I z=>h pins s σ H D I (q D σ H z)
theorem PSs.imp{X:Cx}{st:List Stmt}{t t':TS}(h:PSs X st t)(q:∀ D σ H,t' D σ H→t D σ H):PSs X st t':=fun pins s σ H D I z=>h pins s σ H D I (q D σ H z)
section
variable {X:Cx}{st:Stmt}{rest:List Stmt}{F G:FS}{e:Expr}{Fe:FE}{pos:Pos}
def z0A:FS:=fun ρ=>some (.nx ρ)
def seqO(G:FS):Oc→Option Oc
 | .nx ρ=>G ρ
 | o=>some o
def sSeq(F G:FS):FS:=fun ρ=>(F ρ).bind (seqO G)
theorem z0D:PFSs X [] z0A:=zpx.imp (by rintro D σ H ⟨H₀,ρ,oc,rb,e,k⟩;cases e;exact k σ H rb)
theorem z0b(h:PFS X st F):PFSs X [st] F:=zpy h
theorem z08(h1:PFS X st F)(h2:PFSs X rest G):PFSs X (st::rest) (sSeq F G):=(zlt h1 h2).imp fun D σ H hZ=>hZ.elim fun H₀ hZ=>hZ.elim fun ρ hZ=>hZ.elim fun oc hZ=>hZ.elim fun rb hZ=>hZ.elim fun e k=>by
 obtain⟨o1,e1,e2⟩:=z05 e
 refine⟨H₀,ρ,o1,rb,e1,?_⟩
 cases o1 with
 | nx ρ'=>exact fun σ' H' rb'=>⟨H₀,ρ',oc,rb',e2,k⟩
 | rt f d=>cases e2;exact k
 | bk ρ'=>cases e2;exact k
 | ct ρ'=>cases e2;exact k
def z9G:FS:=fun _=>none
theorem z9e:PFS X st z9G:=fun pins s σ H D I hZ=>hZ.elim fun H₀ hZ=>hZ.elim fun ρ hZ=>hZ.elim fun oc hZ=>hZ.elim fun rb hZ=>hZ.elim fun e k=>by cases e
def sRet(F:FE):FS:=fun ρ=>(F ρ).map fun x => .rt x.1 x.2
theorem z0g(he:PF X e Fe):PFS X (.Return (some e) pos) (sRet Fe):=(ps_ret he).imp fun D σ H ⟨H₀,ρ,oc,⟨O,rb⟩,e0,k⟩=>by
 unfold sRet at e0
 cases h:Fe ρ with
 | none=>rw[h]at e0;cases e0
 | some x =>
  rw[h]at e0
  cases e0
  refine⟨ρ,x.1,x.2,rb.all,h,fun v H' sm r=>k v H' (rb.same.trans (z0O.trans sm)) ?_⟩
  by_cases q:x.1.isFr=true
  · rw[q];exact r.fr rb.below q
  · rw[show x.1.isFr=false by simpa using q];exact r.sh
def sIf(c:FT)(F G:FS):FS:=fun ρ=>(c ρ).bind fun b=>if b then F ρ else G ρ
theorem s_if{c:Expr}{a b:List Stmt}{Fc:FT}(hc:PFT X c Fc)(ha:PFSs X a F)(hb:PFSs X b G):PFS X (.If c a b pos) (sIf Fc F G):=(ps_if hc ha hb).imp fun D σ H ⟨H₀,ρ,oc,⟨O,rb⟩,e0,k⟩=>by
 obtain⟨z,e1,e2⟩:=z05 e0
 refine⟨ρ,z,rb.all,e1,fun H' sm=>?_⟩
 dsimp only
 cases z with
 | true=>rw[if_pos rfl]at e2 ⊢;exact⟨H₀,ρ,oc,⟨O,rb.mono sm⟩,e2,k⟩
 | false=>rw[if_neg Bool.false_ne_true]at e2 ⊢;exact⟨H₀,ρ,oc,⟨O,rb.mono sm⟩,e2,k⟩
def z6m(F:FE):FS:=fun ρ=>(F ρ).map fun _ => .nx ρ
theorem z9H(he:PF X e Fe)(hs:swapsWith e none pos.line X.env=pure false:=by rfl):PFS X (.Expr e pos) (z6m Fe):=(zcA he hs).imp fun D σ H ⟨H₀,ρ,oc,⟨O,rb⟩,e0,k⟩=>by
 unfold z6m at e0
 cases h:Fe ρ with
 | none=>rw[h]at e0;cases e0
 | some x =>
  rw[h]at e0
  cases e0
  exact⟨ρ,x.1,x.2,rb.all,h,fun v H' sm r=>k σ H' ⟨O,rb.mono sm⟩⟩
def AsgF(X:Cx)(st:Stmt)(i:Nat)(F:FE):Prop:=PS X st (tAsg (upF X F) (z9s i))
theorem z0a{i:Nat}{x:Str}{pos':Pos}(he:PF X e Fe)(hN:X.N.Nodup)(hi:X.N[i]?=some x)(hx:Loc X.env.scope x)(hs:swapsWith e (some (.Name x pos')) pos.line X.env=pure false)(hf:X.fn x=true∨X.env.scope.names.lookup x=some .local):
 AsgF X (.Assign [.Name x pos'] e pos) i Fe:=ps_set hN hi hx he hs hf
theorem z70{N:List Str}{scope:Scope}{nt:Nat}{js:List Nat}{tg elt iter:Expr}{ifs:List Expr}{Fi:FI}{g:Tg}{Fc:FT}{i:Nat}{x:Str}{pos' spos:Pos}(hN:X.N.Nodup)(hix:X.N[i]?=some x)(hx:X.env.scope.names.lookup x=some .local)
  (hsw:swapsWith (.ListComp elt [⟨tg,iter,ifs,0⟩] scope pos) (some (.Name x pos')) spos.line X.env=pure true)
  (S:CompScope X N scope nt js) (hc:X.calm=true) (hi:PFI X tg iter Fi) (hg:∀ cl C fp s H,PG (z16 X N scope cl C fp s H) tg (g.low X.K)) (hb:g.below nt)
  (hcs:∀ cl C fp s H,PFTs (z16 X N scope cl C fp s H) ifs Fc) (he:∀ cl C fp s H,PF (z16 X N scope cl C fp s H) elt Fe) (hj:∀ j∈js,j<X.N.length)
  (hs:∀ x,foldedSetIterable iter X.env x=pure x:=by intro _;rfl):AsgF X (.Assign [.Name x pos'] (.ListComp elt [⟨tg,iter,ifs,0⟩] scope pos) spos) i (z0e nt js Fi g Fc Fe):=by
 intro pins s σ H D I h
 exact zpP hN hix hx S hc hi hg (Tg.ok hb) (fun cl C fp s H=>PTs.frame (t:=fun H1=>upBK ⟨X.K,H1⟩ Fc) (hcs cl C fp s H)) (fun cl C fp s H=>PE.frame (he cl C fp s H)) hsw hs pins s σ H D I
  (zjJ (fun j z=>by rw[I.len];exact hj j z) h)
def sSet(rels:List Nat)(i:Nat)(F:FE):FS:=fun ρ=>(F (z1H (relS rels ρ))).map fun x => .nx ((relS rels ρ).set i (.sh x.1.isFr x.2))
theorem z0m{rels:List Nat}{i:Nat}(ha:AsgF X st i Fe):PFS X st (sSet rels i Fe):=(PS.frame ha).imp fun D σ H ⟨H₀,ρ,oc,⟨O,rb⟩,e0,k⟩=>by
 unfold sSet at e0
 cases h:Fe (z1H (relS rels ρ)) with
 | none=>rw[h]at e0;cases e0
 | some x =>
  rw[h]at e0
  cases e0
  obtain⟨O',rb'⟩:=rb.rels rels
  refine⟨O'.adr,rb'.own,z1H (relS rels ρ),x.1,x.2,rb'.rest,h,fun v H' sm r hn=>?_⟩
  have hg:hidL O'.adr (z1l O'.adr H H')=H':=z3n hn
  have rb2:RepO X H₀ (z1l O'.adr H H') O' (relS rels ρ) σ:=rb'.mono (Same.glue sm hn)
  refine k _ _ ⟨_,rb2.set (f:=x.1.isFr) ?_⟩
  rw[hg]
  by_cases q:x.1.isFr=true
  · rw[q];exact r.fr (rb'.b0.trans rb'.same) q
  · rw[show x.1.isFr=false by simpa using q];exact r.sh
def z2U(i:Nat)(F:FE):FS:=fun ρ=>(F ρ).bind fun x=>if x.1.isNw then some (.nx (ρ.set i (.sh true x.2))) else none
theorem zlW{H H':Hp}{O:Own}{f:Fl}{d:Dt}{v:V}(ho:OwnL X O.adr H)(sm:Same H H')(q:f.isNw=true)(r:RpF X.ky H f d H' v):Rp X.K H d (hidL O.adr H') v:=by
 cases f<;>first|cases q|skip
 refine Rp.hid (fun b hb=>?_) d (fun b hb o e=>?_) r
 · obtain⟨⟨vs,z⟩,_⟩:=ho b hb
   rw[z];exact fun w=>nomatch w
 · obtain⟨⟨vs,z⟩,_⟩:=ho b hb
   rw[sm _ _ z]at e
   cases e
   exact⟨vs,rfl⟩
theorem z9I{i:Nat}(ha:AsgF X st i Fe):PFS X st (z2U i Fe):=PS.imp ha fun D σ H ⟨H₀,ρ,oc,⟨O,rb⟩,e0,k⟩=>by
 obtain⟨x,e1,e2⟩:=z05 e0
 split at e2
 · rename_i q
   cases e2
   refine⟨ρ,x.1,x.2,rb.all,e1,fun v H' sm r=>k _ _ ⟨_,(rb.mono sm).set (f:=true) ?_⟩⟩
   exact Rp.anti rb.below _ (zlW rb.own sm q r)
 · cases e2
def sOwn(i:Nat)(F:FE):FS:=fun ρ=>(F (z1H ρ)).bind fun x=>match x with
 | (.nw,.lst ds)=>if i<ρ.length then some (.nx (ρ.set i (.ow true ds))) else none
 | (.tn,.lst ds)=>if i<ρ.length then some (.nx (ρ.set i (.ow false ds))) else none
 | _=>none
theorem zjL{i:Nat}(ha:AsgF X st i Fe):PFS X st (sOwn i Fe):=(PS.frame ha).imp fun D σ H ⟨H₀,ρ,oc,⟨O,rb⟩,e0,k⟩=>by
 obtain⟨x,e1,e2⟩:=z05 e0
 refine⟨O.adr,rb.own,z1H ρ,x.1,x.2,rb.rest,e1,fun v H' sm r hn=>?_⟩
 have hg:hidL O.adr (z1l O.adr H H')=H':=z3n hn
 have sg:Same H (z1l O.adr H H'):=Same.glue sm hn
 have new:∀{f:Bool} {ds:List Dt} {D:Addr} {vs:List V},hidL O.adr H D=none→H' D=some (.lst vs)→Rps X.K (bsOf X.ky f) ds (hidL [D] H') vs→i<ρ.length→RepB X H₀ (z1l O.adr H H') (ρ.set i (.ow f ds)) (σ.set i (some (.ref D))):=by
   intro f ds D vs hD hv hr hi
   have nO:D ∉ O.adr:=fun z=>by rw[hn D z]at hv;cases hv
   have hH:H D=none:=by rw[z0r nO]at hD;exact hD
   refine⟨_,rb.setNew hi sg hH (by rw[z1e nO];exact hv) nO (rb.below.free hH) ?_⟩
   rw[←z9F,z9y,hg]
   exact hr
 split at e2
 · rename_i ds
   split at e2
   · rename_i hi
     cases e2
     obtain⟨D,vs,rfl,h0,h1,h2⟩:=(Rp.lst_ (K:=X.K)).mp (show Rp X.K (hidL O.adr H) (.lst ds) H' v from r)
     exact k _ _ (new (f:=true) h0 h1 (Rps.anti (rb.b0.trans rb.same) _ h2) hi)
   · cases e2
 · rename_i ds
   split at e2
   · rename_i hi
     cases e2
     obtain⟨D,vs,rfl,h0,h1,h2⟩:=Rp.lst_.mp r.1
     exact k _ _ (new (f:=false) (r.2.2 D rfl) h1 h2 hi)
   · cases e2
 · cases e2
def sOwnA(i:Nat)(F:FE):FS:=fun ρ=>(F ρ).bind fun x=>match x with
 | (.nw,.lst ds)=>if i<ρ.length then some (.nx (ρ.set i (.ow true ds))) else none
 | _=>none
def z1a(c:FT)(F:FS):Nat→FS
 | 0,_=>none
 | n+1,ρ=>(c ρ).bind fun b=>if b then(F ρ).bind fun oc=>match oc with|.nx ρ'=>z1a c F n ρ'|.ct ρ'=>z1a c F n ρ'|.bk ρ'=>some (.nx ρ')|.rt f d=>some (.rt f d) else some (.nx ρ)
open Classical in
noncomputable def z3V(c:FT)(F:FS):FS:=fun ρ=>if h:∃ n o,z1a c F n ρ=some o then some (choose (choose_spec h)) else none
theorem z3J{c:FT}{F:FS}:∀{n m:Nat} {ρ:Rho} {o:Oc},n≤m→z1a c F n ρ=some o→z1a c F m ρ=some o
 | 0,m,ρ,o,_,h=>by cases h
 | n+1,0,ρ,o,hl,h=>by omega
 | n+1,m+1,ρ,o,hl,h=>by
  unfold z1a at h ⊢
  obtain⟨b,e1,e2⟩:=z05 h
  rw[e1]
  show(if b=true then _ else _)=_
  cases b with
  | false=>exact e2
  | true =>
   rw[if_pos rfl]at e2 ⊢
   obtain⟨oc,e3,e4⟩:=z05 e2
   rw[e3]
   cases oc with
   | nx ρ'=>exact z3J (by omega) e4
   | ct ρ'=>exact z3J (by omega) e4
   | bk ρ'=>exact e4
   | rt f d=>exact e4
theorem z5P{c:FT}{F:FS}{n:Nat}{ρ:Rho}{o:Oc}(h:z1a c F n ρ=some o):z3V c F ρ=some o:=by
 have hx:∃ n o,z1a c F n ρ=some o:=⟨n,o,h⟩
 unfold z3V
 rw[dif_pos hx]
 have z:=Classical.choose_spec (Classical.choose_spec hx)
 have a:=z3J (Nat.le_max_left n (Classical.choose hx)) h
 have b:=z3J (Nat.le_max_right n (Classical.choose hx)) z
 rw[a]at b
 exact b.symm
theorem zkG{c:FT}{F:FS}{ρ:Rho}{o:Oc}(h:z3V c F ρ=some o):∃ n,z1a c F n ρ=some o:=by
 unfold z3V at h
 split at h
 · rename_i hx
   cases h
   exact⟨_,Classical.choose_spec (Classical.choose_spec hx)⟩
 · cases h
theorem zcJ{c:Expr}{body:List Stmt}{Fc:FT}(hp:PassesOwn (model X.prog X.w) X.A X.env X.xe)(hc:PFT X c Fc)(hb:PFSs X body F):PFS X (.While c body [] pos) (z3V Fc F):=(zlv hp hc hb).imp fun D σ H hZ=>hZ.elim fun H₀ hZ=>hZ.elim fun ρ hZ=>hZ.elim fun oc hZ=>hZ.elim fun rb hZ=>hZ.elim fun e0 k=>by
 obtain⟨n0,e1⟩:=zkG e0
 refine⟨fun m σ' H'=>∃ ρ',RepB X H₀ H' ρ' σ'∧z1a Fc F m ρ'=some oc,⟨n0,ρ,rb,e1⟩,?_⟩
 rintro m σ' H' ⟨ρ',⟨O,rb'⟩,w'⟩
 cases m with
 | zero=>cases w'
 | succ n =>
  unfold z1a at w'
  obtain⟨z,p1,p2⟩:=z05 w'
  refine⟨ρ',z,rb'.all,p1,fun H2 sm=>?_⟩
  dsimp only
  cases z with
  | false =>
   rw[if_neg Bool.false_ne_true]at p2 ⊢
   cases p2
   exact k _ _ ⟨O,rb'.mono sm⟩
  | true =>
   rw[if_pos rfl]at p2 ⊢
   obtain⟨oc',p3,p4⟩:=z05 p2
   refine⟨fun σ' H'=>∃ ρ'',RepB X H₀ H' ρ'' σ'∧z1a Fc F n ρ''=some oc,fun σ3 H3 hZ=>hZ.elim fun ρ3 hZ=>hZ.elim fun rb3 w3=>⟨n,Nat.lt_succ_self n,ρ3,rb3,w3⟩,H₀,ρ',oc',⟨O,rb'.mono sm⟩,p3,?_⟩
   cases oc' with
   | nx ρ3=>exact fun σ3 H3 rb3=>⟨ρ3,rb3,p4⟩
   | ct ρ3=>exact fun σ3 H3 rb3=>⟨ρ3,rb3,p4⟩
   | bk ρ3=>cases p4;exact k
   | rt f d=>cases p4;exact k
def forF(g:Tg)(F:FS):List Dt→FS
 | [],ρ=>some (.nx ρ)
 | x::xs,ρ=>(g.put x ρ).bind fun ρ2=>(F ρ2).bind fun oc=>match oc with|.nx ρ'=>forF g F xs ρ'|.ct ρ'=>forF g F xs ρ'|.bk ρ'=>some (.nx ρ')|.rt f d=>some (.rt f d)
def sFor(rels:List Nat)(Fi:FI)(g:Tg)(F:FS):FS:=fun ρ=>(Fi (z1H (relS rels ρ))).bind fun items=>forF g F items (relS rels ρ)
end
section
variable {X:Cx}{H₀ H H':Hp}{O:Own}{ρ ρ':Rho}{σ:St}
theorem z8H:∀{is:List Nat} {ds:List Dt} {vs:List V} {O:Own} {ρ:Rho} {σ:St},RepO X H₀ H O ρ σ→Rps X.K emp ds (hidL O.adr H) vs→ds.length=is.length→z2A ρ is ds=ρ' →
  z2j is vs σ H fun σ' H'=>H'=H∧∃ O',RepO X H₀ H O' ρ' σ'
 | [],[],vs,O,ρ,σ,rs,r,hl,q=>⟨Rps.nil_.mp r,rfl,O,by rw[←q];exact rs⟩
 | [],d::ds,vs,O,ρ,σ,rs,r,hl,q=>by cases hl
 | i::is,[],vs,O,ρ,σ,rs,r,hl,q=>by cases hl
 | i::is,d::ds,vs,O,ρ,σ,rs,r,hl,q=>by
  obtain⟨v,r',rfl,h1,h2⟩:=Rps.cons_.mp r
  exact⟨v,r',rfl,z8H (rs.set (f:=false) h1) (Rps.mono _ (z42 z1Q) h2) (by simpa using hl) q⟩
theorem Tg.simO{g:Tg}{d:Dt}{v:V}(rs:RepO X H₀ H O ρ σ)(r:Rp X.K emp d (hidL O.adr H) v)(h:g.put d ρ=some ρ'):
  g.low X.K v σ H fun σ' H'=>H'=H∧∃ O',RepO X H₀ H O' ρ' σ':=by
 cases g with
 | one i=>cases h;exact⟨rfl,_,rs.set (f:=false) r⟩
 | many is =>
  cases d<;>first|cases h|skip
  rename_i ds
  replace h:(if ds.length=is.length then some (z2A ρ is ds) else none)=some ρ':=h
  split at h
  · rename_i hl
    obtain⟨a,vs,rfl,h1,h2⟩:=Rp.tup_.mp r
    exact⟨a,vs,rfl,z0O.seqT h1,by rw[h2.length];exact hl,z8H rs h2 hl (Option.some.inj h)⟩
  · cases h
end
section
variable {X:Cx}{tg iter:Expr}{body:List Stmt}{Fi:FI}{g:Tg}{F:FS}{pos:Pos}
theorem z53{rels:List Nat}(hp:PassesOwn (model X.prog X.w) X.A X.env X.xe)(hc:X.calm=true)(hi:PFI X tg iter Fi)(hg:PG X tg (g.low X.K))(hb:PFSs X body F)
   (hs:∀ x,foldedSetIterable iter X.env x=pure x:=by intro _;rfl):PFS X (.For tg iter body [] pos) (sFor rels Fi g F):=(zlw hp hc (PI.frame hi) hg hb hs).imp fun D σ H ⟨H₀,ρ,oc,⟨O,rb⟩,e0,k⟩=>by
 obtain⟨items,e1,e2⟩:=z05 e0
 obtain⟨O',rb'⟩:=rb.rels rels
 refine⟨O'.adr,rb'.own,z1H (relS rels ρ),items,rb'.rest,e1,fun J H1 sm hsz wk hn=>?_⟩
 have hg1:hidL O'.adr (z1l O'.adr H H1)=H1:=z3n hn
 have s01:Same H₀ H1:=rb'.same.trans sm
 have start:RepO X H1 (z1l O'.adr H H1) O' (relS rels ρ) σ:=by
   have z:=rb'.mono (Same.glue sm hn)
   exact⟨z.ndA,z.ndI,z.own,z.len,rb'.b0.trans s01,by rw[hg1];exact Same.refl _,z.at_⟩
 have back:∀{oc:Oc},OcOk X H₀ D oc→OcOk X H1 D oc:=fun{oc} z=>by
   cases oc with
   | nx ρ5=>exact fun σ5 H5 hZ=>hZ.elim fun O5 r5=>z σ5 H5 ⟨O5,r5.base s01 rb'.b0⟩
   | bk ρ5=>exact fun σ5 H5 hZ=>hZ.elim fun O5 r5=>z σ5 H5 ⟨O5,r5.base s01 rb'.b0⟩
   | ct ρ5=>exact fun σ5 H5 hZ=>hZ.elim fun O5 r5=>z σ5 H5 ⟨O5,r5.base s01 rb'.b0⟩
   | rt f d=>exact fun v H5 s5 r5=>z v H5 (s01.trans s5) r5
 refine⟨fun i m σ' H'=>m=items.length-i∧∃ ρ',RepB X H1 H' ρ' σ'∧forF g F (items.drop i) ρ'=some oc,⟨_,rfl,_,⟨O',start⟩,e2⟩,?_⟩
 rintro i m σ' H' ⟨rfl,ρ',⟨O2,r2⟩,f2⟩
 obtain⟨w1,w2⟩:=wk O2.adr H' r2.same fun a ha=>by obtain⟨⟨vs,q⟩,_⟩:=r2.own a ha;exact⟨_,q⟩
 by_cases hlt:i<items.length
 · obtain⟨x,hx⟩:∃ x,items[i]?=some x:=⟨_,List.getElem?_eq_getElem hlt⟩
   have hdrop:items.drop i=x::items.drop (i+1):=by
    rw[List.drop_eq_getElem_cons hlt]
    rw[List.getElem?_eq_getElem hlt]at hx
    cases hx;rfl
   rw[hdrop]at f2
   unfold forF at f2
   obtain⟨ρ2,p1,f3⟩:=z05 f2
   obtain⟨oc',p2,f4⟩:=z05 f3
   obtain⟨go,yl⟩:=w1 i x hx
   refine .inr ⟨go,fun σ3 H3=>∃ ρ3,RepB X H1 H3 ρ3 σ3∧forF g F (items.drop (i+1)) ρ3=some oc,fun σ3 H3 hZ=>hZ.elim fun ρ3 hZ=>hZ.elim fun r3 f3=>⟨items.length-(i+1),by omega,rfl,ρ3,r3,f3⟩,fun xv H3 y3=>?_⟩
   obtain⟨s3,k3,r3⟩:=yl xv H3 y3
   have sm3:Same H' H3:=fun b o e=>by
    by_cases hb:b∈O2.adr
    · rw[k3 b hb];exact e
    · exact(z4E (s3 b o (by rw[z0r hb];exact e))).2
   refine Tg.low_mono (Tg.simO (r2.mono sm3) r3 p1) ?_
   rintro σ4 H4 ⟨eH,O4,r4⟩
   subst eH
   refine⟨H1,ρ2,oc',⟨O4,r4⟩,p2,?_⟩
   cases oc' with
   | nx ρ5=>exact fun σ5 H5 r5=>⟨ρ5,r5,f4⟩
   | ct ρ5=>exact fun σ5 H5 r5=>⟨ρ5,r5,f4⟩
   | bk ρ5=>cases f4;exact back k
   | rt f d=>cases f4;exact back k
 · have hd:items.drop i=[]:=List.drop_of_length_le (by omega)
   rw[hd]at f2
   cases f2
   exact .inl ⟨w2 i (by omega),back k σ' H' ⟨O2,r2⟩⟩
end
section
variable {P:Program}{w:World}{K:PySem.W.Frag}{mg:Str→Option Value}{base:Heap}
def rho0(n:Nat)(ds:List Dt):Rho:=ds.map (Cell.sh false)++List.replicate (n-ds.length) Cell.no
theorem zf3{X:Cx}{H:Hp}{ds:List Dt}{vs:List V}{N:List Str}(h0:X.H₀=H)(h:Rps X.K emp ds H vs):RepO X H H [] (rho0 N.length ds) (start N vs):=by
 have hl:=h.length
 refine⟨List.nodup_nil,List.nodup_nil,fun a ha=>(nomatch ha),by unfold rho0 start;simp[hl],by rw[h0];exact Same.refl H,by show Same H (hidL [] H);rw[zdu];exact Same.refl H,fun i c e=>?_⟩
 unfold rho0 at e
 unfold start
 by_cases hi:i<ds.length
 · rw[List.getElem?_append_left (by simpa using hi),List.getElem?_map]at e
   cases q:ds[i]? with
   | none=>rw[q]at e;cases e
   | some d =>
     rw[q]at e
     cases e
     obtain⟨v,e1,e2⟩:=h.get q
     refine⟨some v,?_,v,rfl,by show Rp X.K emp d (hidL [] H) v;rw[zdu];exact e2⟩
     rw[List.getElem?_append_left (by simp;omega),List.getElem?_map,e1];rfl
 · rw[List.getElem?_append_right (by simp;omega),List.getElem?_replicate]at e
   split at e
   · cases e
     rename_i hlt
     simp at hlt
     refine⟨none,?_,trivial⟩
     rw[List.getElem?_append_right (by simp;omega),List.getElem?_replicate,if_pos (by simp;omega)]
   · cases e
def cOf(np n:Nat)(fr:Bool)(F:FS):FC:=fun ds=>if ds.length=np then
 (F (rho0 n ds)).bind fun oc=>match oc with|.rt f d=>if fr&&!(f.isFr||d.flat) then none else some d|.nx _=>some .non|_=>none
 else none
theorem Fun.data{x qual:Str}{st:Stmt}{f:Addr}{fd:FuncData}{N ps:List Str}{k:Nat}{fr:Bool}{F:FS}(Fu:Fun K x qual st f fd)(S:FnScope N ps (z04 st))
    (body:∀(cdv:Value) (A:Around) (outer:List Env) (s:Shared) (H:Hp) (E:XK),Room k (A.deeper (envOfC qual (z04 st) s.heap.objs.size f cdv)) →
      PFSs (cxOf CX0 P w K mg base N qual (z04 st) f cdv A outer s H E).nox (z1P st) F):FnOk P w K mg base CX0 (k+1) f fd ps (spc K fr (cOf ps.length N.length fr F)):=by
  refine Fu.ok S (fun vs H Q E h=>?_) (fun cdv A outer s H vs Q E hr h=>?_)
  · obtain⟨ds,d,r,e,q⟩:=h
    unfold cOf at e
    split at e
    · rename_i hl
      rw[r.length];exact hl
    · cases e
  · obtain⟨ ds,d,r,e,q⟩:=h
    unfold cOf at e
    split at e
    · rename_i hl
      obtain⟨oc,e1,e2⟩:=z05 e
      refine⟨_,body cdv A outer s H E hr,H,rho0 N.length ds,oc,⟨[],zf3 rfl r⟩,e1,?_⟩
      cases oc with
      | nx ρ=>cases e2;exact fun σ H' hZ=>hZ.elim fun O rb=>q _ H' (rb.same.trans z0O) (Rp.non_.mpr rfl)
      | bk ρ=>cases e2
      | ct ρ=>cases e2
      | rt f d' =>
        have e2:(if(fr&&!(f.isFr||d'.flat))=true then none else some d')=some d:=e2
        split at e2
        · cases e2
        · rename_i hf
          cases e2
          refine fun v H' sm r'=>q v H' sm ?_
          cases fr with
          | false=>exact Rp.anti Same.emp _ r'
          | true =>
            have hf:f.isFr=true∨d.flat=true:=by
              cases h1:f.isFr<;>cases h2:d.flat<;>simp[h1,h2]at hf ⊢
            rcases hf with hf|hf
            · rw[hf]at r';exact r'
            · exact Rp.flat d hf r'
    · cases e
theorem zkH{l:PySem.W.OpenLaw}{q:Program}{loose:List Str}{XP:(Str→Option Value)→Heap→Prop}{YP:World→Heap→Prop}{d:DefRec}{K:Params→PySem.W.Frag}{x:Str}{k:Nat}{fr:Bool}{c:FC}(hn:l.most=some 63)(hdf:d.params.defaults=[])
  (hY:∀(w:World) (h:Heap),YP w h→(K w.params).In h)
  (F:∀(w:World) (mg:Str→Option Value) (fa:Addr) (h:Heap),(K w.params).In h→h.Ns mainGlobals mg→mg d.name=some (.ref fa) →
   ∃ fd:FuncData,(∀(s:Shared) (u:Value),BindsTo s fd ⟨[u],[]⟩ [(x,u)])∧∀ base:Heap,(K w.params).In base→base.Ns mainGlobals mg→FnOk l.prog w (K w.params) mg base CX0 k fa fd [x] (spc (K w.params) fr c))
  (hc:∀ ns:List Int,ns.length≤63→c [.scr ns]=some (.bl true))
  (hr:Room k callerA):PySem.W.WalkO q loose XP YP l.row.toRowW d [] (fun f vs=>PySem.call f vs) :=
 L2.zpL (n:=63) (k:=k) (x:=x) (CX:=fun _=>CX0) (sp:=fun w=>spc (K w.params) fr c) hn (by decide) hdf hr hY F
  (fun w H a ns hl _ hS=>⟨[.scr ns],_,Rps.one (Rp.scr_.mpr ⟨a,rfl,rfl,hS⟩),hc ns hl,fun v H' _ r=>by cases fr<;>exact Rp.bl_.mp r⟩) fun _ _ _ _ _ z=>z
end
def zlX(XN:List Str)(xs:List (Str×NameKind))(scope:Scope)(N:List Str)(nt:Nat)(js:List Nat):Bool :=
 decide ((scope.names.map (·.1)).Nodup)&&(N.length==nt+js.length)&&((List.range js.length).all fun k=>match js[k]? with
  | some j=>(match N[nt+k]?,XN[j]? with|some x,some y=>x==y&&scope.names.lookup x==some .free|_,_=>false)
  | none=>false)&&scope.names.all fun p=>p.2 != .free||xs.lookup p.1==some .cell||xs.lookup p.1==some .free
theorem z0d{X:Cx}{N:List Str}{scope:Scope}{nt:Nat}{js:List Nat}(XN:List Str)(xs:List (Str×NameKind))(h1:X.N=XN)(h2:X.env.scope.names=xs)(hk:scope.kind = .function)(c:zlX XN xs scope N nt js=true):CompScope X N scope nt js:=by
 unfold zlX at c
 rw[Bool.and_eq_true,Bool.and_eq_true,Bool.and_eq_true]at c
 obtain⟨⟨⟨c1,c2⟩,c3⟩,c4⟩:=c
 have nd:=of_decide_eq_true c1
 refine⟨hk,nd,fun x hx e=>by rw[z33 nd hx,e],beq_iff_eq.mp c2,fun k j e=>?_,fun x hx e=>?_⟩
 · have hk:k<js.length:=by
     by_cases hk:k<js.length
     · exact hk
     · rw[List.getElem?_eq_none (by omega)]at e;cases e
   have z:=List.all_eq_true.mp c3 k (List.mem_range.mpr hk)
   rw[e]at z
   dsimp only at z
   rw[h1]
   cases q1:N[nt+k]? with
   | none=>rw[q1]at z;cases z
   | some x =>
     cases q2:XN[j]? with
     | none=>rw[q1,q2]at z;cases z
     | some y =>
       rw[q1,q2]at z
       dsimp only at z
       rw[Bool.and_eq_true]at z
       have exy:x=y:=beq_iff_eq.mp z.1
       subst exy
       exact⟨x,rfl,rfl,beq_iff_eq.mp z.2⟩
 · have z:=List.all_eq_true.mp c4 x hx
   rw[e]at z
   have z:(xs.lookup x.1==some .cell||xs.lookup x.1==some .free)=true:=by simpa using z
   show X.env.scope.names.lookup x.1=_∨X.env.scope.names.lookup x.1=_
   rw[h2]
   rcases Bool.or_eq_true _ _ |>.mp z with z|z
   · exact .inl (beq_iff_eq.mp z)
   · exact .inr (beq_iff_eq.mp z)
structure Df(K:PySem.W.Frag)(mg:Str→Option Value)(name:Str)(st:Stmt)(ps:List Str)(f:Addr)(fd:FuncData):Prop where
 fn:Fun K name name st f fd
 mg:mg name=some (.ref f)
 bd:Binds K fd ps []
theorem df_mk{K:PySem.W.Frag}{h:Heap}{mg:Str→Option Value}(X:K.In h)(G:h.Ns mainGlobals mg){x:Str}{st:Stmt}{f:Addr}{oc:Value}{od an:Option Addr}{osl:Array (Option Value)}{kV doc pm cdv ct:Value}{ps:List Str}
  (e:PySem.W.nsIn K mainGlobals x=some (some (.ref f))) (l:K.lookup f=some ⟨oc,od,.func (PySem.W.fnOf x x (z2Q st) (z1P st) (z04 st) .none kV doc pm an cdv ct),osl⟩) (c:PySem.W.codeIn K cdv x=true) (k:PySem.W.keepIn K (.ref f)=true)
  (hb:∀(kV doc pm:Value) (an:Option Addr) (cdv ct:Value) (us:List Value),us.length=ps.length→bindArgs (PySem.W.fnOf x x (z2Q st) (z1P st) (z04 st) .none kV doc pm an cdv ct) ⟨us,[]⟩=pure (ps.zip us)) :
  Df K mg x st ps f (PySem.W.fnOf x x (z2Q st) (z1P st) (z04 st) .none kV doc pm an cdv ct) :=
 ⟨zlF l c k,PySem.W.mg_of X G e,(zlF (st:=st) l c k).binds hb⟩
end L2

end
section
set_option Elab.async false
set_option linter.all false
set_option maxRecDepth 100000
namespace ZL
open PySem PyProof.Rows
def ItAt(h:Heap)(tu:Bool)(it l:Addr)(k:Nat):Prop:=if tu then h.IsTupleIter it l k else h.IsListIter it l k
def SqAt(h:Heap)(tu:Bool)(l:Addr)(xs:Array Value):Prop:=if tu then h.IsTuple l xs else h.IsList l xs
section
variable {h h':Heap}{tu:Bool}{it l c:Addr}{k:Nat}{xs:Array Value}
theorem ItAt.at(x:ItAt h tu it l k)(q:∀ o,h.get? it=some o→h'.get? it=some o):ItAt h' tu it l k:=by
 unfold ItAt at x ⊢
 cases tu with
 | true=>obtain⟨o,e,r⟩:=x;exact⟨o,q o e,r⟩
 | false=>obtain⟨o,e,r⟩:=x;exact⟨o,q o e,r⟩
theorem SqAt.at(x:SqAt h tu l xs)(q:∀ o,h.get? l=some o→h'.get? l=some o):SqAt h' tu l xs:=by
 unfold SqAt at x ⊢
 cases tu with
 | true=>obtain⟨o,e,r⟩:=x;exact⟨o,q o e,r⟩
 | false=>obtain⟨o,e,r⟩:=x;exact⟨o,q o e,r⟩
theorem ItAt.lt(x:ItAt h tu it l k):it<h.objs.size:=by
 unfold ItAt at x
 cases tu with
 | true=>obtain⟨o,e,_⟩:=x;exact Heap.lt_size e
 | false=>obtain⟨o,e,_⟩:=x;exact Heap.lt_size e
theorem SqAt.lt(x:SqAt h tu l xs):l<h.objs.size:=by
 unfold SqAt at x
 cases tu with
 | true=>obtain⟨o,e,_⟩:=x;exact Heap.lt_size e
 | false=>obtain⟨o,e,_⟩:=x;exact Heap.lt_size e
end
section
variable {prog:Program}{w:World}{A:Around}{E:Value→Shared→Prop}{s:Shared}
theorem zf4{it t:Addr}{i:Nat}{items:Array Value}{x:Value}{Q:Value→Shared→Prop}(a:s.heap.IsTupleIter it t i)(b:s.heap.IsTuple t items)(c:items[i]?=some x)
  (q:∀ h',h'.IsTupleIter it t (i+1)→Heap.SameBut it s.heap h'→Q x { s with heap:=h' }):wpAny (model prog w) A (Builtin.SmallTypes.nextOf (.ref it)) Q E s:=by
 obtain⟨o,e1,e2,e3⟩:=id a
 obtain⟨p,f1,_,n,f2⟩:=b
 unfold Builtin.SmallTypes.nextOf
 refine wpAny_bind (wpAny_callSpecial?_slot (name:=Str.ofString "__next__") a.typeIs F.slot_tuple_iterator_next (wpAny_call_entry F.slot_tuple_iterator_next a.typeIs F.entry_tuple_iterator_next ?_ (F.args_tuple_iterator_next_1 _)))
 show wpAny _ _ (field (.ref it) 0 >>= fun z=>_) _ _ s
 refine wpAny_bind (wpAny_field e1 e3 (x:=Value.ref t) rfl ?_)
 show wpAny _ _ (if(Value.ref t==Value.none)=true then _ else _) _ _ s
 rw[if_neg (by exact Bool.false_ne_true)]
 show wpAny _ _ (field (.ref it) 1 >>= fun z=>_) _ _ s
 refine wpAny_bind (wpAny_field e1 e3 (x:=Value.int i 0) rfl ?_)
 show wpAny _ _ (seqItems? (.ref t) >>= fun z=>_) _ _ s
 refine wpAny_bind (wpAny_seqItems f1 f2 ?_)
 simp only[Int.toNat_natCast,c]
 refine wpAny_bind (wpAny_setField e1 e3 (by simp) (wpAny_pure ⟨x,rfl,wpAny_pure (q _ ⟨_,Heap.get?_update_self _ e1 (Obj.isFreed_of_fields (Obj.data_mapFields e3 _)),(Obj.cls_mapFields ..).trans e2,?_⟩ (Heap.SameBut.update ..))⟩))
 rw[Obj.data_mapFields e3]
 simp[rawInt]
theorem zkI{it t:Addr}{i:Nat}{items:Array Value}{Q:Value→Shared→Prop}(hn:A.handled=none)(a:s.heap.IsTupleIter it t i)(b:s.heap.IsTuple t items)(c:items[i]?=none)
  (q:∀ h' e,Heap.ExtBut it s.heap h'→(∃ o,h'.get? e=some o∧o.cls = .type "StopIteration")→E (.ref e) { s with heap:=h' }):wpAny (model prog w) A (Builtin.SmallTypes.nextOf (.ref it)) Q E s:=by
 obtain⟨o,e1,e2,e3⟩:=id a
 obtain⟨p,f1,_,n,f2⟩:=b
 unfold Builtin.SmallTypes.nextOf
 refine wpAny_bind (wpAny_callSpecial?_slot (name:=Str.ofString "__next__") a.typeIs F.slot_tuple_iterator_next (wpAny_call_entry F.slot_tuple_iterator_next a.typeIs F.entry_tuple_iterator_next ?_ (F.args_tuple_iterator_next_1 _)))
 show wpAny _ _ (field (.ref it) 0 >>= fun z=>_) _ _ s
 refine wpAny_bind (wpAny_field e1 e3 (x:=Value.ref t) rfl ?_)
 show wpAny _ _ (if(Value.ref t==Value.none)=true then _ else _) _ _ s
 rw[if_neg (by exact Bool.false_ne_true)]
 show wpAny _ _ (field (.ref it) 1 >>= fun z=>_) _ _ s
 refine wpAny_bind (wpAny_field e1 e3 (x:=Value.int i 0) rfl ?_)
 show wpAny _ _ (seqItems? (.ref t) >>= fun z=>_) _ _ s
 refine wpAny_bind (wpAny_seqItems f1 f2 ?_)
 simp only[Int.toNat_natCast,c]
 refine wpAny_bind (wpAny_rule (wpAny_bind (wpAny_setField e1 e3 (by simp) ?_)))
 show wpAny _ _ (newExc (.type "StopIteration") [] >>= fun z=>_) _ _ _
 refine wpAny_bind ?_
 simp only[newExc,newTuple]
 refine wpAny_bind (wpAny_newObj_type ?_ (by size_fits))
 refine wpAny_bind (m:=firstArgMember _ _) (wpAny_of_eq (a:=Value.none) (by first|(simp only[firstArgMember];rfl)|rfl) ?_)
 refine wpAny_newObj_type ?_ (by size_fits)
 simp only[raiseNew]
 refine wpAny_bind (wpAny_handled ?_)
 first|rw[hn]|rw[show A.in1.handled=none from hn]
 refine wpAny_bind (wpAny_pure (wpAny_throw ?_))
 exact q _ _ (((Heap.SameBut.update ..).extBut.push _).push _) ⟨_,Heap.get?_push_size _ rfl,rfl⟩
theorem zbp{tu:Bool}{it l:Addr}{i:Nat}{items:Array Value}{x:Value}{Q:Option Value→Shared→Prop}(a:ItAt s.heap tu it l i)(b:SqAt s.heap tu l items)(c:items[i]?=some x)
  (q:∀ h',ItAt h' tu it l (i+1)→Heap.SameBut it s.heap h'→Q (some x) { s with heap:=h' }):wpAny (model prog w) A (Builtin.SmallTypes.nextOrEnd (.ref it)) Q E s:=by
 unfold Builtin.SmallTypes.nextOrEnd
 cases tu with
 | true=>exact wpAny_bind (wpAny_attempt (zf4 a b c fun h' p1 p2=>wpAny_pure (q h' p1 p2)))
 | false=>exact wpAny_bind (wpAny_attempt (wpAny_nextOf_list_item a b c fun h' p1 p2=>wpAny_pure (q h' p1 p2)))
theorem zdA{tu:Bool}{it l:Addr}{i:Nat}{items:Array Value}{Q:Option Value→Shared→Prop}(hn:A.handled=none)(a:ItAt s.heap tu it l i)(b:SqAt s.heap tu l items)(c:items[i]?=none)
  (q:∀ h',Heap.ExtBut it s.heap h'→Q none { s with heap:=h' }):wpAny (model prog w) A (Builtin.SmallTypes.nextOrEnd (.ref it)) Q E s:=by
 unfold Builtin.SmallTypes.nextOrEnd
 cases tu with
 | true=>exact wpAny_bind (wpAny_attempt (zkI hn a b c fun h' e p1 hZ=>hZ.elim fun o hZ=>hZ.elim fun p2 p3=>wpAny_bind (wpAny_isInstance (T := "StopIteration") (b:=true) ⟨o,p2,p3⟩ isSubtype_stop (wpAny_pure (q h' p1)))))
 | false=>exact wpAny_bind (wpAny_attempt (wpAny_nextOf_list_end hn a b c fun h' e p1 hZ=>hZ.elim fun o hZ=>hZ.elim fun p2 p3=>wpAny_bind (wpAny_isInstance (T := "StopIteration") (b:=true) ⟨o,p2,p3⟩ isSubtype_stop (wpAny_pure (q h' p1)))))
def z2V(h:Heap)(z ti to:Addr)(f:Value):Prop:=h.get? z=some { cls := .type "zip",dict:=none,data := .fields #[f,.bool false,.bool true,.ref ti,.ref to],slots:=#[] }
structure Apart(z ti to i j a b:Addr):Prop where
 p1:ti≠z
 p2:to≠z
 p3:i≠z
 p4:j≠z
 p5:ti≠to
 p6:ti≠i
 p7:ti≠j
 p8:to≠i
 p9:to≠j
 p10:i≠j
 a1:a≠z
 a2:a≠to
 a3:a≠i
 a4:a≠j
 b1:b≠z
 b2:b≠to
 b3:b≠i
 b4:b≠j
def zEnd(l:List Value)(n:Nat):Sem PySem.Fin:=do
 if n > 0 then
  rule "zip.__next__.shorter";raiseError "ValueError" s!"zip() argument {n + 1} is shorter than {if n == 1 then "argument 1" else s!"arguments 1-{n}"}"
 for (e,m) in (l.drop 1).zipIdx 1 do
  if(←Builtin.SmallTypes.nextOrEnd e).isSome then
   rule "zip.__next__.longer";raiseError "ValueError" s!"zip() argument {m + 1} is longer than {if m == 1 then "argument 1" else s!"arguments 1-{m}"}"
 rule "zip.__next__.all-ended";Builtin.SmallTypes.stopIteration
theorem zlY{z ti to i j a b:Addr}{ta tb:Bool}{k:Nat}{xs ys:Array Value}{x y u v:Value}{Q:Value→Shared→Prop}(D:Apart z ti to i j a b)
  (hz:z2V s.heap z ti to .none) (hI:IsPair s.heap ti (.ref i) (.ref j)) (hO:IsPair s.heap to u v) (hi:ItAt s.heap ta i a k) (hj:ItAt s.heap tb j b k) (ha:SqAt s.heap ta a xs) (hb:SqAt s.heap tb b ys) (hx:xs[k]?=some x) (hy:ys[k]?=some y)
  (hQ:∀ h',z2V h' z ti to (rawInt s.heap.objs.size)→IsPair h' to x y→ItAt h' ta i a (k+1)→ItAt h' tb j b (k+1)→IsPair h' s.heap.objs.size x y→h'.objs.size=s.heap.objs.size+1 →
   (∀ c o,c≠z→c≠to→c≠i→c≠j→s.heap.get? c=some o→h'.get? c=some o)→Q (.ref s.heap.objs.size) { s with heap:=h' }) :
  wpAny (model prog w) A (Builtin.«zip.__next__» ⟨[.ref z],[]⟩) (fun fin s'=>∃ v,fin = .done (.ret v)∧Q v s') E s:=by
 show wpAny _ _ (field (.ref z) 2 >>= fun t=>_) _ _ _
 refine wpAny_bind (wpAny_field hz rfl (x:=Value.bool true) rfl ?_)
 show wpAny _ _ (field (.ref z) 3 >>= fun t=>_) _ _ _
 refine wpAny_bind (wpAny_field hz rfl (x:=Value.ref ti) rfl ?_)
 refine wpAny_bind (wpAny_seqItems hI rfl ?_)
 show wpAny _ _ (Builtin.SmallTypes.ownedTupleIsFree (.ref z) >>= fun t=>_) _ _ _
 refine wpAny_bind ?_
 unfold Builtin.SmallTypes.ownedTupleIsFree
 refine wpAny_bind (wpAny_field hz rfl (x:=Value.none) rfl (wpAny_pure ?_))
 simp only[if_true]
 refine wpAny_bind (wpAny_rule ?_)
 refine wpAny_bind (wpAny_field hz rfl (x:=Value.ref to) rfl ?_)
 refine wpAny_bind (wpAny_setField_rec hz (by simp) fun g1 z1 m1=>?_)
 replace z1:z2V g1 z ti to .ellipsis:=z1
 refine wpAny_bind ?_
 simp only[List.zipIdx_cons,List.forIn_cons,List.zipIdx_nil,List.forIn_nil]
 refine wpAny_bind (wpAny_bind (wpAny_onRaise ?_))
 show wpAny _ _ (Builtin.SmallTypes.nextOrEnd (.ref i)) _ _ _
 refine zbp (hi.at fun o e=>m1.extBut _ _ D.p3 e) (ha.at fun o e=>m1.extBut _ _ D.a1 e) hx fun g2 i2 m2=>?_
 have o2:IsPair g2 to u v:=m2.extBut _ _ D.p8 (m1.extBut _ _ D.p2 hO)
 refine wpAny_bind (wpAny_seqItems o2 rfl ?_)
 refine wpAny_bind (wpAny_updateSeq_pair o2 fun g3 o3 m3=>?_)
 replace o3:IsPair g3 to x v:=o3
 refine wpAny_bind (wpAny_letGo (wpAny_pure ?_))
 refine wpAny_bind (wpAny_bind (wpAny_onRaise ?_))
 show wpAny _ _ (Builtin.SmallTypes.nextOrEnd (.ref j)) _ _ _
 refine zbp (hj.at fun o e=>m3.extBut _ _ D.p9.symm (m2.extBut _ _ D.p10.symm (m1.extBut _ _ D.p4 e))) (hb.at fun o e=>m3.extBut _ _ D.b2 (m2.extBut _ _ D.b3 (m1.extBut _ _ D.b1 e))) hy fun g4 j4 m4=>?_
 have o4:IsPair g4 to x v:=m4.extBut _ _ D.p9 o3
 refine wpAny_bind (wpAny_seqItems o4 rfl ?_)
 refine wpAny_bind (wpAny_updateSeq_pair o4 fun g5 o5 m5=>?_)
 replace o5:IsPair g5 to x y:=o5
 refine wpAny_bind (wpAny_letGo (wpAny_pure (wpAny_pure ?_)))
 refine wpAny_bind (wpAny_seqItems o5 rfl ?_)
 refine wpAny_bind (wpAny_newTuple ?_)
 have sz:g5.objs.size=s.heap.objs.size:=by rw[m5.1,m4.1,m3.1,m2.1,m1.1]
 have z5:z2V g5 z ti to .ellipsis:=m5.extBut _ _ D.p2.symm (m4.extBut _ _ D.p4.symm (m3.extBut _ _ D.p2.symm (m2.extBut _ _ D.p3.symm z1)))
 have k5:∀ c o,c≠z→c≠to→c≠i→c≠j→s.heap.get? c=some o→g5.get? c=some o:=fun c o c1 c2 c3 c4 e=>m5.extBut _ _ c2 (m4.extBut _ _ c4 (m3.extBut _ _ c2 (m2.extBut _ _ c3 (m1.extBut _ _ c1 e))))
 have i5:ItAt g5 ta i a (k+1):=i2.at fun o e=>m5.extBut _ _ D.p8.symm (m4.extBut _ _ D.p10 (m3.extBut _ _ D.p8.symm e))
 have j5:ItAt g5 tb j b (k+1):=j4.at fun o e=>m5.extBut _ _ D.p9.symm e
 have zl:z<g5.objs.size:=Heap.lt_size z5
 show wpAny _ _ (Builtin.SmallTypes.ownedTupleHandOut (.ref z) (.ref g5.objs.size) >>= fun t=>_) _ _ _
 refine wpAny_bind ?_
 unfold Builtin.SmallTypes.ownedTupleHandOut
 have z6:z2V (g5.push { cls := .type "tuple",data := .seq #[x,y] }) z ti to .ellipsis:=Heap.get?_push_of_some _ z5
 refine wpAny_bind (wpAny_setField_rec z6 (by simp) fun g7 z7 m7=>?_)
 replace z7:z2V g7 z ti to (rawInt g5.objs.size):=z7
 refine wpAny_setField_rec z7 (by simp) fun g8 z8 m8=>?_
 replace z8:z2V g8 z ti to (rawInt g5.objs.size):=z8
 have up:∀ c o,c≠z→g5.get? c=some o→g8.get? c=some o:=fun c o c1 e=>m8.extBut _ _ c1 (m7.extBut _ _ c1 (Heap.get?_push_of_some _ e))
 have t8:IsPair g8 g5.objs.size x y:=m8.extBut _ _ (Nat.ne_of_gt zl) (m7.extBut _ _ (Nat.ne_of_gt zl) (Heap.get?_push_size _ rfl))
 have s8:g8.objs.size=g5.objs.size+1:=by rw[m8.1,m7.1,Heap.size_push]
 rw[sz]at z8 t8 s8
 refine wpAny_pure ⟨_,rfl,?_⟩
 show Q (.ref g5.objs.size) _
 rw[sz]
 exact hQ g8 z8 (up _ _ D.p2 o5) (i5.at fun o e=>up _ o D.p3 e) (j5.at fun o e=>up _ o D.p4 e) t8 s8 fun c o c1 c2 c3 c4 e=>up c o c1 (k5 c o c1 c2 c3 c4 e)
theorem zpW{z ti to i j a b:Addr}{ta tb:Bool}{k:Nat}{xs ys:Array Value}{u v:Value}{Q:Fin→Shared→Prop}(hn:A.handled=none)(D:Apart z ti to i j a b)
  (hz:z2V s.heap z ti to .none) (hI:IsPair s.heap ti (.ref i) (.ref j)) (hO:IsPair s.heap to u v) (hi:ItAt s.heap ta i a k) (hj:ItAt s.heap tb j b k) (ha:SqAt s.heap ta a xs) (hb:SqAt s.heap tb b ys) (hx:xs[k]?=none) (hy:ys[k]?=none)
  (hE:∀ h' e,(∀ c o,c≠z→c≠to→c≠i→c≠j→s.heap.get? c=some o→h'.get? c=some o)→(∃ o,h'.get? e=some o∧o.cls = .type "StopIteration")→E (.ref e) { s with heap:=h' }) :
  wpAny (model prog w) A (Builtin.«zip.__next__» ⟨[.ref z],[]⟩) Q E s:=by
 show wpAny _ _ (field (.ref z) 2 >>= fun t=>_) _ _ _
 refine wpAny_bind (wpAny_field hz rfl (x:=Value.bool true) rfl ?_)
 show wpAny _ _ (field (.ref z) 3 >>= fun t=>_) _ _ _
 refine wpAny_bind (wpAny_field hz rfl (x:=Value.ref ti) rfl ?_)
 refine wpAny_bind (wpAny_seqItems hI rfl ?_)
 show wpAny _ _ (Builtin.SmallTypes.ownedTupleIsFree (.ref z) >>= fun t=>_) _ _ _
 refine wpAny_bind ?_
 unfold Builtin.SmallTypes.ownedTupleIsFree
 refine wpAny_bind (wpAny_field hz rfl (x:=Value.none) rfl (wpAny_pure ?_))
 simp only[if_true]
 refine wpAny_bind (wpAny_rule ?_)
 refine wpAny_bind (wpAny_field hz rfl (x:=Value.ref to) rfl ?_)
 refine wpAny_bind (wpAny_setField_rec hz (by simp) fun g1 z1 m1=>?_)
 replace z1:z2V g1 z ti to .ellipsis:=z1
 refine wpAny_bind ?_
 simp only[List.zipIdx_cons,List.forIn_cons,List.zipIdx_nil,List.forIn_nil]
 refine wpAny_bind (wpAny_bind (wpAny_onRaise ?_))
 show wpAny _ _ (Builtin.SmallTypes.nextOrEnd (.ref i)) _ _ _
 refine zdA hn (hi.at fun o e=>m1.extBut _ _ D.p3 e) (ha.at fun o e=>m1.extBut _ _ D.a1 e) hx fun g2 m2=>?_
 have z2:z2V g2 z ti to .ellipsis:=m2 _ _ D.p3.symm z1
 refine wpAny_bind (wpAny_setField_rec z2 (by simp) fun g3 z3 m3=>?_)
 refine wpAny_bind ?_
 show wpAny _ _ (zEnd [.ref i,.ref j] 0) _ _ _
 unfold zEnd
 rw[if_neg (Nat.lt_irrefl 0)]
 show wpAny _ _ (forIn [(Value.ref j,1)] PUnit.unit _ >>= fun t=>_) _ _ _
 simp only[List.forIn_cons,List.forIn_nil]
 refine wpAny_bind (wpAny_bind (wpAny_bind (zdA hn (hj.at fun o e=>m3.extBut _ _ D.p4 (m2 _ _ D.p10.symm (m1.extBut _ _ D.p4 e))) (hb.at fun o e=>m3.extBut _ _ D.b1 (m2 _ _ D.b3 (m1.extBut _ _ D.b1 e))) hy fun g4 m4=>?_)))
 simp only[Option.isSome_none,Bool.false_eq_true,if_false]
 refine wpAny_pure (wpAny_pure (wpAny_bind (wpAny_rule ?_)))
 unfold Builtin.SmallTypes.stopIteration
 refine wpAny_bind ?_
 simp only[newExc,newTuple]
 refine wpAny_bind (wpAny_newObj_type ?_ (by size_fits))
 refine wpAny_bind (m:=firstArgMember _ _) (wpAny_of_eq (a:=Value.none) (by first|(simp only[firstArgMember];rfl)|rfl) ?_)
 refine wpAny_newObj_type ?_ (by size_fits)
 simp only[raiseNew]
 refine wpAny_bind (wpAny_handled ?_)
 first|rw[hn]|rw[show A.in1.handled=none from hn]
 refine wpAny_bind (wpAny_pure (wpAny_throw ?_))
 refine hE _ _ (fun c o c1 c2 c3 c4 e=>?_) ⟨_,Heap.get?_push_size _ rfl,rfl⟩
 exact Heap.get?_push_of_some _ (Heap.get?_push_of_some _ (m4 _ _ c4 (m3.extBut _ _ c1 (m2 _ _ c3 (m1.extBut _ _ c1 e)))))
theorem zkJ{z ti to i j a b:Addr}{ta tb:Bool}{k:Nat}{xs ys:Array Value}{x y u v:Value}{Q:Option Value→Shared→Prop}(D:Apart z ti to i j a b)
  (hz:z2V s.heap z ti to .none) (hI:IsPair s.heap ti (.ref i) (.ref j)) (hO:IsPair s.heap to u v) (hi:ItAt s.heap ta i a k) (hj:ItAt s.heap tb j b k) (ha:SqAt s.heap ta a xs) (hb:SqAt s.heap tb b ys) (hx:xs[k]?=some x) (hy:ys[k]?=some y)
  (hQ:∀ h',z2V h' z ti to (rawInt s.heap.objs.size)→IsPair h' to x y→ItAt h' ta i a (k+1)→ItAt h' tb j b (k+1)→IsPair h' s.heap.objs.size x y→h'.objs.size=s.heap.objs.size+1 →
   (∀ c o,c≠z→c≠to→c≠i→c≠j→s.heap.get? c=some o→h'.get? c=some o)→Q (some (.ref s.heap.objs.size)) { s with heap:=h' }):wpAny (model prog w) A (pyNext (.ref z)) Q E s:=by
 have t:s.TypeIs (.ref z) "zip" := ⟨_,hz,rfl⟩
 unfold pyNext
 exact wpAny_bind (wpAny_attempt (wpAny_callSpecial?_slot (name:=Str.ofString "__next__") t F.slot_zip_next (wpAny_call_entry F.slot_zip_next t F.entry_zip_next
  (zlY D hz hI hO hi hj ha hb hx hy fun h' q1 q2 q3 q4 q5 q6 q7=>wpAny_pure (hQ h' q1 q2 q3 q4 q5 q6 q7)) (F.args_zip_next_1 _))))
theorem zlZ{z ti to i j a b:Addr}{ta tb:Bool}{k:Nat}{xs ys:Array Value}{u v:Value}{Q:Option Value→Shared→Prop}(hn:A.handled=none)(D:Apart z ti to i j a b)
  (hz:z2V s.heap z ti to .none) (hI:IsPair s.heap ti (.ref i) (.ref j)) (hO:IsPair s.heap to u v) (hi:ItAt s.heap ta i a k) (hj:ItAt s.heap tb j b k) (ha:SqAt s.heap ta a xs) (hb:SqAt s.heap tb b ys) (hx:xs[k]?=none) (hy:ys[k]?=none)
  (hQ:∀ h',(∀ c o,c≠z→c≠to→c≠i→c≠j→s.heap.get? c=some o→h'.get? c=some o)→Q none { s with heap:=h' }):wpAny (model prog w) A (pyNext (.ref z)) Q E s:=by
 have t:s.TypeIs (.ref z) "zip" := ⟨_,hz,rfl⟩
 unfold pyNext
 refine wpAny_bind (wpAny_attempt (wpAny_callSpecial?_slot (name:=Str.ofString "__next__") t F.slot_zip_next (wpAny_call_entry F.slot_zip_next t F.entry_zip_next
  (zpW hn D hz hI hO hi hj ha hb hx hy fun h' e q1 hZ=>hZ.elim fun o hZ=>hZ.elim fun q2 q3=>?_) (F.args_zip_next_1 _))))
 exact wpAny_bind (wpAny_isInstance (T := "StopIteration") (b:=true) ⟨o,q2,q3⟩ isSubtype_stop (wpAny_pure (hQ _ q1)))
theorem let_go{elts:List Expr}{n:Nat}{pos:Pos}{z ti to t:Addr}{Q:Unit→Shared→Prop}(hz:z2V s.heap z ti to (rawInt t))
  (hQ:∀ h',z2V h' z ti to .none→Heap.SameBut z s.heap h'→Q () { s with heap:=h' }):wpAny (model prog w) A (letOwnedTupleGo (.Tuple elts n pos) (.ref z) (.ref t)) Q E s:=by
 unfold letOwnedTupleGo
 refine wpAny_bind (wpAny_load hz ?_)
 show wpAny _ _ (if(["enumerate", "zip", "dict_itemiterator", "dict_reverseitemiterator", "odict_iterator", "itertools.zip_longest", "itertools.pairwise"].contains "zip" && (#[rawInt t,.bool false,.bool true,.ref ti,.ref to]:Array Value)[0]?==some (rawInt t))=true then _ else _) Q E s
 rw[if_pos (by simp)]
 refine wpAny_bind (wpAny_rule ?_)
 show wpAny _ _ (setField (.ref z) 0 .none) Q E s
 exact wpAny_setField_rec hz (by simp) fun h' q1 q2=>hQ h' q1 q2
theorem zdB{z ti to:Addr}{f:Value}{Q:Value→Shared→Prop}(hz:z2V s.heap z ti to f)(h:Q (.ref z) s):wpAny (model prog w) A (pyIter (.ref z)) Q E s:=by
 have t:s.TypeIs (.ref z) "zip" := ⟨_,hz,rfl⟩
 refine wpAny_pyIter_slot t F.slot_zip_iter (wpAny_call_entry F.slot_zip_iter t F.entry_zip_iter ?_ (F.args_zip_iter_1 _))
 show wpAny _ _ (ret (.ref z)) _ _ s
 exact wpAny_pure ⟨_,rfl, "zip",_,t,F.slot_zip_next.lookup,h⟩
def zdC(tu:Bool)(l:Addr):Obj:={ cls := .type (if tu then "tuple_iterator" else "list_iterator"),data := .fields #[.ref l,.int 0 0] }
theorem zdD{tu:Bool}{l:Addr}{xs:Array Value}{Q:Value→Shared→Prop}(h:SqAt s.heap tu l xs)(q:Q (.ref s.heap.objs.size) { s with heap:=s.heap.push (zdC tu l) }):wpAny (model prog w) A (pyIter (.ref l)) Q E s:=by
 cases tu with
 | true=>exact wpAny_pyIter_tuple h q
 | false=>exact wpAny_pyIter_list h q
theorem zdE{h:Heap}{tu:Bool}{l p:Addr}(e:h.get? p=some (zdC tu l)):ItAt h tu p l 0:=by
 unfold ItAt
 cases tu with
 | true=>exact⟨_,e,rfl,rfl⟩
 | false=>exact⟨_,e,rfl,rfl⟩
abbrev h1(h:Heap)(ta:Bool)(a:Addr):Heap:=h.push (zdC ta a)
abbrev h2(h:Heap)(ta tb:Bool)(a b:Addr):Heap:=(h1 h ta a).push (zdC tb b)
abbrev h3(h:Heap)(ta tb:Bool)(a b:Addr):Heap:=(h2 h ta tb a b).push { cls := .type "tuple",data := .seq #[.ref h.objs.size,.ref (h1 h ta a).objs.size] }
abbrev h4(h:Heap)(ta tb:Bool)(a b:Addr):Heap:=(h3 h ta tb a b).push { cls := .type "tuple",data := .seq #[.none,.none] }
abbrev h5(h:Heap)(ta tb:Bool)(a b:Addr):Heap:=(h4 h ta tb a b).push { cls := .type "zip",data := .fields #[.none,.bool false,.bool true,.ref (h2 h ta tb a b).objs.size,.ref (h3 h ta tb a b).objs.size] }
theorem zkK(a b:Addr)(ta tb:Bool)(xs ys:Array Value):Meets (Builtin.«zip.__new__» ⟨[.type "zip",.ref a,.ref b],[(Str.ofString "strict",.bool true)]⟩)
  (fun _ R s=>SqAt s.heap ta a xs∧SqAt s.heap tb b ys∧R (.ok (.ret (.ref (h4 s.heap ta tb a b).objs.size))) { s with heap:=h5 s.heap ta tb a b }) :=
 .of_wp fun prog w A R s hZ=>hZ.elim fun qa hZ=>hZ.elim fun qb q=>by
  obtain⟨hp,g,d,tk,os⟩:=s
  have f1:=sub_zip
  have e1:SqAt (Shared.heap ⟨hp,g,d,tk,os⟩) ta a xs:=qa
  have e2:SqAt (Shared.heap ⟨hp.push (zdC ta a),g,d,tk,os⟩) tb b ys:=qb.at fun o e=>Heap.get?_push_of_some _ e
  wp_walk using zdD e1,zdD e2
  exact⟨_,rfl,q⟩
end
end ZL

end
section
set_option Elab.async false
set_option linter.all false
set_option maxRecDepth 100000
set_option maxHeartbeats 4000000
namespace ZL
open PySem PyProof.Rows
theorem okT(a b v:Value):checkTypeCall "zip" ⟨[a,b],[(Str.ofString "strict",v)]⟩=pure ():=by kernel_rfl
theorem okN(a b v:Value):checkBuiltinCall "zip.__new__" ⟨[.type "zip",a,b],[(Str.ofString "strict",v)]⟩=pure ():=by kernel_rfl
theorem okI(a b c v:Value):argsOk "object.__init__" ⟨[a,b,c],[(Str.ofString "strict",v)]⟩:=by
 unfold argsOk;rw[signature?_of (id := "object.__init__") (n := "__init__".toList.reverse) (o := "object".toList.reverse) (by kernel_rfl) F.owner_object];kernel_rfl
section
variable {prog:Program}{w:World}{A:Around}{E:Value→Shared→Prop}{s:Shared}
theorem zf5(self a b v:Value):Meets (Builtin.«object.__init__» ⟨[self,a,b],[(Str.ofString "strict",v)]⟩) (fun _ R s=>s.TypeIs self "zip" ∧ R (.ok (.ret .none)) s):=by
 refine Meets.of_wp ?_
 rintro prog w A R s ⟨t,q⟩
 have hl:=F.called_zip.init.lookup
 have hm:=F.called_zip.made
 have hne:(some "zip.__new__" != some "object.__new__")=true:=by decide
 repeat (any_goals first|assumption|wp_step)
 exact⟨_,rfl,q⟩
theorem zm{a b:Addr}{ta tb:Bool}{xs ys:Array Value}{Q:Value→Shared→Prop}(qa:SqAt s.heap ta a xs)(qb:SqAt s.heap tb b ys)
   (q:Q (.ref (h4 s.heap ta tb a b).objs.size) { s with heap:=h5 s.heap ta tb a b }):wpAny (model prog w) A (call (.type "zip") [.ref a,.ref b] [(Str.ofString "strict",.bool true)]) Q E s:=by
 obtain⟨c,tl,hmro⟩:=F.called_zip.mro
 have m1:=F.called_zip.made
 have m2:=F.called_zip.sub
 have m3:=okT (.ref a) (.ref b) (.bool true)
 refine wpAny_call (codeAny_of_tree ?_)
 show wpAny _ _ (callAny (.type "zip") _) _ _ _
 refine wpAny_pure ⟨Code.quiet_builtin _ (by decide +kernel),codeAny_builtin F.entry_type_call ?_⟩
 rw[Around.under_plain (weight_type_call_type "zip" _ _) (units_type_call_type "zip" _ _)]
 have m4:=F.called_zip.notType
 have m5:=F.called_zip.canCreate
 repeat (any_goals first|assumption|wp_step)
 refine codeAny_mono (codeAny_call_builtin F.called_zip.plain F.entry_zip_new (wpAny_of_eq (okN _ _ _) (zkK a b ta tb xs ys prog w A.in1 (wants (fun o s1=>s1.TypeIs o "zip" ∧ Q o s1) E) s ⟨qa,qb,?_⟩))) fun r s1 hr=>?_
 · exact⟨⟨_,Heap.get?_push_size _ rfl,rfl⟩,q⟩
 cases r with
 | error e=>exact hr
 | ok fl =>
   cases fl with
   | ret o =>
    obtain⟨ty,hq⟩:=hr
    have n1:=F.called_zip.init.lookup
    have n2:=F.called_zip.init.bind o
    repeat (any_goals first|assumption|wp_step)
    refine codeAny_mono (codeAny_call_builtin F.called_zip.init.plain F.entry_object_init (F.called_zip.init.check _ _ _ _ _ _ _ _ ty (okI o _ _ _) (zf5 o _ _ _ prog w A.in1 (wants (fun r s2=>r = .none∧Q o s2) E) s1 ⟨ty,rfl,hq⟩))) fun r2 s2 hr2=>?_
    cases r2 with
    | error e=>exact hr2
    | ok f2 =>
     cases f2 with
     | ret r =>
      obtain⟨rfl,hq⟩:=hr2
      repeat (any_goals first|assumption|wp_step)
     | _=>exact hr2.elim
   | _=>exact hr.elim
end
end ZL

end
section
local macro_rules|`(tactic| omega)=>`(tactic| first|lia|omega +splitDisjunctions)
set_option Elab.async false
set_option linter.all false
set_option maxRecDepth 100000
set_option maxHeartbeats 1000000
namespace L2
open PySem PySem.Spec PyProof.Rows ZL
section
variable {X:Cx}{pins:List (Addr×Obj)}{σ:St}{H:Hp}{s:Shared}{h':Heap}
theorem Inv.turnedL{t':Nat}{ch:List Addr}(I:Inv X pins σ H s)(k:∀ b o,b ∉ ch→s.heap.get? b=some o→h'.get? b=some o)(hc:∀ b∈ch,FpOk X pins H b):Inv X pins σ H { s with heap:=h',toks:=t' }:=by
 have nit:∀ b u,H b=some u→b ∉ ch:=fun b u e z=>by rw[(hc b z).1]at e;cases e
 refine I.step (g':=s.gens) (d':=s.drawn) (ch:=ch) (fun b hb=>?_) (fun b o _ _ hn e _=>k b o hn e) (fun b o _ _ hn e _=>⟨o.slots,k b o hn e⟩) (fun _ _ _ _ n=>n)
   (fun b o hn e=>⟨o,k b o hn e⟩) (fun _ _ e=>e) (fun _ _ _ e=>e) (fun b ps e=>⟨#[],by rw[e];simp⟩) (fun m hm=>?_) (fun b u e=>?_) I.bare
 · obtain⟨f0,f1,f2,f3,f4,f5⟩:=hc b hb
   exact⟨f3,f1,f4,f5⟩
 · obtain⟨o,es,ep,ho,r⟩:=hm
   exact⟨o,es,ep,k _ o (fun z=>(hc _ z).2.1 rfl) ho,r⟩
 · refine(I.hok b u e).stay (fun c v hcc q=>k c v ?_ q) (fun _ q=>q) fun _ _ q=>q
   rcases hcc with z|z
   · rw[z];exact nit b u e
   · exact nit c _ z
theorem Inv.pair{t':Nat}{ch:List Addr}{x y:V}{u v:Value}(I:Inv X pins σ H s)(rx:RelV x u)(ry:RelV y v)(hp:h'.get? s.heap.objs.size=some { cls := .type "tuple",data := .seq #[u,v] })
   (k:∀ b o,b ∉ ch→s.heap.get? b=some o→h'.get? b=some o) (hc:∀ b∈ch,FpOk X pins H b) (hl:∀ b∈ch,b<s.heap.objs.size) :
   H s.heap.objs.size=none∧Inv X pins σ (upd H s.heap.objs.size (.tup [x,y])) { s with heap:=h',toks:=t' }:=by
 have hn:H s.heap.objs.size=none:=I.hok.fresh (Nat.le_refl _)
 have I1:Inv X pins σ (upd H s.heap.objs.size (.tup [x,y])) { s with heap:=s.heap.push { cls := .type "tuple",data := .seq #[u,v] },toks:=t' } :=
   I.laid (fun b o e=>Heap.get?_push_of_some _ e) (Nat.le_refl _) ⟨by show 2≤sizeLine;decide,[u,v],.cons rx (.cons ry .nil),⟨_,Heap.get?_push_size _ rfl,rfl,_,rfl⟩⟩
 refine⟨hn,Inv.turnedL (s:={ s with heap:=s.heap.push { cls := .type "tuple",data := .seq #[u,v] },toks:=t' }) (h':=h') (t':=t') (ch:=ch) I1 (fun b o hb e=>?_) fun b hb=>?_⟩
 · by_cases q:b=s.heap.objs.size
   · subst q
     have e2:(s.heap.push { cls := .type "tuple",data := .seq #[u,v] }).get? s.heap.objs.size=some _:=Heap.get?_push_size _ rfl
     have e:(s.heap.push { cls := .type "tuple",data := .seq #[u,v] }).get? s.heap.objs.size=some o:=e
     rw[e2]at e
     rw[hp];exact e
   · refine k b o hb ?_
     have e:(s.heap.push { cls := .type "tuple",data := .seq #[u,v] }).get? b=some o:=e
     rw[Heap.get?_push_ne _ _ _ q]at e
     exact e
 · obtain⟨f0,f⟩:=hc b hb
   exact⟨by rw[z0x (Nat.ne_of_lt (hl b hb))];exact f0,f⟩
end
def SqV(K:PySem.W.Frag)(tu:Bool)(H:Hp)(a:Addr)(xs:List V):Prop:=if tu then SqT K H a xs else SqL K H a xs
theorem SqV.mono{K:PySem.W.Frag}{tu:Bool}{H H':Hp}{a:Addr}{xs:List V}(e:Same H H')(h:SqV K tu H a xs):SqV K tu H' a xs:=by
 unfold SqV at h ⊢
 cases tu with
 | true=>exact e.seqT h
 | false=>exact e.seq h
theorem Inv.sq{X:Cx}{pins:List (Addr×Obj)}{σ:St}{H:Hp}{s:Shared}{tu:Bool}{a:Addr}{xs:List V}(I:Inv X pins σ H s)(h:SqV X.K tu H a xs):∃ its:List Value,Vals xs its∧SqAt s.heap tu a its.toArray∧xs.length≤sizeLine:=by
 unfold SqV at h
 unfold SqAt
 cases tu with
 | true=>obtain⟨its,r,p,z⟩:=I.tuple h;exact⟨its,r,p,z⟩
 | false=>obtain⟨its,r,p,z⟩:=I.list h;exact⟨its,r,p.isList,z⟩
theorem Inv.sq_inj{X:Cx}{pins:List (Addr×Obj)}{σ:St}{H:Hp}{s:Shared}{tu:Bool}{a:Addr}{xs ys:List V}(I:Inv X pins σ H s)(h:SqV X.K tu H a xs)(h':SqV X.K tu H a ys):xs=ys:=by
 unfold SqV at h h'
 cases tu with
 | true=>exact I.tuple_inj h h'
 | false=>exact I.list_inj h h'
def Itz(K:PySem.W.Frag)(ta tb:Bool)(a b:Addr):It where
 go:=fun i H=>∃ xs ys x y,SqV K ta H a xs∧SqV K tb H b ys∧xs[i]?=some x∧ys[i]?=some y
 yld:=fun i H v H'=>∃ p x y,(∀ xs,SqV K ta H a xs→xs[i]?=some x)∧(∀ ys,SqV K tb H b ys→ys[i]?=some y)∧H p=none∧v = .ref p∧H'=upd H p (.tup [x,y])
 stop:=fun i H=>∃ xs ys,SqV K ta H a xs∧SqV K tb H b ys∧xs.length≤i∧ys.length≤i
theorem mem5{z ti to i j c:Addr}(h:c ∉ [z,ti,to,i,j]):c≠z∧c≠ti∧c≠to∧c≠i∧c≠j:=by simpa using h
theorem zm0{P:Program}{w:World}{K:PySem.W.Frag}{elts:List Expr}{n:Nat}{pos:Pos}{ta tb:Bool}{z ti to i j a b:Addr}(D:Apart z ti to i j a b):
  Turn P w K (.Tuple elts n pos) (Itz K ta tb a b) [z,ti,to,i,j] z (fun k h=>z2V h z ti to .none∧IsPair h ti (.ref i) (.ref j)∧(∃ u v,IsPair h to u v)∧ItAt h ta i a k∧ItAt h tb j b k) where
 mem:=by simp
 obj:=fun k h ⟨q1,q2,⟨u,v,q3⟩,q4,q5⟩ c hc=>by
  have it:∀{tu:Bool} {it l:Addr} {k:Nat},ItAt h tu it l k→∃ o,h.get? it=some o∧∀ v,o.data ≠ .cell v:=fun{tu it l k} q=>by
    unfold ItAt at q
    cases tu with
    | true=>obtain⟨o,e,_,d⟩:=q;exact⟨o,e,fun v z=>by rw[d]at z;cases z⟩
    | false=>obtain⟨o,e,_,d⟩:=q;exact⟨o,e,fun v z=>by rw[d]at z;cases z⟩
  simp only[List.mem_cons,List.not_mem_nil,or_false]at hc
  rcases hc with rfl|rfl|rfl|rfl|rfl
  · exact⟨_,q1,fun v z=>by have z':Data.fields _=Data.cell v:=z;cases z'⟩
  · exact⟨_,q2,fun v z=>by have z':Data.seq _ _=Data.cell v:=z;cases z'⟩
  · exact⟨_,q3,fun v z=>by have z':Data.seq _ _=Data.cell v:=z;cases z'⟩
  · exact it q4
  · exact it q5
 keep:=fun k h h' ⟨q1,q2,⟨u,v,q3⟩,q4,q5⟩ kk=>⟨kk z (by simp) _ q1,kk ti (by simp) _ q2,⟨u,v,kk to (by simp) _ q3⟩,q4.at fun o e=>kk i (by simp) o e,q5.at fun o e=>kk j (by simp) o e⟩
 item:=by
  intro X hP hw hK hc k pins s σ H E I hf ⟨q1,q2,⟨u,v,q3⟩,q4,q5⟩ hg
  subst hP hw hK
  obtain⟨xs,ys,x,y,hx,hy,ex,ey⟩:=hg
  obtain⟨its,rx,px,_⟩:=I.sq hx
  obtain⟨jts,ry,py,_⟩:=I.sq hy
  obtain⟨ux,hux,rux⟩:=rx.get ex
  obtain⟨uy,huy,ruy⟩:=ry.get ey
  have lt:∀ b∈[z,ti,to,i,j],b<s.heap.objs.size:=fun b hb=>by
    simp only[List.mem_cons,List.not_mem_nil,or_false]at hb
    rcases hb with rfl|rfl|rfl|rfl|rfl
    · exact Heap.lt_size q1
    · exact Heap.lt_size q2
    · exact Heap.lt_size q3
    · exact q4.lt
    · exact q5.lt
  refine zkJ D q1 q2 q3 q4 q5 px py (x:=ux) (y:=uy) (by simpa using hux) (by simpa using huy) fun h' a1 a2 a3 a4 a5 a6 a7=>⟨_,rfl,let_go a1 fun h'' b1 b2=>?_⟩
  have hzp:s.heap.objs.size≠z:=Nat.ne_of_gt (lt z (by simp))
  have kk:∀ b o,b ∉ [z,ti,to,i,j]→s.heap.get? b=some o→h''.get? b=some o:=fun b o hb e=>by
    obtain⟨c1,c2,c3,c4,c5⟩:=mem5 hb
    exact b2.extBut _ _ c1 (a7 b o c1 c3 c4 c5 e)
  obtain⟨hn,I1⟩:=I.pair (t':=s.toks) (h':=h'') rux ruy (b2.extBut _ _ hzp a5) kk hf lt
  refine⟨.ref s.heap.objs.size,_,I1,rfl,⟨_,x,y,fun zs hz=>by rw[I.sq_inj hz hx];exact ex,fun zs hz=>by rw[I.sq_inj hz hy];exact ey,hn,rfl,rfl⟩,?_,fun b hb=>by rw[z0x (Nat.ne_of_lt (lt b hb))];exact(hf b hb).1⟩
  exact⟨b1,b2.extBut _ _ D.p1 (a7 _ _ D.p1 D.p5 D.p6 D.p7 q2),⟨_,_,b2.extBut _ _ D.p2 a2⟩,a3.at fun o e=>b2.extBut _ _ D.p3 e,a4.at fun o e=>b2.extBut _ _ D.p4 e⟩
 done:=by
  intro X hP hw hK hc k pins s σ H E I hf ⟨q1,q2,⟨u,v,q3⟩,q4,q5⟩ hg
  subst hP hw hK
  obtain⟨xs,ys,hx,hy,ex,ey⟩:=hg
  obtain⟨its,rx,px,_⟩:=I.sq hx
  obtain⟨jts,ry,py,_⟩:=I.sq hy
  have l1:=rx.length
  have l2:=ry.length
  refine zlZ (I.ok.hd hc) D q1 q2 q3 q4 q5 px py (by simp;omega) (by simp;omega) fun h' a7=>⟨rfl,I.turnedL (t':=s.toks) (ch:=[z,ti,to,i,j]) (fun b o hb e=>?_) hf⟩
  obtain⟨c1,c2,c3,c4,c5⟩:=mem5 hb
  exact a7 b o c1 c3 c4 c5 e
 self:=fun _ _ _ _ _ q h=>zdB q.1 h
def Ite(K:PySem.W.Frag)(a:Addr):It where
 go:=fun i H=>∃ xs x,SqL K H a xs∧xs[i]?=some x
 yld:=fun i H v H'=>∃ p x,(∀ xs,SqL K H a xs→xs[i]?=some x)∧H p=none∧v = .ref p∧H'=upd H p (.tup [.int i,x])
 stop:=fun i H=>∃ xs,SqL K H a xs∧xs.length≤i
theorem zkL{P:Program}{w:World}{K:PySem.W.Frag}{elts:List Expr}{n:Nat}{pos:Pos}{e it a:Addr}(hne:e≠it):
  Turn P w K (.Tuple elts n pos) (Ite K a) [e,it] e (fun k h=>(∃ old,IsEnum h e it k old)∧h.IsListIter it a k) where
 mem:=by simp
 obj:=fun k h ⟨⟨old,q1⟩,q2⟩ c hc=>by
  simp only[List.mem_cons,List.not_mem_nil,or_false]at hc
  rcases hc with rfl|rfl
  · exact⟨_,q1,fun v z=>by have z':Data.fields _=Data.cell v:=z;cases z'⟩
  · obtain⟨o,e,_,d⟩:=q2;exact⟨o,e,fun v z=>by rw[d]at z;cases z⟩
 keep:=fun k h h' ⟨⟨old,q1⟩,q2⟩ kk=>⟨⟨old,kk e (by simp) _ q1⟩,q2.at fun o q=>kk it (by simp) o q⟩
 item:=by
  intro X hP hw hK hc k pins s σ H E I hf ⟨⟨old,q1⟩,q2⟩ hg
  subst hP hw hK
  obtain⟨xs,x,hx,ex⟩:=hg
  obtain⟨its,rx,px,_⟩:=I.list hx
  obtain⟨ux,hux,rux⟩:=rx.get ex
  have lt:∀ b∈[e,it],b<s.heap.objs.size:=fun b hb=>by
    simp only[List.mem_cons,List.not_mem_nil,or_false]at hb
    rcases hb with rfl|rfl
    · exact Heap.lt_size q1
    · obtain⟨o,z,_⟩:=q2;exact Heap.lt_size z
  refine wpAny_pyNext_enum_item q1 q2 px.isList (x:=ux) (by simpa using hux) hne fun h' a1 a2 a3 a4 a5=>⟨_,rfl,wpAny_letOwnedTupleGo_enum a1 fun h'' b1 b2=>?_⟩
  have hzp:s.heap.objs.size≠e:=Nat.ne_of_gt (lt e (by simp))
  have kk:∀ b o,b ∉ [e,it]→s.heap.get? b=some o→h''.get? b=some o:=fun b o hb q=>by
    have c:b≠e∧b≠it:=by simpa using hb
    exact b2.extBut _ _ c.1 (a5 b o c.1 c.2 q)
  obtain⟨hn,I1⟩:=I.pair (x := .int k) (t':=s.toks+1) (h':=h'') ⟨s.toks,rfl⟩ rux (b2.extBut _ _ hzp a3) kk hf lt
  refine⟨.ref s.heap.objs.size,_,I1,rfl,⟨_,x,fun zs hz=>by rw[I.list_inj hz hx];exact ex,hn,rfl,rfl⟩,⟨⟨_,b1⟩,a2.at fun o q=>b2.extBut _ _ (Ne.symm hne) q⟩,fun b hb=>by rw[z0x (Nat.ne_of_lt (lt b hb))];exact(hf b hb).1⟩
 done:=by
  intro X hP hw hK hc k pins s σ H E I hf ⟨⟨old,q1⟩,q2⟩ hg
  subst hP hw hK
  obtain⟨xs,hx,ex⟩:=hg
  obtain⟨its,rx,px,_⟩:=I.list hx
  have l1:=rx.length
  refine wpAny_pyNext_enum_end (I.ok.hd hc) q1 q2 px.isList (by simp;omega) fun h' a5=>⟨rfl,I.turnedL (t':=s.toks) (ch:=[e,it]) (fun b o hb q=>?_) hf⟩
  have c:b≠e∧b≠it:=by simpa using hb
  exact a5 b o c.2 q
 self:=fun _ _ _ _ _ q h=>by obtain⟨⟨old,q1⟩,_⟩:=q;exact wpAny_pyIter_enum q1 h
def Itv(K:PySem.W.Frag)(a:Addr)(n:Nat):It where
 go:=fun i H=>i<n∧∃ xs,SqL K H a xs∧xs.length=n
 yld:=fun i H v H'=>H'=H∧∀ xs,SqL K H a xs→xs[n-1-i]?=some v
 stop:=fun i H=>n≤i
theorem zm1{P:Program}{w:World}{K:PySem.W.Frag}{tg:Expr}{it a:Addr}{n:Nat}:Turn P w K tg (Itv K a n) [it] it (fun k h=>k≤n∧h.IsRevIter it a ((n:Int)-1-(k:Int))) where
 mem:=by simp
 obj:=fun k h ⟨_,q⟩ c hc=>by
  have e:c=it:=by simpa using hc
  subst e
  obtain⟨o,e,_,d⟩:=q;exact⟨o,e,fun v z=>by rw[d]at z;cases z⟩
 keep:=fun k h h' ⟨q0,q⟩ kk=>⟨q0,q.at fun o z=>kk it (by simp) o z⟩
 item:=by
  intro X hP hw hK hc k pins s σ H E I hf ⟨q0,q⟩ hg
  subst hP hw hK
  obtain⟨hk,xs,hx,hn⟩:=hg
  obtain⟨its,rx,px,_⟩:=I.list hx
  have hlt:n-1-k<xs.length:=by omega
  obtain⟨ux,hux,rux⟩:=rx.get (List.getElem?_eq_getElem hlt)
  obtain⟨f0,f1,f2,f3,f4,f5⟩:=hf it (by simp)
  have e1:(n:Int)-1-(k:Int)=((n-1-k:Nat):Int):=by omega
  rw[e1]at q
  refine wpAny_pyNext_rev_item q px.isList (x:=ux) (by simpa using hux) fun h' b1 b2=>?_
  have I1:Inv X pins σ H { s with heap:=h' }:=I.turned (t':=s.toks) (fun b o hb e=>(b2.2 b hb).trans e) f0 f1 f3 f4 f5
  have e2:((n-1-k:Nat):Int)-1=(n:Int)-1-((k+1:Nat):Int):=by omega
  rw[e2]at b1
  obtain⟨o,e,c,d⟩:=id b1
  exact⟨ux,rfl,zjw (s:={ s with heap:=h' }) e c d (by decide) ⟨_,H,I1,rux,⟨rfl,fun ys hy=>by rw[I.list_inj hy hx];exact List.getElem?_eq_getElem hlt⟩,⟨by omega,b1⟩,fun b hb=>(hf b hb).1⟩⟩
 done:=by
  intro X hP hw hK hc k pins s σ H E I hf ⟨q0,q⟩ hg
  subst hP hw hK
  have hg:n≤k:=hg
  obtain rfl:k=n:=by omega
  obtain⟨f0,f1,f2,f3,f4,f5⟩:=hf it (by simp)
  have e1:(k:Int)-1-(k:Int) = -1:=by omega
  rw[e1]at q
  exact wpAny_pyNext_rev_end (I.ok.hd hc) q fun h' eb=>⟨rfl,I.turned (t':=s.toks) (fun b o hb e=>eb b o hb e) f0 f1 f3 f4 f5⟩
 self:=fun _ _ _ _ _ st h=>wpAny_pyIter_revIter st.2 h
section
variable {K:PySem.W.Frag}{H1:Hp}
theorem zpX{A:List Addr}{H:Hp}{p:Addr}{o:HO}(hp:H p=none)(hA:∀ a∈A,∃ o,H a=some o):hidL A (upd H p o)=upd (hidL A H) p o:=funext fun b=>by
 have np:p ∉ A:=fun z=>by obtain⟨u,e⟩:=hA p z;rw[hp]at e;cases e
 by_cases q:b=p
 · subst q;rw[z0r np,z13,z13]
 · rw[z0x q]
   by_cases z:b∈A
   · rw[z2R z,z2R z]
   · rw[z0r z,z0r z,z0x q]
theorem zdF{A:List Addr}{H:Hp}{p:Addr}{d d':Dt}{x y:V}(hp:H p=none)(hA:∀ a∈A,∃ o,H a=some o)(rx:Rp K emp d (hidL A H) x)(ry:Rp K emp d' (hidL A H) y):
  Same (hidL A H) (hidL A (upd H p (.tup [x,y])))∧(∀ a∈A,upd H p (.tup [x,y]) a=H a)∧Rp K emp (.tup [d,d']) (hidL A (upd H p (.tup [x,y]))) (.ref p):=by
 have np:p ∉ A:=fun z=>by obtain⟨u,e⟩:=hA p z;rw[hp]at e;cases e
 have hq:hidL A H p=none:=by rw[z0r np];exact hp
 rw[zpX hp hA]
 refine⟨z1m hq,fun a ha=>z0x fun z=>np (z ▸ ha),Rp.tup_.mpr ⟨p,_,rfl,SqT.of z13,?_⟩⟩
 exact Rps.cons_.mpr ⟨x,[y],rfl,Rp.mono _ (z1m hq) rx,Rps.one (Rp.mono _ (z1m hq) ry)⟩
def zipD:List Dt→List Dt→List Dt
 | x::xs,y::ys => .tup [x,y]::zipD xs ys
 | _,_=>[]
theorem zdG:∀{xs ys:List Dt} {i:Nat} {d:Dt},(zipD xs ys)[i]?=some d→∃ x y,xs[i]?=some x∧ys[i]?=some y∧d = .tup [x,y]
 | [],ys,i,d,h=>by simp[zipD]at h
 | x::xs,[],i,d,h=>by simp[zipD]at h
 | x::xs,y::ys,0,d,h=>by simp[zipD]at h;exact⟨x,y,rfl,rfl,h.symm⟩
 | x::xs,y::ys,i+1,d,h=>by
  have h:(zipD xs ys)[i]?=some d:=by simpa[zipD]using h
  obtain⟨a,b,q1,q2,q3⟩:=zdG h
  exact⟨a,b,by simpa using q1,by simpa using q2,q3⟩
theorem z71:∀{xs ys:List Dt},(zipD xs ys).length=min xs.length ys.length
 | [],ys=>by simp[zipD]
 | x::xs,[]=>by simp[zipD]
 | x::xs,y::ys=>by rw[zipD,List.length_cons,z71,List.length_cons,List.length_cons];omega
theorem zm2{ta tb:Bool}{a b:Addr}{ds es:List Dt}{vs ws:List V}(h1:SqV K ta H1 a vs)(h2:SqV K tb H1 b ws)(r1:Rps K emp ds H1 vs)(r2:Rps K emp es H1 ws)(hl:ds.length=es.length):Walk K (Itz K ta tb a b) (zipD ds es) H1:=by
 intro A H sm hA
 have s2:Same H1 H:=sm.trans z0O
 refine⟨fun i d e=>?_,fun i hi=>⟨vs,ws,h1.mono s2,h2.mono s2,?_,?_⟩⟩
 · obtain⟨x,y,ex,ey,rfl⟩:=zdG e
   obtain⟨v,e1,p1⟩:=r1.get ex
   obtain⟨u,e2,p2⟩:=r2.get ey
   refine⟨⟨vs,ws,v,u,h1.mono s2,h2.mono s2,e1,e2⟩,?_⟩
   rintro z H' ⟨p,v',u',f1,f2,hp,ez,eH⟩
   have g1:=f1 vs (h1.mono s2)
   have g2:=f2 ws (h2.mono s2)
   rw[e1]at g1
   rw[e2]at g2
   cases g1;cases g2
   subst ez;subst eH
   exact zdF hp hA (Rp.mono _ sm p1) (Rp.mono _ sm p2)
 · rw[z71]at hi;rw[r1.length];omega
 · rw[z71]at hi;rw[r2.length];omega
def z3a:Nat→List Dt→List Dt
 | _,[]=>[]
 | n,x::xs => .tup [.int n,x]::z3a (n+1) xs
theorem zbq:∀{xs:List Dt} {n i:Nat} {d:Dt},(z3a n xs)[i]?=some d→∃ x,xs[i]?=some x∧d = .tup [.int ((n+i:Nat):Int),x]
 | [],n,i,d,h=>by simp[z3a]at h
 | x::xs,n,0,d,h=>by simp[z3a]at h;exact⟨x,rfl,h.symm⟩
 | x::xs,n,i+1,d,h=>by
  have h:(z3a (n+1) xs)[i]?=some d:=by simpa[z3a]using h
  obtain⟨a,q1,q3⟩:=zbq h
  exact⟨a,by simpa using q1,by rw[q3,show n+1+i=n+(i+1) by omega]⟩
theorem z7P:∀{xs:List Dt} {n:Nat},(z3a n xs).length=xs.length
 | [],n=>rfl
 | x::xs,n=>by rw[z3a,List.length_cons,List.length_cons,z7P]
theorem zkM{a:Addr}{ds:List Dt}{vs:List V}(h1:SqL K H1 a vs)(r1:Rps K emp ds H1 vs):Walk K (Ite K a) (z3a 0 ds) H1:=by
 intro A H sm hA
 have s2:Same H1 H:=sm.trans z0O
 refine⟨fun i d e=>?_,fun i hi=>⟨vs,s2.seq h1,?_⟩⟩
 · obtain⟨x,ex,rfl⟩:=zbq e
   rw[Nat.zero_add]
   obtain⟨v,e1,p1⟩:=r1.get ex
   refine⟨⟨vs,v,s2.seq h1,e1⟩,?_⟩
   rintro z H' ⟨p,v',f1,hp,ez,eH⟩
   have g1:=f1 vs (s2.seq h1)
   rw[e1]at g1
   cases g1
   subst ez;subst eH
   exact zdF hp hA (Rp.int_.mpr rfl) (Rp.mono _ sm p1)
 · rw[z7P]at hi;rw[r1.length];omega
theorem zm3{a:Addr}{ds:List Dt}{vs:List V}(h1:SqL K H1 a vs)(r1:Rps K emp ds H1 vs):Walk K (Itv K a vs.length) ds.reverse H1:=by
 intro A H sm hA
 have s2:Same H1 H:=sm.trans z0O
 have hl:=r1.length
 refine⟨fun i d e=>?_,fun i hi=>?_⟩
 · have hi:i<ds.length:=by
    by_cases hi:i<ds.length
    · exact hi
    · rw[List.getElem?_eq_none (by simp;omega)]at e;cases e
   rw[List.getElem?_reverse hi]at e
   obtain⟨v,e1,p1⟩:=r1.get e
   refine⟨⟨by omega,vs,s2.seq h1,rfl⟩,?_⟩
   rintro z H' ⟨eH,f1⟩
   subst eH
   have g1:=f1 vs (s2.seq h1)
   rw[hl,e1]at g1
   cases g1
   exact⟨Same.refl _,fun _ _=>rfl,Rp.mono _ sm p1⟩
 · show vs.length≤i
   rw[List.length_reverse]at hi;omega
end
section
variable {X:Cx}{a b e:Expr}{Fa Fb:FE}{elts:List Expr}{n:Nat}{tpos pos:Pos}
theorem zkN{M:Model}{A:Around}{E:Value→Shared→Prop}{s:Shared}{env:Env}{T:String}{es:List Expr}{kws:List Keyword}{Q:Value→Shared→Prop}
  (h:wpAny M A (spliced (backTo pos (starEach (e::es) env))) (fun vs s1=>wpAny M A (evalAll ((backToKw pos (keywordEach kws env)).map (·.2))) (fun ks s2=>wpAny M A (call (.type T) vs (((backToKw pos (keywordEach kws env)).filterMap (·.1)).zip ks)) Q E s2) E s1) E s)
  (h1:backTo pos (starEach (e::es) env)=(false,eval e env)::backTo pos (starEach es env)) (h2:(backTo pos (starEach (e::es) env)).any (·.1)=false) (h3:(backToKw pos (keywordEach kws env)).all (·.1.isSome)=true) (h4:(backToKw pos (keywordEach kws env)).any (·.1.isNone)=false) :
  wpAny M A (callWith pos (.type T) [] (backTo pos (starEach (e::es) env)) (backToKw pos (keywordEach kws env))) Q E s:=by
 unfold callWith
 have g:wpAny M A (evalArgs (.type T) true (backTo pos (starEach (e::es) env)) (backToKw pos (keywordEach kws env))) (fun z s1=>wpAny M A (call (.type T) ([]++z.pos) z.kw) Q E s1) E s:=by
  rw[h1]at h ⊢
  exact evalArgs_kwB h3 h
 refine wpAny_bind (wpAny_holding (wpAny_mono g (fun z s1 g1=>wpAny_bind (wpAny_standAt ?_)) fun _ _ x=>x))
 simp only[h2,h4,Bool.or_false]
 refine wpAny_bind (wpAny_pure ?_)
 exact wpAny_bind (wpAny_mono g1 (fun r s2 hr=>wpAny_bind (wpAny_holding (wpAny_point (wpAny_pure hr)))) fun _ _ x=>x)
theorem zm4{H:Hp}{d:Dt}{ds:List Dt}{v:V}(e:seqD d=some ds)(r:Rp X.K emp d H v):∃ tu p vs,v = .ref p∧SqV X.K tu H p vs∧Rps X.K emp ds H vs:=by
 cases d<;>first|cases e|skip
 · obtain⟨p,vs,rfl,_,h1,h2⟩:=r.items
   exact⟨false,p,vs,rfl,SqL.of h1,h2⟩
 · obtain⟨p,vs,rfl,h1,h2⟩:=Rp.tup_.mp r
   exact⟨true,p,vs,rfl,h1,h2⟩
def iZip(F G:FE):FI:=fun ρ=>(F ρ).bind fun x=>(G ρ).bind fun y=>(seqD x.2).bind fun xs=>(seqD y.2).bind fun ys=>if xs.length=ys.length then some (zipD xs ys) else none
theorem zjM{p kp kpos:Pos}{jc:Nat}(hg:Gl X "zip")(hm:X.mg "zip" = none)(ha:PF X a Fa)(hb:PF X b Fb)(hs:starEach [a,b] X.env=[(false,eval a X.env),(false,eval b X.env)]:=by rfl)(hs1:starEach [b] X.env=[(false,eval b X.env)]:=by rfl):
   PFI X (.Tuple elts n tpos) (.Call (.Name "zip" p) [a,b] [⟨some "strict",.Constant (.bool true) jc kp,kpos⟩] pos) (iZip Fa Fb):=by
 intro pins s σ H R I ⟨ρ,items,rs,e0,k⟩
 obtain⟨⟨fa,da⟩,ea,e1⟩:=z05 e0
 obtain⟨⟨fb,db⟩,eb,e2⟩:=z05 e1
 obtain⟨xs,ex,e3⟩:=z05 e2
 obtain⟨ys,ey,e4⟩:=z05 e3
 clear e0 e1 e2 e3
 split at e4
 · rename_i hl
   cases e4
   have hA:PA X [a,b] (upAs X (z01 Fa (z01 Fb fNil))):=z03 ha (z03 hb z07 hs1) (by rw[hs,hs1])
   refine wpAny_Call_Name_kw (z4x I hg hm (by decide +kernel:bootBuiltins "zip" = some (.type "zip")) ?_)
   refine zkN (T := "zip") (thn (hA pos pins s σ H (fun vs H1=>Same H H1∧∃ va vb,vs=[va,vb]∧Rp X.K emp da H1 va∧Rp X.K emp db H1 vb) I ⟨ρ,[(fa,da),(fb,db)],rs,by simp[z01,fNil,ea,eb],fun vs H1 s1 ⟨va,r1,ee1,q1,vb,r2,ee2,q2,q3⟩=>⟨s1,va,vb,by rw[ee1,ee2,show r2=[]from q3],q1.sh,q2.sh⟩⟩) fun us s1 ⟨vs,H1,I1,rv,s1H,va,vb,ev,ra,rb⟩=>?_) (by rw[hs,hs1];rfl) (by rw[hs];rfl) rfl rfl
   subst ev
   obtain⟨ua,ub,rfl,rua,rub⟩:=rv.two
   obtain⟨ta,pa,vsa,rfl,qa1,qa2⟩:=zm4 ex ra
   obtain⟨tb,pb,vsb,rfl,qb1,qb2⟩:=zm4 ey rb
   cases rua;cases rub
   have hk:=zjy (X:=X) (nm:=some "strict") (kpos:=kpos) (pe_bl (X:=X) (b:=true) (j:=jc) (pos:=kp)) zlB
   refine thn (hk pos pins s1 σ H1 (fun zs H2=>zs=[.bl true]∧H2=H1) I1 ⟨rfl,rfl⟩) ?_
   rintro ks s2 ⟨zs,H2,I2,rz,ez,eH⟩
   subst ez;subst eH
   obtain⟨uk,rfl,ruk⟩:=rz.one
   cases ruk
   obtain⟨ita,rva,sa,hza⟩:=I2.sq qa1
   obtain⟨itb,rvb,sb,hzb⟩:=I2.sq qb1
   refine zm sa sb ?_
   have z1:(h1 s2.heap ta pa).objs.size=s2.heap.objs.size+1:=Heap.size_push ..
   have z2:(h2 s2.heap ta tb pa pb).objs.size=s2.heap.objs.size+2:=by rw[Heap.size_push,z1]
   have z3:(h3 s2.heap ta tb pa pb).objs.size=s2.heap.objs.size+3:=by rw[Heap.size_push,z2]
   have z4:(h4 s2.heap ta tb pa pb).objs.size=s2.heap.objs.size+4:=by rw[Heap.size_push,z3]
   have g5:(h5 s2.heap ta tb pa pb).get? (h4 s2.heap ta tb pa pb).objs.size=some _:=Heap.get?_push_size _ rfl
   have g4:(h5 s2.heap ta tb pa pb).get? (h3 s2.heap ta tb pa pb).objs.size=some _:=Heap.get?_push_of_some _ (Heap.get?_push_size _ rfl)
   have g3:(h5 s2.heap ta tb pa pb).get? (h2 s2.heap ta tb pa pb).objs.size=some _:=Heap.get?_push_of_some _ (Heap.get?_push_of_some _ (Heap.get?_push_size _ rfl))
   have g2:(h5 s2.heap ta tb pa pb).get? (h1 s2.heap ta pa).objs.size=some _:=Heap.get?_push_of_some _ (Heap.get?_push_of_some _ (Heap.get?_push_of_some _ (Heap.get?_push_size _ rfl)))
   have g1:(h5 s2.heap ta tb pa pb).get? s2.heap.objs.size=some _:=Heap.get?_push_of_some _ (Heap.get?_push_of_some _ (Heap.get?_push_of_some _ (Heap.get?_push_of_some _ (Heap.get?_push_size _ rfl))))
   have up:∀ c o,s2.heap.get? c=some o→(h5 s2.heap ta tb pa pb).get? c=some o:=fun c o x=>Heap.get?_push_of_some _ (Heap.get?_push_of_some _ (Heap.get?_push_of_some _ (Heap.get?_push_of_some _ (Heap.get?_push_of_some _ x))))
   refine zdB (z:=(h4 s2.heap ta tb pa pb).objs.size) (ti:=(h2 s2.heap ta tb pa pb).objs.size) (to:=(h3 s2.heap ta tb pa pb).objs.size) (f := .none) g5 ?_
   have la:=sa.lt
   have lb:=sb.lt
   have D:Apart (h4 s2.heap ta tb pa pb).objs.size (h2 s2.heap ta tb pa pb).objs.size (h3 s2.heap ta tb pa pb).objs.size s2.heap.objs.size (h1 s2.heap ta pa).objs.size pa pb:=by
     rw[z1,z2,z3,z4]
     constructor<;>exact fun z=>by simp only[Addr]at *;omega
   refine⟨_,[(h4 s2.heap ta tb pa pb).objs.size,(h2 s2.heap ta tb pa pb).objs.size,(h3 s2.heap ta tb pa pb).objs.size,s2.heap.objs.size,(h1 s2.heap ta pa).objs.size],_,_,H2,rfl,I2.kept (t':=s2.toks) up,zm0 (ta:=ta) (tb:=tb) D,⟨g5,g3,⟨_,_,g4⟩,zdE g1,zdE g2⟩,fun c hc=>?_,k _ H2 s1H ?_ (zm2 qa1 qb1 qa2 qb2 hl)⟩
   · have hge:s2.heap.objs.size≤c:=by
      rw[z1,z2,z3,z4]at hc
      simp only[List.mem_cons,List.not_mem_nil,or_false]at hc
      rcases hc with rfl|rfl|rfl|rfl|rfl<;>omega
     exact I2.fpOk hge (I2.hok.fresh hge)
   · rw[z71,←qa2.length];omega
 · cases e4
def lstD:Dt→Option (List Dt)
 | .lst ds=>some ds
 | _=>none
def z3s(F:FE):FI:=fun ρ=>(F ρ).bind fun x=>(lstD x.2).map (z3a 0)
theorem zm5{H:Hp}{d:Dt}{ds:List Dt}{v:V}(e:lstD d=some ds)(r:Rp X.K emp d H v):∃ p vs,v = .ref p∧SqL X.K H p vs∧Rps X.K emp ds H vs:=by
 cases d<;>first|cases e|skip
 obtain⟨p,vs,rfl,_,h1,h2⟩:=r.items
 exact⟨p,vs,rfl,SqL.of h1,h2⟩
theorem z9J{p:Pos}(hg:Gl X "enumerate")(hm:X.mg "enumerate" = none)(ha:PF X a Fa)(hs:starEach [a] X.env=[(false,eval a X.env)]:=by rfl):PFI X (.Tuple elts n tpos) (.Call (.Name "enumerate" p) [a] [] pos) (z3s Fa):=by
 intro pins s σ H R I ⟨ρ,items,rs,e0,k⟩
 obtain⟨⟨fa,da⟩,ea,e1⟩:=z05 e0
 cases ex:lstD da with
 | none=>rw[ex]at e1;cases e1
 | some xs =>
  rw[ex]at e1
  cases e1
  have hA:PA X [a] (upAs X (z01 Fa fNil)):=z03 ha z07 hs
  refine wpAny_Call_Name_kw (z4x I hg hm (by decide +kernel:bootBuiltins "enumerate" = some (.type "enumerate")) ?_)
  refine PyProof.Rows.callWith_type1 (thn (hA pos pins s σ H (fun vs H1=>Same H H1∧∃ va,vs=[va]∧Rp X.K emp da H1 va) I ⟨ρ,[(fa,da)],rs,by simp[z01,fNil,ea],fun vs H1 s1 ⟨va,r1,ee1,q1,q3⟩=>⟨s1,va,by rw[ee1,show r1=[]from q3],q1.sh⟩⟩) fun us s1 ⟨vs,H1,I1,rv,s1H,va,ev,ra⟩=>?_) hs rfl
  subst ev
  obtain⟨ua,rfl,rua⟩:=rv.one
  obtain⟨pa,vsa,rfl,qa1,qa2⟩:=zm5 ex ra
  cases rua
  obtain⟨ita,rva,pl,hza⟩:=I1.list qa1
  refine call_enumerate_list pl.isList fun h' b1 b2 b3 b4=>wpAny_pyIter_enum b1 ?_
  refine⟨_,[s1.heap.objs.size+1,s1.heap.objs.size],_,_,H1,rfl,I1.kept (t':=s1.toks) b4,zkL (Nat.succ_ne_self _),⟨⟨_,b1⟩,b2⟩,fun c hc=>?_,k _ H1 s1H ?_ (zkM qa1 qa2)⟩
  · have hge:s1.heap.objs.size≤c:=by
     simp only[List.mem_cons,List.not_mem_nil,or_false]at hc
     rcases hc with rfl|rfl
     · exact Nat.le_succ _
     · exact Nat.le_refl _
    exact I1.fpOk hge (I1.hok.fresh hge)
  · rw[z7P,←qa2.length];exact hza
def iRev(F:FE):FI:=fun ρ=>(F ρ).bind fun x=>(lstD x.2).map List.reverse
theorem i_rev{tg:Expr}{p:Pos}(hg:Gl X "reversed")(hm:X.mg "reversed" = none)(ha:PF X a Fa)(hs:starEach [a] X.env=[(false,eval a X.env)]:=by rfl):PFI X tg (.Call (.Name "reversed" p) [a] [] pos) (iRev Fa):=by
 intro pins s σ H R I ⟨ρ,items,rs,e0,k⟩
 obtain⟨⟨fa,da⟩,ea,e1⟩:=z05 e0
 cases ex:lstD da with
 | none=>rw[ex]at e1;cases e1
 | some xs =>
  rw[ex]at e1
  cases e1
  have hA:PA X [a] (upAs X (z01 Fa fNil)):=z03 ha z07 hs
  refine wpAny_Call_Name_kw (z4x I hg hm (by decide +kernel:bootBuiltins "reversed" = some (.type "reversed")) ?_)
  refine PyProof.Rows.callWith_type1 (thn (hA pos pins s σ H (fun vs H1=>Same H H1∧∃ va,vs=[va]∧Rp X.K emp da H1 va) I ⟨ρ,[(fa,da)],rs,by simp[z01,fNil,ea],fun vs H1 s1 ⟨va,r1,ee1,q1,q3⟩=>⟨s1,va,by rw[ee1,show r1=[]from q3],q1.sh⟩⟩) fun us s1 ⟨vs,H1,I1,rv,s1H,va,ev,ra⟩=>?_) hs rfl
  subst ev
  obtain⟨ua,rfl,rua⟩:=rv.one
  obtain⟨pa,vsa,rfl,qa1,qa2⟩:=zm5 ex ra
  cases rua
  obtain⟨ita,rva,pl,hza⟩:=I1.list qa1
  have hn:ita.toArray.size=vsa.length:=by rw[List.size_toArray,←rva.length]
  refine call_reversed_list pl.isList ?_
  rw[hn]
  have g1:(s1.heap.push (revObj pa ((vsa.length:Int)-1))).get? s1.heap.objs.size=some _:=Heap.get?_push_size _ rfl
  have it1:(s1.heap.push (revObj pa ((vsa.length:Int)-1))).IsRevIter s1.heap.objs.size pa ((vsa.length:Int)-1-((0:Nat):Int)):=⟨_,g1,rfl,by show Data.fields _=_;simp⟩
  refine wpAny_pyIter_revIter it1 ?_
  refine⟨_,[s1.heap.objs.size],_,_,H1,rfl,I1.kept (t':=s1.toks) (fun c o x=>Heap.get?_push_of_some _ x),zm1 (n:=vsa.length),⟨Nat.zero_le _,it1⟩,fun c hc=>?_,k _ H1 s1H ?_ (zm3 qa1 qa2)⟩
  · rw[List.mem_singleton.mp hc]
    exact I1.fpOk (Nat.le_refl _) (I1.hok.fresh (Nat.le_refl _))
  · rw[List.length_reverse,←qa2.length];exact hza
end
end L2

end
section
set_option Elab.async false
set_option linter.all false
set_option maxRecDepth 100000
set_option maxHeartbeats 1000000
namespace L2
open PySem PySem.Spec PyProof.Rows
section
variable {X:Cx}
def zm6:V→List V→Hp→VK→Prop:=fun x vs H Q=>∃ l xs y,x = .ref l∧vs=[.int 0,y]∧H l=some (.lst xs)∧xs.length<sizeLine∧Q .non (upd H l (.lst (y::xs)))
theorem zf6:MtM X "list.insert" zm6:=by
 intro pins s σ H x vs v us Q I rx rv h
 obtain⟨l,xs,y,rfl,rfl,hH,hz,q⟩:=h
 cases rx
 obtain⟨u0,u,rfl,ru0,ru⟩:=rv.two
 obtain⟨t0,rfl⟩:=ru0
 obtain⟨z,its,n,r,hl,e⟩:=I.lstM hH
 refine call_meets F.slot_list_insert ⟨_,e,rfl⟩ F.entry_list_insert (F.args_list_insert_3 _ _ _) (AutoSeq1.list_insert_list_int_val_1 l its.toArray n 0 t0 u (by decide) (by rw[List.size_toArray];omega)) ⟨e,?_⟩
 refine⟨.non,_,I.lset (its':=u::its) hH e ?_ (.cons ru r) ?_,rfl,q⟩
 · simp
 · rw[List.length_cons];omega
theorem zjN{Y:Ky}{f g:Bool}:Same (bsOf Y (f&&g)) (bsOf Y f):=by
 cases f<;>cases g<;>first|exact Same.refl _|exact Same.emp
theorem zjO{Y:Ky}{f g:Bool}:Same (bsOf Y (f&&g)) (bsOf Y g):=by
 cases f<;>cases g<;>first|exact Same.refl _|exact Same.emp
section
variable {H₀ H H':Hp}{O:Own}{ρ:Rho}{σ:St}{i:Nat}{f:Bool}{ds:List Dt}
theorem RepO.get(h:RepO X H₀ H O ρ σ)(e:ρ[i]?=some (.ow f ds)):∃ a vs,(i,a)∈O∧σ[i]?=some (some (.ref a))∧H a=some (.lst vs)∧Rps X.K (bsOf X.ky f) ds (hidL O.adr H) vs:=by
 obtain⟨o,e1,a,vs,q1,q2,q3,q4⟩:=h.at_ i _ e
 subst q2
 exact⟨a,vs,q1,e1,q3,q4⟩
theorem zdH{x:Dv}{v:V}(rb:RepO X H₀ H O ρ σ)(r:RpF X.ky (hidL O.adr H) x.1 x.2 H' v):Rp X.K (bsOf X.ky x.1.isFr) x.2 H' v:=by
 by_cases q:x.1.isFr=true
 · rw[q];exact r.fr (rb.b0.trans rb.same) q
 · rw[show x.1.isFr=false by simpa using q];exact r.sh
theorem zpY{x:Dv}{v:V}(rb:RepO X H₀ H O ρ σ)(sm:Same H H')(q:x.1.isNw=true)(r:RpF X.ky H x.1 x.2 H' v):Rp X.K (bsOf X.ky true) x.2 (hidL O.adr H') v :=
 Rp.anti rb.below _ (zlW rb.own sm q r)
end
abbrev FW:=List Dt→Dt→Option (List Dt)
def z72(ρ:Rho)(i:Nat):Option (Bool×List Dt):=match ρ[i]? with|some (.ow f ds)=>some (f,ds)|_=>none
theorem z7Q{ρ:Rho}{i:Nat}{f:Bool}{ds:List Dt}(h:z72 ρ i=some (f,ds)):ρ[i]?=some (.ow f ds):=by
 unfold z72 at h
 split at h
 · rename_i e;cases h;exact e
 · cases h
def sWr(w:FW)(i:Nat)(F:FE):FS:=fun ρ=>(z72 ρ i).bind fun o=>(F (z1H ρ)).bind fun x=>(w o.2 x.2).map fun ds => .nx (ρ.set i (.ow (o.1&&x.1.isFr) ds))
def sWrA(w:FW)(i:Nat)(F:FE):FS:=fun ρ=>(z72 ρ i).bind fun o=>(F ρ).bind fun x=>if x.1.isNw then(w o.2 x.2).map fun ds => .nx (ρ.set i (.ow o.1 ds)) else none
def wApp:FW:=fun ds d=>if ds.length<1000000 then some (ds++[d]) else none
def z9K:FW:=fun ds d=>if ds.length<1000000 then some (d::ds) else none
def MtW(X:Cx)(id:String)(pre:List V)(w:FW):Prop:=∀(H:Hp) (B:Hp) (Hh:Hp) (l:Addr) (vs:List V) (y:V) (ds:List Dt) (d:Dt) (ds':List Dt) (Q:VK),H l=some (.lst vs)→Same Hh H→Rps X.K B ds Hh vs→Rp X.K B d Hh y→w ds d=some ds' →
 (∀ vs',Rps X.K B ds' Hh vs'→Q .non (upd H l (.lst vs')))→∃ r,MtM X id r∧r (.ref l) (pre++[y]) H Q
theorem mw_app:MtW X "list.append" [] wApp:=fun H B Hh l vs y ds d ds' Q hl sm rs r e k=>by
 unfold wApp at e
 split at e
 · rename_i h
   cases e
   exact⟨_,zbg,l,vs,y,rfl,rfl,hl,by rw[rs.length];exact Nat.lt_trans h (by decide),k _ (rs.append (Rps.one r))⟩
 · cases e
theorem zpZ:MtW X "list.insert" [.int 0] z9K:=fun H B Hh l vs y ds d ds' Q hl sm rs r e k=>by
 unfold z9K at e
 split at e
 · rename_i h
   cases e
   exact⟨_,zf6,l,vs,y,rfl,rfl,hl,by rw[rs.length];exact Nat.lt_trans h (by decide),k _ (Rps.cons_.mpr ⟨y,vs,rfl,r,rs⟩)⟩
 · cases e
section
variable {id:String}{w:FW}{x:Str}{name:Str}{e:Expr}{Fe:FE}{i:Nat}{px apos cpos pos:Pos}{pre:List V}
theorem s_wr1(hw:MtW X id [] w)(slot:Slot "list" name id)(hty:typeOf (.builtin id)=pure (.type "method_descriptor"))(hN:X.N[i]?=some x)(hv:Vis X.env.scope x)(he:PF X e Fe)(hd:(x==("__debug__" : Str))=false:=by decide)(hcd:(x==("__classdict__" : Str))=false:=by decide)
  (hbase:attributeBase (.Name x px) name X.env (eval (.Name x px) X.env)=eval (.Name x px) X.env:=by rfl)
  (hfew:((backTo cpos (starEach [e] X.env)).all (fun x=>!x.1)&&(backToKw cpos (keywordEach [] X.env)).all (fun x=>x.1.isSome)&&decide ([e].length+([]:List Keyword).length+(if([]:List Keyword).isEmpty then 0 else 1)<30))=true:=by rfl)
  (hline:(apos.endLine==cpos.line)=true:=by rfl) (hs:starEach [e] X.env=[(false,eval e X.env)]:=by rfl) (hsw:swapsWith (.Call (.Attribute (.Name x px) name apos) [e] [] cpos) none pos.line X.env=pure false:=by rfl) :
  PFS X (.Expr (.Call (.Attribute (.Name x px) name apos) [e] [] cpos) pos) (sWr w i Fe):=by
 intro pins s σ H D I ⟨H₀,ρ,oc,⟨O,rb⟩,e0,k⟩
 obtain⟨⟨f,ds⟩,e1,e2⟩:=z05 e0
 obtain⟨z,e3,e4⟩:=z05 e2
 cases hw':w ds z.2 with
 | none=>rw[hw']at e4;cases e4
 | some ds' =>
  rw[hw']at e4
  cases e4
  obtain⟨a,vs,q1,q2,q3,q4⟩:=rb.get (z7Q e1)
  have hm:MtM X id (fun o us H' Q=>∃ y,o = .ref a∧us=[y]∧Same (hidL O.adr H) (hidL O.adr H')∧H' a=some (.lst vs)∧Rp X.K (bsOf X.ky z.1.isFr) z.2 (hidL O.adr H') y∧∀ vs',Rps X.K (bsOf X.ky (f&&z.1.isFr)) ds' (hidL O.adr H') vs'→Q .non (upd H' a (.lst vs'))):=by
   intro pins s σ H' o us v vs2 Q I ro ru ⟨y,eo,eu,sm,ha,ry,kk⟩
   subst eo;subst eu
   obtain⟨r,hr,hq⟩:=hw H' (bsOf X.ky (f&&z.1.isFr)) (hidL O.adr H') a vs y ds z.2 ds' Q ha z0O (Rps.anti zjN _ (Rps.mono _ sm q4)) (Rp.anti zjO _ ry) hw' kk
   exact hr pins s σ H' _ _ v vs2 Q I ro ru hq
  refine zcA (pe_bm F.plainAttrs_list slot hty hm (zcz hN hv hd hcd) (PA.frame (z03 he z07 hs)) hbase hfew hline hs rfl) hsw pins s σ H D I ⟨.ref a,q2,.inl ⟨rfl,vs,SqL.of q3⟩,O.adr,rb.own,z1H ρ,[z],rb.rest,by simp[z01,fNil,e3],?_⟩
  rintro us H' sm ⟨y,r,eu,ry,er⟩ hn
  have er:r=[]:=er
  subst er;subst eu
  have hg:hidL O.adr (z1l O.adr H H')=H':=z3n hn
  refine⟨y,rfl,rfl,by rw[hg];exact sm,by rw[z5L (z4I q1)];exact q3,by rw[hg];exact zdH rb ry,fun vs' rs'=>k _ _ ⟨O,?_⟩⟩
  exact(rb.mono (Same.glue sm hn)).upd (z7Q e1) q1 rs'
theorem s_insA{j0:Nat}{p0:Pos}(hN:X.N[i]?=some x)(hv:Vis X.env.scope x)(he:PF X e Fe)(hd:(x==("__debug__" : Str))=false:=by decide)(hcd:(x==("__classdict__" : Str))=false:=by decide)
   (hbase:attributeBase (.Name x px) "insert" X.env (eval (.Name x px) X.env)=eval (.Name x px) X.env:=by rfl)
   (hfew:((backTo cpos (starEach [.Constant (.int 0) j0 p0,e] X.env)).all (fun x=>!x.1)&&(backToKw cpos (keywordEach [] X.env)).all (fun x=>x.1.isSome)&&decide ([Expr.Constant (.int 0) j0 p0,e].length+([]:List Keyword).length+(if([]:List Keyword).isEmpty then 0 else 1)<30))=true:=by rfl)
   (hline:(apos.endLine==cpos.line)=true:=by rfl) (hs:starEach [e] X.env=[(false,eval e X.env)]:=by rfl) (hs2:starEach [.Constant (.int 0) j0 p0,e] X.env=(false,eval (.Constant (.int 0) j0 p0) X.env)::starEach [e] X.env:=by rfl)
   (hsw:swapsWith (.Call (.Attribute (.Name x px) "insert" apos) [.Constant (.int 0) j0 p0,e] [] cpos) none pos.line X.env=pure false:=by rfl) :
   PFS X (.Expr (.Call (.Attribute (.Name x px) "insert" apos) [.Constant (.int 0) j0 p0,e] [] cpos) pos) (sWrA z9K i Fe):=by
 intro pins s σ H D I ⟨H₀,ρ,oc,⟨O,rb⟩,e0,k⟩
 obtain⟨⟨f,ds⟩,e1,e2⟩:=z05 e0
 obtain⟨z,e3,e5⟩:=z05 e2
 split at e5
 · rename_i qn
   cases hw':z9K ds z.2 with
   | none=>rw[hw']at e5;cases e5
   | some ds' =>
    rw[hw']at e5
    cases e5
    obtain⟨a,vs,q1,q2,q3,q4⟩:=rb.get (z7Q e1)
    have hm:MtM X "list.insert" (fun o us H' Q=>∃ y,o = .ref a∧us=[.int 0,y]∧Same H H'∧RpF X.ky H z.1 z.2 H' y∧∀ vs',Rps X.K (bsOf X.ky f) ds' (hidL O.adr H') vs'→Q .non (upd H' a (.lst vs'))):=by
     intro pins s σ H' o us v vs2 Q I ro ru ⟨y,eo,eu,sm,ry,kk⟩
     subst eo;subst eu
     have r1:=zpY rb sm qn ry
     obtain⟨r,hr,hq⟩:=zpZ (X:=X) H' (bsOf X.ky f) (hidL O.adr H') a vs y ds z.2 ds' Q (sm _ _ q3) z0O (Rps.mono _ (z29 sm) q4) (Rp.anti (by cases f<;>first|exact Same.refl _|exact Same.emp) _ r1) hw' kk
     exact hr pins s σ H' _ _ v vs2 Q I ro ru hq
    refine zcA (pe_bm F.plainAttrs_list F.slot_list_insert F.type_list_insert hm (zcz hN hv hd hcd) (z03 (z09 (X:=X)) (z03 he z07 hs) hs2) hbase hfew hline hs2 (by rw[hs];rfl)) hsw pins s σ H D I ⟨.ref a,q2,.inl ⟨rfl,vs,SqL.of q3⟩,ρ,[(.nw,.int 0),z],rb.all,by simp[z01,fNil,fC,e3],?_⟩
    rintro us H' sm ⟨y0,r0,eu0,ry0,y,r,eu,ry,er⟩
    have er:r=[]:=er
    subst er;subst eu;subst eu0
    have e00:y0 = .int 0:=Rp.int_.mp ry0.sh
    subst e00
    exact⟨y,rfl,rfl,sm,ry,fun vs' rs'=>k _ _ ⟨O,(rb.mono sm).upd (z7Q e1) q1 rs'⟩⟩
 · cases e5
end
def setD(ds:List Dt)(j:Int)(d:Dt):Option (List Dt):=(ixN ds.length j).map fun k=>ds.set k d
def sPut(i:Nat)(Fj Fe:FE):FS:=fun ρ=>(z72 ρ i).bind fun o=>(Fe (z1H ρ)).bind fun x=>(Fj ρ).bind fun j=>(intD j.2).bind fun n=>(setD o.2 n x.2).map fun ds => .nx (ρ.set i (.ow (o.1&&x.1.isFr) ds))
section
variable {x:Str}{e j:Expr}{Fe Fj:FE}{i:Nat}{px spos pos:Pos}
theorem zm7(hN:X.N[i]?=some x)(hv:Vis X.env.scope x)(hj:PF X j Fj)(he:PF X e Fe)(hd:(x==("__debug__" : Str))=false:=by decide)(hcd:(x==("__classdict__" : Str))=false:=by decide)
  (ha:∀ v,assign (.Subscript (.Name x px) j spos) X.env v=(do
   let ov ←holding [v] (eval (.Name x px) X.env)
   let iv ←holding [v,ov] (eval j X.env)
   standAt spos
   holding [v,ov,iv] (setItem ov iv v)
   release [v,ov,iv] []):=by intro _;rfl)
  (hs:swapsWithSole [.Subscript (.Name x px) j spos] e pos.line X.env=pure false:=by rfl) (hw:swappedStores [.Subscript (.Name x px) j spos] e X.env=pure none:=by rfl)
  (h1:(assignEach [.Subscript (.Name x px) j spos] X.env).map (·.2)=[assign (.Subscript (.Name x px) j spos) X.env]:=by rfl) :
  PFS X (.Assign [.Subscript (.Name x px) j spos] e pos) (sPut i Fj Fe):=by
 intro pins s σ H D I ⟨H₀,ρ,oc,⟨O,rb⟩,e0,k⟩
 obtain⟨⟨f,ds⟩,e1,e2⟩:=z05 e0
 obtain⟨z,e3,e4⟩:=z05 e2
 obtain⟨⟨fj,dj⟩,e5,e6⟩:=z05 e4
 obtain⟨n,e7,e8⟩:=z05 e6
 obtain⟨a,vs,q1,q2,q3,q4⟩:=rb.get (z7Q e1)
 unfold setD at e8
 cases hx:ixN ds.length n with
 | none=>rw[hx]at e8;cases e8
 | some m =>
  rw[hx]at e8
  cases e8
  refine ps_asg (PE.frame he) (pg_sub (zcz hN hv hd hcd) hj zlD ha) hs hw h1 pins s σ H D I ⟨O.adr,rb.own,z1H ρ,z.1,z.2,rb.rest,e3,fun v H' sm r hn=>?_⟩
  have hg:hidL O.adr (z1l O.adr H H')=H':=z3n hn
  have rb2:=rb.mono (Same.glue sm hn)
  refine⟨.ref a,q2,ρ,fj,dj,rb2.all,e5,fun v2 H2 s2 r2=>?_⟩
  have ed:=z5O e7
  have ed:dj = .int n:=ed
  subst ed
  have rv:Rp X.K (bsOf X.ky z.1.isFr) z.2 (hidL O.adr H2) v:=Rp.mono _ (by rw[←hg];exact z29 s2) (zdH rb r)
  have ha2:H2 a=some (.lst vs):=s2 _ _ (by rw[z5L (z4I q1)];exact q3)
  refine⟨a,vs,n,m,rfl,Rp.int_.mp r2.sh,ha2,by rw[q4.length];exact hx,k _ _ ⟨O,(rb2.mono s2).upd (z7Q e1) q1 ?_⟩⟩
  exact Rps.set m (Rps.anti zjN _ (Rps.mono _ (z29 ((Same.glue sm hn).trans s2)) q4)) (Rp.anti zjO _ rv)
end
end
end L2

end
section
set_option Elab.async false
set_option linter.all false
set_option maxRecDepth 100000
set_option maxHeartbeats 1000000
namespace L2
open PySem PySem.Spec PyProof.Rows
def upR(X:Cx)(F:FI):TI:=fun σ H R=>∃ ρ items,RepS X.ky H ρ σ∧F ρ=some items∧∀ J H',Same H H'→items.length≤sizeLine→(∀ H2,Walk X.K J items H2)→R J H'
def PFR(X:Cx)(tg e:Expr)(F:FI):Prop:=PI X tg e (upR X F)
section
variable {X:Cx}{tg a b e:Expr}{Fa Fb Fe:FE}{pos:Pos}
theorem zkO{p:Pos}(hg:Gl X "range")(hm:X.mg "range" = none)(ha:PF X a Fa)(hs:starEach [a] X.env=[(false,eval a X.env)]:=by rfl):PFR X tg (.Call (.Name "range" p) [a] [] pos) (z0l Fa) :=
 (zbb hg hm (z4z ha z9v hs) hs).imp fun σ H R hZ=>hZ.elim fun ρ hZ=>hZ.elim fun items hZ=>hZ.elim fun rs hZ=>hZ.elim fun e0 k=>by
  obtain⟨⟨f,d⟩,e1,e2⟩:=z05 e0
  obtain⟨j,e3,e4⟩:=z05 e2
  clear e0 e2
  have ed:=z5O e3
  cases (show d = .int j from ed)
  split at e4
  · rename_i hr
    cases e4
    obtain⟨h1,h2⟩:=zcH hr
    refine⟨ρ,f,_,rs,e1,fun v H1 s1 r1=>⟨j,by rw[Rp.int_.mp r1.sh],by omega,by omega,k _ H1 s1 ?_ (fun _=>z6u)⟩⟩
    rw[z6v]
    have:sizeLine=16777216:=rfl
    omega
  · cases e4
theorem zkP{p:Pos}(hg:Gl X "range")(hm:X.mg "range" = none)(ha:PF X a Fa)(hb:PF X b Fb)(hs:starEach [a,b] X.env=[(false,eval a X.env),(false,eval b X.env)]:=by rfl)
  (hs1:starEach [b] X.env=[(false,eval b X.env)]:=by rfl):PFR X tg (.Call (.Name "range" p) [a,b] [] pos) (z9d Fa Fb) :=
 (zku hg hm (z4z ha (z4z hb z9v hs1) (by rw[hs,hs1])) hs hs1).imp fun σ H R hZ=>hZ.elim fun ρ hZ=>hZ.elim fun items hZ=>hZ.elim fun rs hZ=>hZ.elim fun e0 k=>by
  obtain⟨⟨f,d⟩,e1,e2⟩:=z05 e0
  obtain⟨⟨f',d'⟩,e1',e2'⟩:=z05 e2
  obtain⟨i,e3,e4⟩:=z05 e2'
  obtain⟨j,e5,e6⟩:=z05 e4
  clear e0 e2 e2' e4
  have ed:=z5O e3
  have ed':=z5O e5
  cases (show d = .int i from ed)
  cases (show d' = .int j from ed')
  split at e6
  · rename_i hr
    rw[Bool.and_eq_true]at hr
    cases e6
    obtain⟨h1,h2⟩:=zcH hr.1
    obtain⟨h3,h4⟩:=zcH hr.2
    refine⟨ρ,f,_,rs,e1,fun v H1 s1 r1=>⟨ρ,f',_,rs.mono s1,e1',fun v' H2 s2 r2=>⟨i,j,by rw[Rp.int_.mp r1.sh,Rp.int_.mp r2.sh],⟨by omega,by omega,by omega,by omega⟩,k _ H2 (s1.trans s2) ?_ (fun _=>z6u)⟩⟩⟩
    rw[z6v]
    have:sizeLine=16777216:=rfl
    omega
  · cases e6
end
def z8I(Fi:FI)(g:Tg)(F:FS):FS:=fun ρ=>(Fi ρ).bind fun items=>forF g F items ρ
section
variable {X:Cx}{tg iter:Expr}{body:List Stmt}{Fi:FI}{g:Tg}{F:FS}{pos:Pos}
theorem zm8(hp:PassesOwn (model X.prog X.w) X.A X.env X.xe)(hc:X.calm=true)(hi:PFR X tg iter Fi)(hg:PG X tg (g.low X.K))(hb:PFSs X body F)
   (hs:∀ x,foldedSetIterable iter X.env x=pure x:=by intro _;rfl):PFS X (.For tg iter body [] pos) (z8I Fi g F):=(zlw hp hc hi hg hb hs).imp fun D σ H ⟨H₀,ρ,oc,⟨O,rb⟩,e0,k⟩=>by
 obtain⟨items,e1,e2⟩:=z05 e0
 refine⟨ρ,items,rb.all,e1,fun J H1 sm hsz wk=>?_⟩
 refine⟨fun i m σ' H'=>m=items.length-i∧∃ ρ',RepB X H₀ H' ρ' σ'∧forF g F (items.drop i) ρ'=some oc,⟨_,rfl,_,⟨O,rb.mono sm⟩,e2⟩,?_⟩
 rintro i m σ' H' ⟨rfl,ρ',⟨O2,r2⟩,f2⟩
 obtain⟨w1,w2⟩:=wk (hidL O2.adr H') O2.adr H' (Same.refl _) fun a ha=>by obtain⟨⟨vs,q⟩,_⟩:=r2.own a ha;exact⟨_,q⟩
 by_cases hlt:i<items.length
 · obtain⟨x,hx⟩:∃ x,items[i]?=some x:=⟨_,List.getElem?_eq_getElem hlt⟩
   have hdrop:items.drop i=x::items.drop (i+1):=by
    rw[List.drop_eq_getElem_cons hlt]
    rw[List.getElem?_eq_getElem hlt]at hx
    cases hx;rfl
   rw[hdrop]at f2
   unfold forF at f2
   obtain⟨ρ2,p1,f3⟩:=z05 f2
   obtain⟨oc',p2,f4⟩:=z05 f3
   obtain⟨go,yl⟩:=w1 i x hx
   refine .inr ⟨go,fun σ3 H3=>∃ ρ3,RepB X H₀ H3 ρ3 σ3∧forF g F (items.drop (i+1)) ρ3=some oc,fun σ3 H3 hZ=>hZ.elim fun ρ3 hZ=>hZ.elim fun r3 f3=>⟨items.length-(i+1),by omega,rfl,ρ3,r3,f3⟩,fun xv H3 y3=>?_⟩
   obtain⟨s3,k3,r3⟩:=yl xv H3 y3
   have sm3:Same H' H3:=fun b o e=>by
    by_cases hb:b∈O2.adr
    · rw[k3 b hb];exact e
    · exact(z4E (s3 b o (by rw[z0r hb];exact e))).2
   refine Tg.low_mono (Tg.simO (r2.mono sm3) r3 p1) ?_
   rintro σ4 H4 ⟨eH,O4,r4⟩
   subst eH
   refine⟨H₀,ρ2,oc',⟨O4,r4⟩,p2,?_⟩
   cases oc' with
   | nx ρ5=>exact fun σ5 H5 r5=>⟨ρ5,r5,f4⟩
   | ct ρ5=>exact fun σ5 H5 r5=>⟨ρ5,r5,f4⟩
   | bk ρ5=>cases f4;exact k
   | rt f d=>cases f4;exact k
 · have hd:items.drop i=[]:=List.drop_of_length_le (by omega)
   rw[hd]at f2
   cases f2
   exact .inl ⟨w2 i (by omega),k σ' H' ⟨O2,r2⟩⟩
end
section
variable {P:Program}{w:World}{K:PySem.W.Frag}{mg:Str→Option Value}{base:Heap}
theorem Fun.dat{x qual:Str}{st:Stmt}{f:Addr}{fd:FuncData}{N ps:List Str}{k np nn:Nat}{fr:Bool}{F:FS}(Fu:Fun K x qual st f fd)(S:FnScope N ps (z04 st))(hp:np=ps.length)(hn:nn=N.length)
  (body:∀(cdv:Value) (A:Around) (outer:List Env) (s:Shared) (H:Hp) (E:XK),Room k (A.deeper (envOfC qual (z04 st) s.heap.objs.size f cdv)) →
   PFSs (cxOf CX0 P w K mg base N qual (z04 st) f cdv A outer s H E).nox (z1P st) F):FnOk P w K mg base CX0 (k+1) f fd ps (spc K fr (cOf np nn fr F)):=by
 subst hp hn
 exact Fun.data Fu S body
end
theorem z0c{X:Cx}{e:Expr}{es:List Expr}{pos:Pos}{Fs:FA}{fr:Bool}{k k':Nat}{f:Addr}{fd:FuncData}{ps:List Str}{ct:FC}{x:Str}{st:Stmt}{p:Pos}(F:FnOk X.prog X.w X.K X.mg X.base CX0 k f fd ps (spc X.K fr ct))(D:Df X.K X.mg x st ps f fd)(hr:Room k' X.A)(hg:Gl X x)
  (ha:PFA X (e::es) Fs) (hle:k≤k':=by decide) (hdb:(x==("__debug__" : Str))=false:=by decide) (hst:starEach (e::es) X.env=(false,eval e X.env)::starEach es X.env:=by rfl) (hpl:(backTo pos (starEach es X.env)).any (·.1)=false:=by rfl):PF X (.Call (.Name x p) (e::es) [] pos) (z06 fr ct Fs) :=
 p_call F (hr.mono hle) hg D.mg D.fn.kp D.bd ha hdb hst hpl
def Dh(K:PySem.W.Frag)(x:Str)(st:Stmt)(f:Addr):Prop:=∃(oc kV doc pm cdv ct:Value) (od an:Option Addr) (osl:Array (Option Value)),PySem.W.nsIn K mainGlobals x=some (some (.ref f))∧K.lookup f=some ⟨oc,od,.func (PySem.W.fnOf x x (z2Q st) (z1P st) (z04 st) .none kV doc pm an cdv ct),osl⟩∧PySem.W.codeIn K cdv x=true∧PySem.W.keepIn K (.ref f)=true
theorem dh{K:PySem.W.Frag}{x:Str}{st:Stmt}{f:Addr}{oc kV doc pm cdv ct:Value}{od an:Option Addr}{osl:Array (Option Value)}(e:PySem.W.nsIn K mainGlobals x=some (some (.ref f)))(l:K.lookup f=some ⟨oc,od,.func (PySem.W.fnOf x x (z2Q st) (z1P st) (z04 st) .none kV doc pm an cdv ct),osl⟩)(c:PySem.W.codeIn K cdv x=true)(k:PySem.W.keepIn K (.ref f)=true):Dh K x st f:=⟨_,_,_,_,_,_,_,_,_,e,l,c,k⟩
theorem Dh.df{K:PySem.W.Frag}{h:Heap}{mg:Str→Option Value}(X:K.In h)(G:h.Ns mainGlobals mg){x:Str}{st:Stmt}{f:Addr}{ps:List Str}(d:Dh K x st f)
  (hb:∀(kV doc pm:Value) (an:Option Addr) (cdv ct:Value) (us:List Value),us.length=ps.length→bindArgs (PySem.W.fnOf x x (z2Q st) (z1P st) (z04 st) .none kV doc pm an cdv ct) ⟨us,[]⟩=pure (ps.zip us)) :
  ∃ fd,Df K mg x st ps f fd∧∀ us:List Value,us.length=ps.length→bindArgs fd ⟨us,[]⟩=pure (ps.zip us):=by
 obtain⟨_,_,_,_,_,_,_,_,_,e,l,c,k⟩:=d
 exact⟨_,df_mk X G e l c k hb,hb _ _ _ _ _ _⟩
theorem ndp(l:List Str)(h:l.Nodup:=by decide +kernel):l.Nodup:=h
theorem jlt(l:List Nat)(m:Nat)(h:∀ j∈l,j<m:=by decide):∀ j∈l,j<m:=h
theorem scm{N P:List Str}{sc:Scope}(kind:sc.kind = .function:=by rfl)(co:sc.isCoroutine=false:=by rfl)(gen:sc.isGenerator=false:=by rfl)(nd:N.Nodup:=by decide +kernel)(pre:N.take P.length=P:=by rfl)(par:∀ x∈P,sc.names.lookup x=some .local∨sc.names.lookup x=some .cell:=by decide +kernel)(nofree:∀ y∈sc.names,y.2 ≠ .free:=by decide +kernel):FnScope N P sc:=⟨kind,co,gen,nd,pre,par,nofree⟩
theorem zm9{Fi:FI}{g:Tg}{F:FS}{ρ:Rho}:z8I Fi g F ρ=(Fi ρ).bind fun items=>forF g F items ρ:=rfl
end L2

end
section
local macro_rules|`(tactic| omega)=>`(tactic| first|lia|omega +splitDisjunctions)
set_option Elab.async false
set_option linter.all false
set_option maxRecDepth 100000
set_option maxHeartbeats 2000000
namespace L2
open PySem PySem.Spec PyProof.Rows
section
variable {α β:Type}
def insK(p:Int×α):List (Int×α)→List (Int×α)
 | []=>[p]
 | q::qs=>if p.1≤q.1 then p::q::qs else q::insK p qs
def z2W:List (Int×α)→List (Int×α)
 | []=>[]
 | p::ps=>insK p (z2W ps)
theorem z7R(p:Int×α):∀ qs:List (Int×α),(insK p qs).Perm (p::qs)
 | []=>List.Perm.refl _
 | q::qs=>by
  unfold insK
  split
  · exact List.Perm.refl _
  · exact((z7R p qs).cons q).trans (List.Perm.swap p q qs)
theorem z24:∀ ps:List (Int×α),(z2W ps).Perm ps
 | []=>List.Perm.refl _
 | p::ps=>(z7R p _).trans ((z24 ps).cons p)
abbrev Le(p q:Int×α):Prop:=p.1≤q.1
theorem z8J(p:Int×α):∀ qs:List (Int×α),qs.Pairwise Le→(insK p qs).Pairwise Le
 | [],_=>List.pairwise_singleton _ _
 | q::qs,h=>by
  obtain⟨h1,h2⟩:=List.pairwise_cons.mp h
  unfold insK
  split
  · rename_i hle
    exact List.pairwise_cons.mpr ⟨fun x hx=>by
      rcases List.mem_cons.mp hx with rfl|hx
      · exact hle
      · exact Int.le_trans hle (h1 x hx),h⟩
  · rename_i hle
    refine List.pairwise_cons.mpr ⟨fun x hx=>?_,z8J p qs h2⟩
    rcases List.mem_cons.mp ((z7R p qs).mem_iff.mp hx)with rfl|hx
    · show q.1≤x.1;omega
    · exact h1 x hx
theorem z4J:∀ ps:List (Int×α),(z2W ps).Pairwise Le
 | []=>List.Pairwise.nil
 | p::ps=>z8J p _ (z4J ps)
theorem zdI(g:α→β)(p:Int×α):∀ qs:List (Int×α),insK (p.1,g p.2) (qs.map fun q=>(q.1,g q.2))=(insK p qs).map fun q=>(q.1,g q.2)
 | []=>rfl
 | q::qs=>by
  rw[List.map_cons]
  unfold insK
  by_cases h:p.1≤q.1
  · rw[if_pos h,if_pos h];rfl
  · rw[if_neg h,if_neg h,List.map_cons,zdI g p qs]
theorem z5Q(g:α→β):∀ ps:List (Int×α),z2W (ps.map fun q=>(q.1,g q.2))=(z2W ps).map fun q=>(q.1,g q.2)
 | []=>rfl
 | p::ps=>by rw[List.map_cons,z2W,z2W,z5Q g ps,zdI g p]
theorem z9L:∀{xs ys:List (Int×α)},xs.Perm ys→xs.Pairwise Le→ys.Pairwise Le→(xs.map (·.1)).Nodup→xs=ys
 | [],ys,p,_,_,_=>(List.Perm.nil_eq p)
 | x::xs,[],p,_,_,_=>by have:=p.length_eq;simp at this
 | x::xs,y::ys,p,h1,h2,nd=>by
  obtain⟨a1,a2⟩:=List.pairwise_cons.mp h1
  obtain⟨b1,b2⟩:=List.pairwise_cons.mp h2
  have nd':(x.1::xs.map (·.1)).Nodup:=nd
  obtain⟨n1,n2⟩:=List.nodup_cons.mp nd'
  have hx:x∈y::ys:=p.mem_iff.mp List.mem_cons_self
  have hy:y∈x::xs:=p.mem_iff.mpr List.mem_cons_self
  have exy:x=y:=by
   rcases List.mem_cons.mp hx with e|hx
   · exact e
   · rcases List.mem_cons.mp hy with e|hy
     · exact e.symm
     · have l1:x.1≤y.1:=a1 y hy
       have l2:y.1≤x.1:=b1 x hx
       have e:x.1=y.1:=by omega
       exact absurd (List.mem_map.mpr ⟨y,hy,e.symm⟩) n1
  subst exy
  rw[z9L (p.cons_inv) a2 b2 n2]
end
section
variable {X:Cx}{pins:List (Addr×Obj)}{σ:St}{H:Hp}{s:Shared}
theorem Inv.track{D:Addr}{its:List Value}{ys:List V}{n:Nat}(I:Inv X pins σ H s)(hD:H D=none)(f:FpOk X pins H D)(hn:X.s₀.heap.objs.size≤D)(ho:s.heap.get? D=some { cls := .type "list",data := .seq its.toArray n })(hv:Vals ys its)(hz:ys.length≤sizeLine):
   Inv X pins σ (upd H D (.lst ys)) s:=by
 obtain⟨f0,f1,f2,f3,f4,f5⟩:=f
 have ne:∀ b o,X.s₀.heap.get? b=some o→b≠D:=fun b o e z=>by
   subst z
   exact absurd (Nat.lt_of_lt_of_le (Heap.lt_size e) hn) (Nat.lt_irrefl _)
 have nH:∀ b o,H b=some o→b≠D:=fun b o e z=>by rw[z,hD]at e;cases e
 refine⟨I.ok,I.os,I.bare,⟨I.base.keep,I.base.slot,fun b o e q hx=>?_,I.base.there,fun b xs e=>?_,fun b o u e=>?_,fun b ps e=>?_⟩,I.loc,I.cell,?_,fun x c e=>?_,fun p hp=>?_,fun a o e=>?_,I.len⟩
 · rw[z0x (ne b o e)];exact I.base.free b o e q hx
 · have:=I.base.tups b xs e
   rw[z0x (nH b _ this)];exact this
 · have:=I.base.frzs b o u e
   rw[z0x (nH b _ this)];exact this
 · obtain⟨more,this⟩:=I.base.tbls b ps e
   exact⟨more,by rw[z0x (nH b _ this)];exact this⟩
 · rw[z0x (Ne.symm f1)];exact I.free
 · rw[z0x (f4 x c e)];exact I.freeC x c e
 · obtain⟨q1,q2,q3⟩:=I.pin p hp
   exact⟨q1,by rw[z0x (f5 p hp)];exact q2,q3⟩
 · by_cases z:a=D
   · subst z
     rw[z13]at e
     cases e
     exact⟨hz,its,n,hv,ho⟩
   · rw[z0x z]at e
     refine(I.hok a o e).stay (fun b u _ q=>q) (fun b q=>?_) (fun b xs q=>?_)
     · rw[z0x (nH b _ q)];exact q
     · rw[z0x (nH b _ q)];exact q
theorem ns_inj{h:Heap}{a:Addr}{m m':Str→Option Value}(p:h.Ns a m)(q:h.Ns a m'):m=m':=by
 obtain⟨o,es,ep,e,d,_,f⟩:=p
 obtain⟨o',es',ep',e',d',_,f'⟩:=q
 rw[e]at e'
 cases e'
 rw[d]at d'
 cases d'
 funext x
 rw[←f x,←f' x]
def z9M(base:Heap)(L a b:Addr)(h:Heap):List (Addr×Obj):=(List.range h.objs.size).filterMap fun c=>match h.get? c with
 | some o=>if base.get? c=none∧c≠L∧c≠a∧c≠b then some (c,o) else none
 | none=>none
theorem zf7{base:Heap}{L a b c:Addr}{h:Heap}{o:Obj}(e:h.get? c=some o)(h1:base.get? c=none)(h2:c≠L)(h3:c≠a)(h4:c≠b):(c,o)∈z9M base L a b h :=
 List.mem_filterMap.mpr ⟨c,List.mem_range.mpr (Heap.lt_size e),by rw[e];simp[h1,h2,h3,h4]⟩
theorem z7S{base:Heap}{L a b:Addr}{h:Heap}{p:Addr×Obj}(hp:p∈z9M base L a b h):h.get? p.1=some p.2∧base.get? p.1=none∧p.1≠L∧p.1≠a∧p.1≠b:=by
 obtain⟨c,hc,e⟩:=List.mem_filterMap.mp hp
 cases q:h.get? c with
 | none=>rw[q]at e;cases e
 | some o =>
  rw[q]at e
  dsimp only at e
  split at e
  · rename_i hh;cases e;exact⟨q,hh⟩
  · cases e
theorem Inv.turnedN{h':Heap}{t':Nat}{ch:List Addr}{m:Str→Option Value}(I:Inv X pins σ H s)(hm:s.heap.Ns X.env.locals m)(hm':h'.Ns X.env.locals m)(hl:∃ o,h'.get? X.env.locals=some o)(k:∀ b o,b ∉ ch→b≠X.env.locals→s.heap.get? b=some o→h'.get? b=some o)(hc:∀ b∈ch,FpOk X pins H b):
   Inv X pins σ H { s with heap:=h',toks:=t' }:=by
 have nit:∀ b u,H b=some u→b ∉ ch:=fun b u e z=>by rw[(hc b z).1]at e;cases e
 have nL:∀ b u,H b=some u→b≠X.env.locals:=fun b u e z=>by rw[z,I.free]at e;cases e
 refine I.step (g':=s.gens) (d':=s.drawn) (ch:=ch) (fun b hb=>?_) (fun b o nl _ hn e _=>k b o hn nl e) (fun b o nl _ hn e _=>⟨o.slots,k b o hn nl e⟩) (fun _ _ _ _ n=>n)
   (fun b o hn e=>?_) (fun _ _ e=>e) (fun _ _ _ e=>e) (fun b ps e=>⟨#[],by rw[e];simp⟩) (fun m' hm2=>by rw[←ns_inj hm hm2];exact hm') (fun b u e=>?_) I.bare
 · obtain⟨f0,f1,f2,f3,f4,f5⟩:=hc b hb
   exact⟨f3,f1,f4,f5⟩
 · by_cases z:b=X.env.locals
   · subst z;exact hl
   · exact⟨o,k b o hn z e⟩
 · refine(I.hok b u e).stay (fun c v hcc q=>k c v ?_ ?_ q) (fun _ q=>q) fun _ _ q=>q
   · rcases hcc with z|z
     · rw[z];exact nit b u e
     · exact nit c _ z
   · rcases hcc with z|z
     · rw[z];exact nL b u e
     · exact nL c _ z
end
def z2C(c:FC):List Dt→Option (List Int)
 | []=>some []
 | d::ds=>(c [d]).bind fun r=>(intD r).bind fun i=>(z2C c ds).map (i::·)
theorem z6w{c:FC}:∀{ds:List Dt} {ks:List Int},z2C c ds=some ks→ks.length=ds.length
 | [],ks,h=>by cases h;rfl
 | d::ds,ks,h=>by
  obtain⟨r,_,h⟩:=z05 h
  obtain⟨i,_,h⟩:=z05 h
  cases q:z2C c ds with
  | none=>rw[q]at h;cases h
  | some js=>rw[q]at h;cases h;rw[List.length_cons,List.length_cons,z6w q]
theorem z9N{c:FC}:∀{ds:List Dt} {ks:List Int} {j:Nat} {d:Dt} {k:Int},z2C c ds=some ks→ds[j]?=some d→ks[j]?=some k→c [d]=some (.int k)
 | [],ks,j,d,k,h,e,_=>by simp at e
 | a::ds,ks,j,d,k,h,e,e'=>by
  obtain⟨r,h1,h⟩:=z05 h
  obtain⟨i,h2,h⟩:=z05 h
  cases q:z2C c ds with
  | none=>rw[q]at h;cases h
  | some js =>
   rw[q]at h
   cases h
   cases j with
   | zero =>
    simp at e e'
    subst e;subst e'
    rw[h1,z5O h2]
   | succ j=>exact z9N q (by simpa using e) (by simpa using e')
section
variable {X:Cx}{pins:List (Addr×Obj)}{σ:St}{H:Hp}{s:Shared}{k:Nat}{f:Addr}{fd:FuncData}{p:Str}{fr:Bool}{ct:FC}{l:Addr}{vs:List V}{ds:List Dt}{ks:List Int}{Q:VK}
theorem zq{H1:Hp}{s1:Shared}{d:Dt}{v:V}{u:Value}{n:Int}(F:FnOk X.prog X.w X.K X.mg X.base CX0 k f fd [p] (spc X.K fr ct))(hr:Room (k+2) X.A)(hb:Binds X.K fd [p] [])(I:Inv X pins σ H1 s1)(r:RelV v u)(rd:Rp X.K emp d H1 v)(hc:ct [d]=some (.int n))
  {P:Value→Shared→Prop} {E:Value→Shared→Prop} (q:∀ t H2 s2,Inv X pins σ H2 s2→Same H1 H2→(∀ b o,s1.heap.get? b=some o→H1 b=none→b ∉ frs X.stack→s2.heap.get? b=some o∧H2 b=none)→P (.int n t) s2):wpAny (model X.prog X.w) X.A.in1.in1 (call (.ref f) [u]) P E s1:=by
 have hr2:Room k X.A.in1.in1:=(show Room (k+1+1) X.A from hr).in1.in1
 refine wpAny_call (codeAny_mono (F.run X.A.in1.in1 X.stack s1 H1 ⟨[u],[]⟩ [u] [v] (fun w H2=>w = .int n∧Same H1 H2) E0 hr2 I.env0.in1.in1 (hb s1 [u] I.kIn rfl) (.cons r .nil) ⟨[d],_,Rps.one rd,hc,fun w H2 sm rw'=>⟨by cases fr<;>exact Rp.int_.mp rw',sm⟩⟩) fun res s2 hres=>?_)
 cases res with
 | error e=>exact hres.elim
 | ok fl =>
  cases fl with
  | ret w =>
   obtain⟨x,H2,os,bare,un,hok,rw',ex,sm⟩:=hres
   subst ex
   obtain⟨t,rfl⟩:=rw'
   exact q t H2 s2 (I.call' (ch:=[]) os un hok bare fun b hb=>absurd hb (by simp)) sm fun b o e hn hf=>⟨un.keep b o e hn hf (by simp),un.free b o e hn (by simp)⟩
  | next=>exact hres.elim
  | brk=>exact hres.elim
  | cont=>exact hres.elim
theorem zma(I:Inv X pins σ H s){b:Addr}(hb:b∈frs X.stack):b<s.heap.objs.size:=by
 obtain⟨_,o,e,_⟩:=I.stack.mem hb
 exact Heap.lt_size e
theorem zkQ{D kS:Addr}{e1:Nat}{its:List Value}{P:PySem.Fin→Shared→Prop}{E:Value→Shared→Prop}(F:FnOk X.prog X.w X.K X.mg X.base CX0 k f fd [p] (spc X.K fr ct))(hr:Room (k+2) X.A)(hb:Binds X.K fd [p] [])(I:Inv X pins σ H s)(rv:Vals vs its)(rs:Rps X.K emp ds H vs)(hk:z2C ct ds=some ks)(h64:ds.length<64)
  (hD:s.heap.get? D=some (seqObj "list" #[] e1)) (hS:s.heap.get? kS=some (seqObj "list" #[] 0)) (nDS:kS≠D) (fD:FpOk X pins H D) (fS:FpOk X pins H kS) (gD:D ∉ frs X.stack) (gS:kS ∉ frs X.stack) (sD:X.s₀.heap.objs.size≤D) (sS:X.s₀.heap.objs.size≤kS)
  (q:∀ H2 s2 (out:List Value) c,Inv X pins σ H2 s2→Same H H2→H2 D=none→s2.heap.get? D=some (seqObj "list" out.toArray c)→KskOut false ks its out→P (.done (.ret .none)) s2) :
  wpAny (model X.prog X.w) X.A.in1.in1 (ksk_rest D (.ref f) false its.toArray e1 (.ref kS)) P E s:=by
 have hlen:=z6w hk
 have l1:=rs.length
 have l2:=rv.length
 unfold ksk_rest
 refine wpAny_bind (wpAny_rule ?_)
 rw[List.forIn_toArray]
 refine wpAny_bind (ksk_fold (fun i s'=>∃ H1 kA e,Inv X pins σ H1 s'∧Same H H1∧H1 D=none∧H1 kS=none∧s'.heap.get? D=some (seqObj "list" #[] e1)∧s'.heap.get? kS=some (seqObj "list" kA e)∧IntsAre kA.toList (ks.take i)) its 0 s
  ⟨H,#[],0,I,Same.refl H,fD.1,fS.1,hD,hS,by simpa using IntsAre.nil⟩ ?step ?done)
 case step =>
  rintro j u s' hu ⟨H1,kA,e,I1,sm,d1,d2,o1,o2,hka⟩
  simp only[Nat.zero_add]at hka ⊢
  have hj:j<its.length:=(List.getElem?_eq_some_iff.mp hu).1
  obtain⟨n,hn⟩:∃ n,ks[j]?=some n:=⟨_,List.getElem?_eq_getElem (by omega)⟩
  obtain⟨d,hd⟩:∃ d,ds[j]?=some d:=⟨_,List.getElem?_eq_getElem (by omega)⟩
  obtain⟨v,hv,rd⟩:=rs.get hd
  obtain⟨u',hu',ru⟩:=rv.get hv
  rw[hu]at hu'
  cases hu'
  have hz:kA.size≤its.length:=by
    have h1:=hka.length
    rw[Array.length_toList,List.length_take]at h1
    omega
  refine wpAny_bind (wpAny_attempt (zq F hr hb I1 ru (Rp.mono _ sm rd) (z9N hk hd hn) fun t H2 s2 I2 sm2 kk=>?_))
  obtain⟨p1,p2⟩:=kk D _ o1 d1 gD
  obtain⟨p3,p4⟩:=kk kS _ o2 d2 gS
  try dsimp only
  have sb:=Heap.SameBut.update s2.heap kS (Obj.mapSeq (·.push (.int n t)))
  have g2:=get?_update_seq p3 (·.push (.int n t))
  have ek:ks.take (j+1)=ks.take j++[n]:=by rw[List.take_add_one,hn];simp
  have ea:(kA.push (Value.int n t)).toList=kA.toList++[Value.int n t]:=by simp
  refine wpAny_bind (listUpdate_at p3 rfl ?_ (by rw[sizeLine_eq];omega) (Nat.le_trans (Nat.le_of_eq (Array.size_push ..)) (by rw[sizeLine_eq];omega)))
  have fS2:FpOk X pins H2 kS:=⟨p4,fS.2⟩
  refine wpAny_pure ⟨rfl,H2,kA.push (.int n t),_,I2.turnedL (t':=s2.toks) (ch:=[kS]) (fun b o hb e=>(sb.2 b (by simpa using hb)).trans e) (fun b hb=>by rw[List.mem_singleton.mp hb];exact fS2),sm.trans sm2,p2,p4,(sb.2 D (Ne.symm nDS)).trans p1,g2,by rw[ea,ek];exact ksk_snoc hka⟩
 case done =>
  rintro s' ⟨H1,kA,e,I1,sm,d1,d2,o1,o2,hka⟩
  have hk':IntsAre kA.toList ks:=by
    rw[List.take_of_length_le (by omega)]at hka
    exact hka
  try dsimp only
  refine wpAny_bind (listItems_at o2 rfl ?_)
  obtain⟨m,hfr⟩:=I1.fr
  have fD1:FpOk X pins H1 D:=⟨d1,fD.2⟩
  have fS1:FpOk X pins H1 kS:=⟨d2,fS.2⟩
  have bD:X.base.get? D=none:=Heap.get?_none_of_le (Nat.le_trans I.ok.bsz sD)
  have bS:X.base.get? kS=none:=Heap.get?_none_of_le (Nat.le_trans I.ok.bsz sS)
  refine ksk_end_ (e:=e) (news:=z9M X.base X.env.locals kS D s'.heap) hfr (fun z hz=>?_) nDS (fun z hz=>(z7S hz).2.2.2.1) (fun z hz=>(z7S hz).2.2.2.2) hk' (by omega) (by omega) fun h' tk out c F' N' ko=>?_
  · rcases List.mem_append.mp hz with hz|hz
    · obtain⟨z1,z2,z3,_⟩:=z7S hz
      exact⟨z1,z3,z2⟩
    · rcases List.mem_cons.mp hz with rfl|hz
      · exact⟨o2,fS1.2.1,bS⟩
      · rw[List.mem_singleton.mp hz]
        exact⟨o1,fD1.2.1,bD⟩
  · have nd:=N' (D,seqObj "list" out c) List.mem_cons_self
    refine q H1 _ out.toList c (I1.turnedN (t':=tk) (ch:=[kS,D]) hfr.ns F'.ns (by obtain⟨o,_,_,e,_⟩:=F'.ns;exact⟨o,e⟩) (fun b o hb hl eb=>?_) (fun b hb=>?_)) sm d1 nd.1 ko
    · have hb2:b≠kS∧b≠D:=by simpa using hb
      cases z:X.base.get? b with
      | some o' =>
        have e2:=I1.bk b o' z
        rw[eb]at e2
        cases e2
        exact F'.keep b _ z
      | none=>exact(N' _ (List.mem_cons_of_mem _ (zf7 eb z hl hb2.1 hb2.2))).1
    · rcases List.mem_cons.mp hb with rfl|hb
      · exact fS1
      · rw[List.mem_singleton.mp hb];exact fD1
theorem zkR{D:Addr}{n0:Nat}{its:List Value}{P:PySem.Fin→Shared→Prop}{E:Value→Shared→Prop}(F:FnOk X.prog X.w X.K X.mg X.base CX0 k f fd [p] (spc X.K fr ct))(hr:Room (k+2) X.A)(hb:Binds X.K fd [p] [])(I:Inv X pins σ H s)(rv:Vals vs its)(rs:Rps X.K emp ds H vs)(hk:z2C ct ds=some ks)(h64:ds.length<64)
  (hD:s.heap.get? D=some (seqObj "list" its.toArray n0)) (fD:FpOk X pins H D) (gD:D ∉ frs X.stack) (sD:X.s₀.heap.objs.size≤D)
  (q:∀ H2 s2 (out:List Value) c,Inv X pins σ H2 s2→Same H H2→H2 D=none→s2.heap.get? D=some (seqObj "list" out.toArray c)→KskOut false ks its out→P (.done (.ret .none)) s2) :
  wpAny (model X.prog X.w) X.A.in1.in1 (ksk_tree D (.ref f) false) P E s:=by
 have l1:=rs.length
 have l2:=rv.length
 have hlt:D<s.heap.objs.size:=Heap.lt_size hD
 unfold ksk_tree
 refine wpAny_bind (listItems_at hD rfl ?_)
 have sb:=Heap.SameBut.update s.heap D (Obj.mapSeq fun _=>(#[]:Array Value))
 have o1:=get?_update_seq hD fun _=>(#[]:Array Value)
 refine wpAny_bind (listUpdate_at hD rfl ?_ (by rw[List.size_toArray,sizeLine_eq];omega) (Nat.zero_le _))
 have I1:Inv X pins σ H { s with heap:=s.heap.update D (Obj.mapSeq fun _=>(#[]:Array Value)) }:=I.turnedL (t':=s.toks) (ch:=[D]) (fun b o hb e=>(sb.2 b (by simpa using hb)).trans e) (fun b hb=>by rw[List.mem_singleton.mp hb];exact fD)
 refine wpAny_bind (seqEpoch_at o1 rfl ?_)
 refine wpAny_bind (wpAny_newTuple ?_ (by show its.length≤_;rw[sizeLine_eq];omega))
 refine wpAny_bind (wpAny_newList ?_ (Nat.zero_le _))
 refine wpAny_holding ?_
 generalize hg:s.heap.update D (Obj.mapSeq fun _=>(#[]:Array Value))=g at *
 have zg:g.objs.size=s.heap.objs.size:=sb.1
 have I2:Inv X pins σ H { s with heap:=(g.push (seqObj "tuple" its.toArray 0)).push (seqObj "list" #[] 0) }:=I1.kept (t':=s.toks) fun b o e=>Heap.get?_push_of_some _ (Heap.get?_push_of_some _ e)
 have zk:(g.push (seqObj "tuple" its.toArray 0)).objs.size=g.objs.size+1:=size_push' _ _
 have ge:s.heap.objs.size≤(g.push (seqObj "tuple" its.toArray 0)).objs.size:=by omega
 refine zkQ (s:={ s with heap:=(g.push (seqObj "tuple" its.toArray 0)).push (seqObj "list" #[] 0) }) (kS:=(g.push (seqObj "tuple" its.toArray 0)).objs.size) F hr hb I2 rv rs hk h64 (Heap.get?_push_of_some _ (Heap.get?_push_of_some _ o1)) (Heap.get?_push_size _ rfl) (Nat.ne_of_gt (Nat.lt_of_lt_of_le hlt ge)) fD (I.fpOk ge (I.hok.fresh ge)) gD (fun z=>?_) sD (Nat.le_trans I.sz ge) q
 exact absurd (Nat.lt_of_lt_of_le (zma I z) ge) (Nat.lt_irrefl _)
theorem zf8(F:FnOk X.prog X.w X.K X.mg X.base CX0 k f fd [p] (spc X.K fr ct))(hr:Room (k+2) X.A)(hb:Binds X.K fd [p] [])(I:Inv X pins σ H s)(hl:H l=some (.lst vs))(rs:Rps X.K emp ds H vs)(hk:z2C ct ds=some ks)(h64:ds.length<64)(nd:ks.Nodup)
  (q:∀ D H2 ys,Same H H2→H2 D=none→Rps X.K emp ((z2W (ks.zip ds)).map (·.2)) H2 ys→Q (.ref D) (upd H2 D (.lst ys))) :
  wpAny (model X.prog X.w) X.A (call (.builtin "sorted") [.ref l] [(Str.ofString "key",.ref f)]) (EP X pins σ Q) X.xe s:=by
 obtain⟨its,rv,pl,hz⟩:=I.list (SqL.of (K:=X.K) hl)
 have l1:=rs.length
 have l2:=rv.length
 have l3:=z6w hk
 refine call_function_entry_kw kind_sorted plain_sorted entry_sorted (ksk_s1 _ _) ?_
 unfold Builtin.«sorted»
 refine wpAny_bind (m:=checkCount "sorted" 1 1 _) (wpAny_pure ?_)
 refine wpAny_bind (collect_list pl.isList ?_ (by rw[sizeLine_eq];omega))
 refine wpAny_bind (wpAny_newList ?_ (by rw[sizeLine_eq];omega))
 generalize hg:(s.heap.push (seqObj "list" #[] 0)).update s.heap.objs.size (Obj.mapSeq (·++its.toArray))=g
 have zg:g.objs.size=s.heap.objs.size+1:=by rw[←hg,Heap.size_update,size_push']
 have kg:∀ b o,s.heap.get? b=some o→g.get? b=some o:=fun b o e=>by
  have hlt:=Heap.lt_size e
  rw[←hg,Heap.get?_update_ne _ _ _ _ (Nat.ne_of_lt hlt),Heap.get?_push_ne _ _ _ (Nat.ne_of_lt hlt)]
  exact e
 have I1:Inv X pins σ H { s with heap:=g.push (seqObj "list" its.toArray 0) }:=I.kept (t':=s.toks) fun b o e=>Heap.get?_push_of_some _ (kg b o e)
 have oD:(g.push (seqObj "list" its.toArray 0)).get? g.objs.size=some (seqObj "list" its.toArray 0):=Heap.get?_push_size _ rfl
 have ge:s.heap.objs.size≤g.objs.size:=by omega
 refine wpAny_bind (wpAny_holding (wpAny_call_entry_kw slot_list_sort ⟨_,oD,rfl⟩ entry_list_sort ?body (ksk_l1 _ _)))
 case body =>
  show wpAny (model X.prog X.w) X.A.in1.in1 (Builtin.«list.sort» ⟨[.ref g.objs.size],[(Str.ofString "key",.ref f)]⟩) _ _ _
  rw[ksk_t1]
  refine zkR (s:={ s with heap:=g.push (seqObj "list" its.toArray 0) }) F hr hb I1 rv rs hk h64 oD (I.fpOk ge (I.hok.fresh ge)) (fun z=>absurd (Nat.lt_of_lt_of_le (zma I z) ge) (Nat.lt_irrefl _)) (Nat.le_trans I.sz ge) fun H2 s2 out c I2 sm d2 o2 ⟨ps,pp,eo,so⟩=>⟨_,rfl,?_⟩
  refine wpAny_pure ⟨_,rfl,?_⟩
  have key:∃ ts:List (Int×(Dt×(V×Value))),(ts.map fun t=>(t.1,t.2.2.2))=ps∧(ts.map fun t=>(t.1,t.2.1))=z2W (ks.zip ds)∧∀ t∈ts,Rp X.K emp t.2.1 H t.2.2.1∧RelV t.2.2.1 t.2.2.2:=by
   refine⟨z2W (ks.zip (ds.zip (vs.zip its))),?_,?_,fun t ht=>?_⟩
   · have e1:ks.zip its=(ks.zip (ds.zip (vs.zip its))).map fun t=>(t.1,t.2.2.2):=by
      apply List.ext_getElem
      · simp;omega
      · intro i h1 h2;simp
     rw[←z5Q (fun z:Dt×(V×Value)=>z.2.2),←e1]
     refine z9L ((z24 _).trans pp.symm) (z4J _) (so.imp fun h=>by simpa using h) ?_
     have:((z2W (ks.zip its)).map (·.1)).Perm ks:=((z24 (ks.zip its)).map _).trans (by rw[List.map_fst_zip (by omega)])
     exact this.nodup_iff.mpr nd
   · have e1:ks.zip ds=(ks.zip (ds.zip (vs.zip its))).map fun t=>(t.1,t.2.1):=by
      apply List.ext_getElem
      · simp;omega
      · intro i h1 h2;simp
     rw[←z5Q (fun z:Dt×(V×Value)=>z.1),←e1]
   · have ht:=(z24 _).mem_iff.mp ht
     obtain⟨i,hi,e⟩:=List.getElem_of_mem ht
     simp at hi
     subst e
     simp only[List.getElem_zip]
     obtain⟨v,e1,r1⟩:=rs.get (i:=i) (List.getElem?_eq_getElem (by omega))
     obtain⟨u,e2,r2⟩:=rv.get e1
     rw[List.getElem?_eq_getElem (by omega)]at e1 e2
     cases e1;cases e2
     exact⟨r1,r2⟩
  obtain⟨ts,k1,k2,k3⟩:=key
  have ev:Vals (ts.map fun t=>t.2.2.1) out:=by
   rw[eo,←k1,List.map_map]
   clear k1 k2 eo
   induction ts with
   | nil=>exact .nil
   | cons t ts ih=>exact .cons (k3 t List.mem_cons_self).2 (ih fun z hz=>k3 z (List.mem_cons_of_mem _ hz))
  have er:Rps X.K emp ((z2W (ks.zip ds)).map (·.2)) H (ts.map fun t=>t.2.2.1):=by
   rw[←k2,List.map_map]
   clear k1 k2 eo ev
   induction ts with
   | nil=>exact Rps.nil_.mpr rfl
   | cons t ts ih=>exact Rps.cons_.mpr ⟨_,_,rfl,(k3 t List.mem_cons_self).1,ih fun z hz=>k3 z (List.mem_cons_of_mem _ hz)⟩
  have lt:(ts.map fun t=>t.2.2.1).length≤sizeLine:=by
   rw[List.length_map,←List.length_map (f:=fun t:Int×(Dt×(V×Value))=>(t.1,t.2.1)),k2,(z24 _).length_eq,List.length_zip,sizeLine_eq];omega
  exact⟨.ref g.objs.size,_,I2.track d2 ⟨d2,(I.fpOk ge (I.hok.fresh (H:=H) ge)).2⟩ (Nat.le_trans I.sz ge) (by simpa using o2) ev lt,rfl,q _ _ _ sm d2 (Rps.mono _ sm er)⟩
end
section
variable {X:Cx}{a:Expr}{Fa:FE}{k:Nat}{f:Addr}{fd:FuncData}{prm:Str}{fr:Bool}{ct:FC}{x:Str}{p pos kp kpos:Pos}
def z6x(c:FC)(F:FE):FE:=fun ρ=>(F ρ).bind fun x=>(lstD x.2).bind fun ds=>(z2C c ds).bind fun ks=>if ds.length<64∧ks.Nodup then some (newL ((z2W (ks.zip ds)).map (·.2))) else none
theorem zq0(F:FnOk X.prog X.w X.K X.mg X.base CX0 k f fd [prm] (spc X.K fr ct))(hr:Room (k+2) X.A)(hg:Gl X "sorted")(hm:X.mg "sorted" = none)(hf:X.mg x=some (.ref f))(hgf:Gl X x)(hb:Binds X.K fd [prm] [])(ha:PF X a Fa)(hd:(x==("__debug__" : Str))=false:=by decide)(hs:starEach [a] X.env=[(false,eval a X.env)]:=by rfl):
   PF X (.Call (.Name "sorted" p) [a] [⟨some "key",.Name x kp,kpos⟩] pos) (z6x ct Fa):=by
 intro pins s σ H Q I ⟨ρ,fz,dz,rs,e0,kk⟩
 obtain⟨⟨fa,da⟩,ea,e1⟩:=z05 e0
 obtain⟨ds,ed,e2⟩:=z05 e1
 obtain⟨ks,ek,e3⟩:=z05 e2
 split at e3
 · rename_i hh
   cases e3
   have hA:PA X [a] (upAs X (z01 Fa fNil)):=z03 ha z07 hs
   refine wpAny_Call_Name_kw (z4x I hg hm (by decide +kernel:bootBuiltins "sorted" = some (.builtin "sorted")) ?_)
   refine PyProof.Rows.callWith_kw (thn (hA pos pins s σ H (fun vs H1=>Same H H1∧∃ va,vs=[va]∧Rp X.K emp da H1 va) I ⟨ρ,[(fa,da)],rs,by simp[z01,fNil,ea],fun vs H1 s1 ⟨va,r1,ee1,q1,q3⟩=>⟨s1,va,by rw[ee1,show r1=[]from q3],q1.sh⟩⟩) fun us s1 ⟨vs,H1,I1,rv,s1H,va,ev,ra⟩=>?_) (by rw[hs];rfl) (by rw[hs];rfl) rfl rfl
   subst ev
   obtain⟨ua,rfl,rua⟩:=rv.one
   have hkw:=zjy (X:=X) (nm:=some "key") (kpos:=kpos) (zjv (v:=V.ref f) (pos:=kp) hgf hf rfl hd) zlB
   refine thn (hkw pos pins s1 σ H1 (fun zs H2=>zs=[.ref f]∧H2=H1) I1 ⟨rfl,rfl⟩) ?_
   rintro kvs s2 ⟨zs,H2,I2,rz,ez,eH⟩
   subst ez;subst eH
   obtain⟨uk,rfl,ruk⟩:=rz.one
   cases ruk
   have ex:∃ l vs,va = .ref l∧H2 l=some (.lst vs)∧Rps X.K emp ds H2 vs:=by
    cases da<;>first|cases ed|skip
    obtain⟨l,vs,e,_,h1,h2⟩:=ra.items
    exact⟨l,vs,e,h1,h2⟩
   obtain⟨l,vs,rfl,h1,h2⟩:=ex
   cases rua
   refine zf8 F hr hb I2 h1 h2 ek hh.1 hh.2 fun D H3 ys sm d3 r3=>kk _ _ (s1H.trans (sm.trans (z1m d3))) ?_
   exact(z6V d3 r3).early (s1H.trans sm)
 · cases e3
end
end L2

end
section
set_option linter.all false
set_option maxRecDepth 100000
namespace L2
open PySem
abbrev L(ns:List Int):Dt := .lst (ns.map .int)
abbrev T(ns:List Int):Dt := .tup (ns.map .int)
theorem z0p{α β:Type}{a:α}{f:α→Option β}:(some a).bind f=f a:=rfl
theorem zjP{α:Type}{xs:List α}{i:Int}(h0:0≤i):atI xs i=xs[i.toNat]?:=by
 unfold atI ixN
 rw[if_pos h0]
 by_cases h:i<xs.length
 · rw[if_pos h];rfl
 · rw[if_neg h,List.getElem?_eq_none (by omega)];rfl
theorem atI_c0{α:Type}{x:α}{xs:List α}:atI (x::xs) 0=some x:=z4A (j:=0) rfl
theorem atI_c1{α:Type}{x y:α}{xs:List α}:atI (x::y::xs) 1=some y:=z4A (j:=1) rfl
theorem atI_c2{α:Type}{x y z:α}{xs:List α}:atI (x::y::z::xs) 2=some z:=z4A (j:=2) rfl
theorem z3t:∀ ns:List Int,z1z (ns.map Dt.int)=true
 | []=>rfl
 | n::ns=>by rw[List.map_cons,z1z,z3t ns];rfl
theorem z2D:∀(k:Nat) (ns:List Int),oksN k (ns.map Dt.int)=true
 | k,[]=>by cases k<;>rfl
 | k,n::ns=>by rw[List.map_cons,oksN,z2D k ns];cases k<;>rfl
theorem z3u:∀ ns:List Int,pys (ns.map Dt.int)=ns.map PyData.int
 | []=>rfl
 | n::ns=>by rw[List.map_cons,pys,z3u ns];rfl
theorem z2X:∀ ns ms:List Int,PyData.eqvAll (ns.map PyData.int) (ms.map PyData.int)=decide (ns=ms)
 | [],[]=>by simp[PyData.eqvAll]
 | [],m::ms=>by simp[PyData.eqvAll]
 | n::ns,[]=>by simp[PyData.eqvAll]
 | n::ns,m::ms=>by
  rw[List.map_cons,List.map_cons,PyData.eqvAll,z2X ns ms,PyData.eqv,Bool.eq_iff_iff]
  simp
theorem zkS(ns ms:List Int):opEq (L ns) (L ms)=some (.nw,.bl (decide (ns=ms))):=by
 unfold opEq L
 rw[Dt.okN,Dt.okN,z2D,z2D]
 unfold eqD
 rw[Dt.py,Dt.py,z3u,z3u,PyData.eqv,z2X]
 rfl
theorem zkT(ns ms:List Int):opNe (L ns) (L ms)=some (.nw,.bl (!decide (ns=ms))):=by
 unfold opNe L
 rw[Dt.okN,Dt.okN,z2D,z2D]
 unfold eqD
 rw[Dt.py,Dt.py,z3u,z3u,PyData.eqv,z2X]
 rfl
theorem zq1(ns:List Int):(Dt.scr ns).okN 8=true:=by simp[Dt.okN]
theorem zdJ(ns ms:List Int):opEq (.scr ns) (L ms)=some (.nw,.bl (decide (ns=ms))):=by
 unfold opEq
 rw[zq1]
 unfold L
 rw[Dt.okN,z2D]
 unfold eqD
 rw[Dt.py,Dt.py,z3u,PyData.eqv,z2X]
 rfl
theorem z0M(i j:Int):opEq (.int i) (.int j)=some (.nw,.bl (decide (i=j))):=by
 unfold opEq eqD
 rw[Dt.py,Dt.py,PyData.eqv,Bool.beq_eq_decide_eq]
 rfl
theorem z0H(i j:Int):opNe (.int i) (.int j)=some (.nw,.bl (!decide (i=j))):=by
 unfold opNe eqD
 rw[Dt.py,Dt.py,PyData.eqv,Bool.beq_eq_decide_eq]
 rfl
theorem z8K{i j:Int}(h:j.natAbs<2 ^ 64):z18 i j=true:=by unfold z18;rw[decide_eq_true h];simp
theorem z2k{i j:Int}(h:i.natAbs<2 ^ 64):z18 i j=true:=by unfold z18;rw[decide_eq_true h];simp
section
variable (i j:Int)
end
def z0i(ns:List Int)(k:Int):Int:=if k<ns.length then ns.getD k.toNat 0 else if ns=[] then 0 else ns.getD (k.fmod ns.length).toNat 0*31+k
end L2

end
section
set_option linter.all false
set_option maxRecDepth 100000
namespace L2
open PySem
section
variable {α β γ:Type}{g:Tg}{Fc:FT}{Fe:FE}{ρ0:Rho}
theorem z7T(e:α→Dt)(h:α→Dv):∀(xs:List α),(∀ x∈xs,(g.put (e x) ρ0).bind Fe=some (h x))→z57 g fYes Fe ρ0 (xs.map e)=some (xs.map h)
 | [],_=>rfl
 | x::xs,q=>by
  have q1:=q x List.mem_cons_self
  have ih:=z7T e h xs fun y hy=>q y (List.mem_cons_of_mem _ hy)
  rw[List.map_cons,z57]
  cases p:g.put (e x) ρ0 with
  | none=>rw[p]at q1;cases q1
  | some ρ1 =>
   rw[p]at q1
   have q1:Fe ρ1=some (h x):=q1
   simp[fYes,q1,ih]
theorem z4K(e:α→Dt)(h:α→Dv)(p:α→Bool):∀(xs:List α),(∀ x∈xs,(g.put (e x) ρ0).bind Fc=some (p x))→(∀ x∈xs,p x=true→(g.put (e x) ρ0).bind Fe=some (h x))→z57 g Fc Fe ρ0 (xs.map e)=some ((xs.filter p).map h)
 | [],_,_=>rfl
 | x::xs,q,q'=>by
  have q1:=q x List.mem_cons_self
  have q2:=q' x List.mem_cons_self
  have ih:=z4K e h p xs (fun y hy=>q y (List.mem_cons_of_mem _ hy)) (fun y hy=>q' y (List.mem_cons_of_mem _ hy))
  rw[List.map_cons,z57]
  cases z:g.put (e x) ρ0 with
  | none=>rw[z]at q1;cases q1
  | some ρ1 =>
   rw[z]at q1 q2
   have q1:Fc ρ1=some (p x):=q1
   cases w:p x with
   | true =>
    have q2:Fe ρ1=some (h x):=q2 w
    simp[q1,w,q2,ih]
   | false=>simp[q1,w,ih]
theorem z5a(h:α→Dv):∀ xs:List α,sndL (xs.map h)=xs.map fun x=>(h x).2
 | []=>rfl
 | x::xs=>by rw[List.map_cons,sndL,z5a h xs];rfl
theorem z7U{h:α→Dv}:∀{xs:List α},(∀ x∈xs,(h x).1.isFr=true)→z38 (xs.map h)=true
 | [],_=>rfl
 | x::xs,q=>by rw[List.map_cons,z38,q x List.mem_cons_self,z7U fun y hy=>q y (List.mem_cons_of_mem _ hy)];rfl
theorem z0j{nt:Nat}{js:List Nat}{Fi:FI}{ρ:Rho}{e:α→Dt}{h:α→Dt}{xs:List α}(hi:Fi ρ=some (xs.map e))(q:∀ x∈xs,(g.put (e x) (sigD nt js ρ)).bind Fe=some (.nw,h x)):z0e nt js Fi g fYes Fe ρ=some (.nw,.lst (xs.map h)):=by
 unfold z0e
 rw[hi,z0p,z7T e (fun x=>(.nw,h x)) xs q,z0p,z7U (fun x _=>rfl),z5a]
 rfl
theorem z73{nt:Nat}{js:List Nat}{Fi:FI}{ρ:Rho}{e:α→Dt}{h:α→Dt}{p:α→Bool}{xs:List α}(hi:Fi ρ=some (xs.map e))(q:∀ x∈xs,(g.put (e x) (sigD nt js ρ)).bind Fc=some (p x))(q':∀ x∈xs,p x=true→(g.put (e x) (sigD nt js ρ)).bind Fe=some (.nw,h x)):
  z0e nt js Fi g Fc Fe ρ=some (.nw,.lst ((xs.filter p).map h)):=by
 unfold z0e
 rw[hi,z0p,z4K e (fun x=>(.nw,h x)) p xs q q',z0p,z7U (fun x _=>rfl),z5a]
 rfl
theorem z9O{nt:Nat}{js:List Nat}{Fi:FI}{ρ:Rho}{e:α→Dt}{h:α→Dv}{xs:List α}(hi:Fi ρ=some (xs.map e))(q:∀ x∈xs,(g.put (e x) (sigD nt js ρ)).bind Fe=some (h x)):z0e nt js Fi g fYes Fe ρ=some (if z38 (xs.map h) then .nw else .tn,.lst (xs.map fun x=>(h x).2)):=by
 unfold z0e
 rw[hi,z0p,z7T e h xs q,z0p,z5a]
variable {F:FS}
def nextO(G:FS):Oc→Option Oc
 | .nx ρ=>G ρ
 | .ct ρ=>G ρ
 | .bk ρ=>some (.nx ρ)
 | .rt f d=>some (.rt f d)
theorem zmb{ρ:Rho}:forF g F [] ρ=some (.nx ρ):=rfl
theorem z1b{x:Dt}{xs:List Dt}{ρ:Rho}:forF g F (x::xs) ρ=((g.put x ρ).bind F).bind (nextO (forF g F xs)):=by
 rw[forF]
 cases g.put x ρ with
 | none=>rfl
 | some ρ1 =>
  show(F ρ1).bind _=(F ρ1).bind _
  congr 1
  first|done|(funext oc;cases oc<;>rfl)
theorem z5R(e:α→Dt)(R:β→γ→Rho)(step:β→α→β):∀(xs:List α) (b:β) (j:γ),(∀ b x j,x∈xs→∃ j',(g.put (e x) (R b j)).bind F=some (.nx (R (step b x) j')))→∃ j',forF g F (xs.map e) (R b j)=some (.nx (R (xs.foldl step b) j'))
 | [],b,j,_=>⟨j,rfl⟩
 | x::xs,b,j,h=>by
  obtain⟨j1,h1⟩:=h b x j List.mem_cons_self
  obtain⟨j2,h2⟩:=z5R e R step xs (step b x) j1 fun b y j hy=>h b y j (List.mem_cons_of_mem _ hy)
  refine⟨j2,?_⟩
  rw[List.map_cons,z1b,h1]
  exact h2
theorem z9P(e:α→Dt)(R:β→γ→Rho)(step:β→α→β)(P:β→Prop):∀(xs:List α) (b:β) (j:γ),P b→(∀ b x j,x∈xs→P b→P (step b x)∧∃ j',(g.put (e x) (R b j)).bind F=some (.nx (R (step b x) j')))→P (xs.foldl step b)∧∃ j',forF g F (xs.map e) (R b j)=some (.nx (R (xs.foldl step b) j'))
 | [],b,j,p,_=>⟨p,j,rfl⟩
 | x::xs,b,j,p,h=>by
  obtain⟨p1,j1,h1⟩:=h b x j List.mem_cons_self p
  obtain⟨p2,j2,h2⟩:=z9P e R step P xs (step b x) j1 p1 fun b y j hy=>h b y j (List.mem_cons_of_mem _ hy)
  refine⟨p2,j2,?_⟩
  rw[List.map_cons,z1b,h1]
  exact h2
end
abbrev LL(rows:List (List Int)):Dt := .lst (rows.map L)
abbrev TTu(rows:List (List Int)):Dt := .tup (rows.map T)
abbrev z0o(k:Int)(bills:List (List Int)):Dt := .tup [.int k,TTu bills]
theorem zmc(ns:List Int):(T ns).flat=true:=by show z1z _=true;exact z3t ns
theorem zbr:∀ rows:List (List Int),z1z (rows.map T)=true
 | []=>rfl
 | r::rows=>by rw[List.map_cons,z1z,zmc,zbr rows];rfl
theorem zq2(f:Fl)(i:Int):nrm f (.int i)=(.nw,.int i):=rfl
theorem nrm_T(f:Fl)(ns:List Int):nrm f (T ns)=(.nw,T ns):=by unfold nrm;rw[zmc];rfl
theorem zmd(ns:List Int):lfl (ns.map .int) = .nw:=by unfold lfl;rw[z3t];rfl
theorem z48(ns:List Int):newL (ns.map .int)=(.nw,L ns):=by unfold newL;rw[zmd]
theorem z5S{α:Type}(h:α→Bool):∀ xs:List α,z6l (xs.map fun x => .bl (h x))=some (xs.map h)
 | []=>rfl
 | x::xs=>by rw[List.map_cons,z6l,z5S h xs];rfl
theorem z8L:∀ xs:List Int,z4H (xs.map .int)=some xs
 | []=>rfl
 | x::xs=>by rw[List.map_cons,z4H,z8L xs];rfl
theorem z49{α β:Type}(e:α→Dt)(f:β→Dt):∀(xs:List α) (ys:List β),zipD (xs.map e) (ys.map f)=(xs.zip ys).map fun p => .tup [e p.1,f p.2]
 | [],ys=>by simp[zipD]
 | x::xs,[]=>by simp[zipD]
 | x::xs,y::ys=>by rw[List.map_cons,List.map_cons,zipD,z49 e f xs ys];rfl
theorem z0G(lo:Int)(n:Nat):z1Y lo n=(List.range n).map fun(k:Nat) => .int (lo+(k:Int)):=rfl
theorem z0T(c:Int){m:Int}(h:0<m):0≤c.fmod m∧c.fmod m<m:=⟨Int.fmod_nonneg_of_pos c h,Int.fmod_lt_of_pos c h⟩
def zbs(c m:Int):Int :=
 if m=2 then(if((c.fdiv (10 ^ 30)).fmod 2)=1 then -(c.fmod (10 ^ 30)) else c.fmod (10 ^ 30))
 else
  let wide:Int:=if m=0 then 9 else 61
  let n:=c.fmod wide
  if wide.fdiv 2<n then n-wide else n
theorem zme(c m:Int):(zbs c m).natAbs<10 ^ 30:=by
 unfold zbs
 have a1:=Int.fmod_nonneg_of_pos c (show(0:Int)<10 ^ 30 by decide)
 have a2:=Int.fmod_lt_of_pos c (show(0:Int)<10 ^ 30 by decide)
 dsimp only
 split
 · split<;>omega
 · have hw:(if m=0 then(9:Int) else 61)=9∨(if m=0 then(9:Int) else 61)=61:=by split<;>simp
   generalize (if m=0 then(9:Int) else 61)=wide at *
   have b1:=Int.fmod_nonneg_of_pos c (show(0:Int)<wide by omega)
   have b2:=Int.fmod_lt_of_pos c (show(0:Int)<wide by omega)
   split<;>omega
def z4a(ns:List Int)(at_:Int)(n:Nat)(m:Int):List Int:=(List.range n).map fun(k:Nat)=>zbs (z0i ns (at_+(k:Int))) m
theorem z5T(ns:List Int)(a:Int)(n:Nat)(m:Int):(z4a ns a n m).length=n:=by unfold z4a;simp
def z17(ns:List Int):Int:=if(z0i ns 3).fmod 7=6 then 0 else if(z0i ns 2).fmod 5<3 then 0 else if(z0i ns 2).fmod 5=3 then 1 else 2
def z6y(ns:List Int):Int:=if(z0i ns 3).fmod 7=6 then 6 else 1+(z0i ns 0).fmod 4
def z9Q(ns:List Int):Int:=if(z0i ns 3).fmod 7=6 then 8 else(z0i ns 1).fmod 5
def z1k(ns:List Int):Nat:=(if z17 ns=2 then 1+(z6y ns).fmod 2 else z6y ns).toNat
def z3W(ns:List Int):Nat:=(if z17 ns=2 then(z9Q ns).fmod 4 else z9Q ns).toNat
def z2l(ns:List Int):List (List Int):=(List.range (z3W ns)).map fun(k:Nat)=>z4a ns (8+(z1k ns:Int)*(k:Int)) (z1k ns) (z17 ns)
theorem z6z(ns:List Int):1≤z1k ns∧z1k ns≤6:=by
 have h1:=z0T (z0i ns 0) (show(0:Int)<4 by decide)
 have h2:=z0T (z6y ns) (show(0:Int)<2 by decide)
 unfold z1k
 split
 · omega
 · unfold z6y;split<;>omega
theorem zbt(ns:List Int):z3W ns≤8:=by
 have h1:=z0T (z0i ns 1) (show(0:Int)<5 by decide)
 have h2:=z0T (z9Q ns) (show(0:Int)<4 by decide)
 unfold z3W
 split
 · omega
 · unfold z9Q;split<;>omega
theorem zcK(ns:List Int):z17 ns=0∨z17 ns=1∨z17 ns=2:=by
 unfold z17
 split
 · simp
 · split
   · simp
   · split<;>simp
end L2

end
section
local macro_rules|`(tactic| omega)=>`(tactic| first|lia|omega +splitDisjunctions)
set_option linter.all false
set_option maxRecDepth 100000
namespace L2
open PySem
def addR(a b:List Int):List Int:=List.zipWith (·+·) a b
def subR(a b:List Int):List Int:=List.zipWith (· - ·) a b
def sclR(k:Int)(a:List Int):List Int:=a.map (k*·)
def z0w(n:Nat):List Int:=List.replicate n 0
def mixR(n:Nat)(rows:List (List Int))(cs:List Int):List Int:=(rows.zip cs).foldl (fun t p=>addR t (sclR p.2 p.1)) (z0w n)
def isWh:Dt→Bool
 | .int _=>true
 | _=>false
theorem z2m{a b:List Int}(h:a.length=b.length):(addR a b).length=a.length:=by unfold addR;rw[List.length_zipWith];omega
theorem z74{a b:List Int}(h:a.length=b.length):(subR a b).length=a.length:=by unfold subR;rw[List.length_zipWith];omega
theorem z0B{k:Int}{a:List Int}:(sclR k a).length=a.length:=by unfold sclR;simp
theorem z1c{n:Nat}:(z0w n).length=n:=by unfold z0w;simp
theorem z25{i j:Int}{p q:Nat}(h1:i.natAbs<2 ^ p)(h2:j.natAbs<2 ^ q)(h:p+q≤134217728):z18 i j=true:=by
 unfold z18
 have a:=zcE h1
 have b:=zcE h2
 rw[decide_eq_true (show Builtin.Int.intBits i+Builtin.Int.intBits j≤134217728 by omega)]
 rfl
theorem lt30{i:Int}(h:i.natAbs<10 ^ 30):i.natAbs<2 ^ 100:=Nat.lt_of_lt_of_le h (by decide)
theorem zmf(a b:List Int):(a.zip b).map (fun p=>Dt.int (p.1+p.2))=(addR a b).map .int:=by
 unfold addR
 rw[List.zip,]
 induction a generalizing b with
 | nil=>rfl
 | cons x a ih=>cases b with
  | nil=>rfl
  | cons y b=>have:=ih b;simp[List.zipWith]
theorem zkU(a b:List Int):(a.zip b).map (fun p=>Dt.int (p.1-p.2))=(subR a b).map .int:=by
 unfold subR
 rw[List.zip,]
 induction a generalizing b with
 | nil=>rfl
 | cons x a ih=>cases b with
  | nil=>rfl
  | cons y b=>have:=ih b;simp[List.zipWith]
theorem z7V:∀(k:Nat) (rows:List (List Int)),oksN (k+1) (rows.map L)=true
 | k,[]=>rfl
 | k,r::rows=>by rw[List.map_cons,oksN,z7V k rows,Dt.okN,z2D];rfl
theorem z9R:∀ rows:List (List Int),pys (rows.map L)=rows.map fun r => .list (r.map PyData.int)
 | []=>rfl
 | r::rows=>by rw[List.map_cons,pys,z9R rows,Dt.py,z3u];rfl
theorem z8M:∀ a b:List (List Int),PyData.eqvAll (a.map fun r => .list (r.map PyData.int)) (b.map fun r => .list (r.map PyData.int))=decide (a=b)
 | [],[]=>by simp[PyData.eqvAll]
 | [],m::ms=>by simp[PyData.eqvAll]
 | n::ns,[]=>by simp[PyData.eqvAll]
 | n::ns,m::ms=>by
  rw[List.map_cons,List.map_cons,PyData.eqvAll,z8M ns ms,PyData.eqv,z2X,Bool.eq_iff_iff]
  simp
theorem zkV(a b:List (List Int)):opNe (LL a) (LL b)=some (.nw,.bl (!decide (a=b))):=by
 unfold opNe LL
 rw[Dt.okN,Dt.okN,z7V,z7V]
 unfold eqD
 rw[Dt.py,Dt.py,z9R,z9R,PyData.eqv,z8M]
 rfl
theorem z3v{α β:Type}(g:α→β)(xs:List α)(i:Int):atI (xs.map g) i=(atI xs i).map g:=by
 unfold atI
 rw[List.length_map]
 cases ixN xs.length i with
 | none=>rfl
 | some j=>show(xs.map g)[j]?=_;rw[List.getElem?_map];rfl
theorem zmg{α:Type}{xs:List α}{i:Nat}(h:i<xs.length):atI xs (i:Int)=some xs[i]:=z4A (List.getElem?_eq_getElem h)
def Wide(n:Nat)(rows:List (List Int)):Prop:=∀ r∈rows,r.length=n
theorem zdK{n:Nat}:∀(ps:List (List Int×Int)) (t:List Int),t.length=n→(∀ p∈ps,p.1.length=n)→(ps.foldl (fun t p=>addR t (sclR p.2 p.1)) t).length=n
 | [],t,h,_=>h
 | p::ps,t,h,q=>zdK ps _ (by rw[z2m (by rw[h,z0B,q p List.mem_cons_self])];exact h) fun p hp=>q p (List.mem_cons_of_mem _ hp)
theorem z75{n:Nat}{rows:List (List Int)}{cs:List Int}(h:Wide n rows):(mixR n rows cs).length=n :=
 zdK _ _ z1c fun p hp=>h _ (List.of_mem_zip hp).1
theorem zkW(a b:List Int)(h:a.length=b.length)(f:Int→Int→Int):(List.range a.length).map (fun k=>f (a.getD k 0) (b.getD k 0))=List.zipWith f a b:=by
 apply List.ext_getElem
 · simp;omega
 · intro i h1 h2
   simp at h1
   simp[List.getD,List.getElem?_eq_getElem h1,List.getElem?_eq_getElem (show i<b.length by omega)]
theorem zmh(d:Dt):nrm .nw d=(.nw,d):=by unfold nrm;split<;>rfl
theorem run{F G:FS}{ρ ρ':Rho}{r:Option Oc}(h:F ρ=some (.nx ρ'))(k:G ρ'=r):sSeq F G ρ=r:=by
 unfold sSeq
 rw[h]
 exact k
theorem z3K{np n:Nat}{fr:Bool}{F:FS}{ds:List Dt}{f:Fl}{d:Dt}(hl:ds.length=np)(h:F (rho0 n ds)=some (.rt f d))(hf:(f.isFr||d.flat)=true):cOf np n fr F ds=some d:=by
 unfold cOf
 rw[if_pos hl,h]
 show(if(fr&&!(f.isFr||d.flat))=true then none else some d)=some d
 rw[hf]
 cases fr<;>rfl
theorem z4L{n:Nat}(h:n≤1000000):z39 (n:Int)=true:=by
 unfold z39
 rw[decide_eq_true (show -1000000≤(n:Int) by omega),decide_eq_true (show(n:Int)≤1000000 by omega)]
 rfl
theorem zkX(rows:List (List Int))(cs:List Int)(h:rows.length=cs.length):(List.range rows.length).map (fun j=>(rows.getD j [],cs.getD j 0))=rows.zip cs:=by
 apply List.ext_getElem
 · simp;omega
 · intro i h1 h2
   simp at h1
   simp[List.getD,List.getElem?_eq_getElem h1,List.getElem?_eq_getElem (show i<cs.length by omega)]
theorem zf9(n:Nat)(rows:List (List Int))(cs:List Int)(h:rows.length=cs.length):(List.range rows.length).foldl (fun t j=>addR t (sclR (cs.getD j 0) (rows.getD j []))) (z0w n)=mixR n rows cs:=by
 unfold mixR
 rw[←zkX rows cs h,List.foldl_map]
theorem zmi(a b:List Int)(k:Int)(h:a.length=b.length):(List.range a.length).map (fun i=>a.getD i 0+k*b.getD i 0)=addR a (sclR k b):=by
 unfold addR sclR
 rw[List.zipWith_map_right]
 exact zkW a b h fun x y=>x+k*y
theorem zmj(f:Nat→Int)(n:Nat):(List.range n).map (fun k=>Dt.int (f k))=((List.range n).map f).map .int:=by rw[List.map_map];rfl
theorem z76{α:Type}{xs:List α}{i:Nat}(d:α)(h:i<xs.length):xs.getD i d∈xs:=by
 simp[List.getD,List.getElem?_eq_getElem h]
theorem z1I{α:Type}{xs:List α}{i:Nat}(d:α)(h:i<xs.length):atI xs (i:Int)=some (xs.getD i d):=by
 rw[zmg h];simp[List.getD,List.getElem?_eq_getElem h]
theorem z77(ns:List Int)(a:Int)(n:Nat)(m:Int):∀ x∈z4a ns a n m,x.natAbs<10 ^ 30:=fun x hx=>by
 unfold z4a at hx
 obtain⟨k,_,rfl⟩:=List.mem_map.mp hx
 exact zme _ _
theorem zcL(ns:List Int):Wide (z1k ns) (z2l ns):=fun r hr=>by
 unfold z2l at hr
 obtain⟨k,_,rfl⟩:=List.mem_map.mp hr
 exact z5T _ _ _ _
theorem zfa(ns:List Int):∀ r∈z2l ns,∀ x∈r,x.natAbs<10 ^ 30:=fun r hr=>by
 unfold z2l at hr
 obtain⟨k,_,rfl⟩:=List.mem_map.mp hr
 exact z77 _ _ _ _
theorem zdL(ns:List Int):(z2l ns).length=z3W ns:=by unfold z2l;simp
theorem mul30{i j:Int}(h1:i.natAbs<10 ^ 30)(h2:j.natAbs<10 ^ 30):z18 i j=true:=z25 (lt30 h1) (lt30 h2) (by decide)
end L2

end
section
set_option linter.all false
set_option maxRecDepth 100000
namespace L2
open PySem
@[simp] theorem x0:∀(n:Nat) (ds:List Dt),rho0 n ds=List.map (Cell.sh false) ds++List.replicate (n-List.length ds) Cell.no:=by intros;rfl
@[simp] theorem x1:∀(F G:FS) (ρ:Rho),sSeq F G ρ=Option.bind (F ρ) (seqO G):=by intros;rfl
@[simp] theorem x2:∀(G:FS) (ρ:Rho),seqO G (Oc.nx ρ)=G ρ:=by intros;rfl
@[simp] theorem x3:∀(G:FS) (x:Oc),(∀(ρ:Rho),x=Oc.nx ρ→False)→seqO G x=some x:=by exact @L2.seqO.eq_2
@[simp] theorem x4:∀(c:FT) (F G:FS) (ρ:Rho),sIf c F G ρ=Option.bind (c ρ) fun b=>if b=true then F ρ else G ρ:=by intros;rfl
@[simp] theorem x5:∀(F:FE) (ρ:Rho),z0n F ρ=Option.bind (F ρ) fun x=>blD (Prod.snd x):=by intros;rfl
@[simp] theorem x6:∀(r:FO) (Fa Fb:FE) (ρ:Rho),
 fOp r Fa Fb ρ=Option.bind (Fa ρ) fun x=>Option.bind (Fb ρ) fun y=>r (Prod.snd x) (Prod.snd y):=by intros;rfl
@[simp] theorem x7:∀(i:Nat) (ρ:Rho),fN i ρ=zbj ρ i:=by intros;rfl
@[simp] theorem x8:∀(ρ:Rho) (i:Nat),zbj ρ i=Option.bind ρ[i]? Cell.val:=by intros;rfl
@[simp] theorem x9:Cell.val Cell.no=none:=by intros;rfl
@[simp] theorem x10:∀(f:Bool) (d:Dt),Cell.val (Cell.sh f d)=some (nrm (flOf f) d):=by intros;rfl
@[simp] theorem x11:∀(f:Bool) (ds:List Dt),Cell.val (Cell.ow f ds)=some (flOf f,Dt.lst ds):=by intros;rfl
@[simp] theorem x12:∀(f:Bool),flOf f=if f=true then Fl.fr else Fl.sh:=by intros;rfl
@[simp] theorem x13:∀(r:FB) (Fs:FA) (ρ:Rho),fBlt r Fs ρ=Option.bind (Fs ρ) fun xs=>r (sndL xs):=by intros;rfl
@[simp] theorem x14:∀(Fa:FE) (Fs:FA) (ρ:Rho),z01 Fa Fs ρ=Option.bind (Fa ρ) fun x=>Option.bind (Fs ρ) fun xs=>some (x::xs):=by intros;rfl
@[simp] theorem x15:∀(x:Rho),fNil x=some []:=by intros;rfl
@[simp] theorem x16:sndL []=[]:=by intros;rfl
@[simp] theorem x17:∀(x_1:Dv) (xs:List Dv),sndL (x_1::xs)=Prod.snd x_1::sndL xs:=by intros;rfl
@[simp] theorem x18:∀(xs:List Dt),bLen [Dt.lst xs]=some (Fl.nw,Dt.int ↑(List.length xs)):=by intros;rfl
@[simp] theorem x19:∀(xs:List Dt),bLen [Dt.tup xs]=some (Fl.nw,Dt.int ↑(List.length xs)):=by intros;rfl
@[simp] theorem x20:∀(xs:List Int),bLen [Dt.scr xs]=some (Fl.nw,Dt.int ↑(List.length xs)):=by intros;rfl
@[simp] theorem x22:∀(b:Bool),blD (Dt.bl b)=some b:=by intros;rfl
@[simp] theorem x24:truD Dt.non=some false:=by intros;rfl
@[simp] theorem x25:∀(b:Bool),truD (Dt.bl b)=some b:=by intros;rfl
@[simp] theorem x26:∀(i:Int),truD (Dt.int i)=some (i != 0):=by intros;rfl
@[simp] theorem x27:∀(ds:List Dt),truD (Dt.lst ds)=some !List.isEmpty ds:=by intros;rfl
@[simp] theorem x28:∀(ds:List Dt),truD (Dt.tup ds)=some !List.isEmpty ds:=by intros;rfl
@[simp] theorem x30:∀(F:FE) (ρ:Rho),sRet F ρ=Option.map (fun x=>Oc.rt (Prod.fst x) (Prod.snd x)) (F ρ):=by intros;rfl
@[simp] theorem x31:∀(ρ:Rho),z0A ρ=some (Oc.nx ρ):=by intros;rfl
@[simp] theorem x32:∀(Fa Fb:FE) (ρ:Rho),fAt Fa Fb ρ=Option.bind (Fa ρ) fun x=>Option.bind (Fb ρ) fun y=>opAt x y:=by intros;rfl
@[simp] theorem x33:∀(x y:Dv),
 opAt x y =
  match Prod.snd x,Prod.snd y with
  | Dt.lst ds,Dt.int i=>Option.map (nrm (Fl.item (Prod.fst x))) (atI ds i)
  | Dt.tup ds,Dt.int i=>Option.map (nrm (Fl.item (Prod.fst x))) (atI ds i)
  | Dt.scr ns,Dt.int i=>Option.map (fun n=>(Fl.nw,Dt.int n)) (atI ns i)
  | x,x_1=>none:=by intros;rfl
@[simp] theorem x34:∀(Fs:FA) (ρ:Rho),
 fLst Fs ρ =
  Option.bind (Fs ρ) fun xs =>
   if List.length xs≤1000 then some (if z45 xs=true then Fl.nw else Fl.tn,Dt.lst (sndL xs)) else none:=by intros;rfl
@[simp] theorem x35:∀(Fs:FA) (ρ:Rho),
 fTup Fs ρ =
  Option.bind (Fs ρ) fun xs =>
   if List.length xs≤1000 then
    some (if z45 xs=true then Fl.nw else if z38 xs=true then Fl.fr else Fl.sh,Dt.tup (sndL xs))
   else none:=by intros;rfl
@[simp] theorem x36:Fl.item Fl.tn=Fl.sh:=by intros;rfl
@[simp] theorem x37:∀(x:Fl),(x=Fl.tn→False)→Fl.item x=x:=by exact @L2.Fl.item.eq_2
@[simp] theorem x38:∀(d:Dt) (x:Rho),fC d x=some (Fl.nw,d):=by intros;rfl
@[simp] theorem x39:∀(F:FE) (ρ:Rho),fTru F ρ=Option.bind (F ρ) fun x=>truD (Prod.snd x):=by intros;rfl
@[simp] theorem x40:∀(F:FT) (ρ:Rho),fNot F ρ=Option.map not (F ρ):=by intros;rfl
@[simp] theorem x41:∀(F G:FT) (ρ:Rho),fAnd F G ρ=Option.bind (F ρ) fun b=>if b=true then G ρ else some false:=by intros;rfl
@[simp] theorem x42:∀(F G:FT) (ρ:Rho),fOr F G ρ=Option.bind (F ρ) fun b=>if b=true then some true else G ρ:=by intros;rfl
@[simp] theorem x43:∀(F G:FE) (ρ:Rho),
 vAnd F G ρ=Option.bind (z0n F ρ) fun b=>if b=true then G ρ else some (Fl.nw,Dt.bl false):=by intros;rfl
@[simp] theorem x44:∀(F G:FE) (ρ:Rho),vOr F G ρ=Option.bind (z0n F ρ) fun b=>if b=true then some (Fl.nw,Dt.bl true) else G ρ:=by intros;rfl
@[simp] theorem x45:∀(F:FE) (ρ:Rho),vNot F ρ=Option.map (fun b=>(Fl.nw,Dt.bl !b)) (z0n F ρ):=by intros;rfl
@[simp] theorem x46:∀(F:FE) (ρ:Rho),
 fNeg F ρ =
  Option.bind (F ρ) fun x =>
   match Prod.snd x with
   | Dt.int i=>some (Fl.nw,Dt.int (-i))
   | x=>none:=by intros;rfl
@[simp] theorem x47:∀(F:FT) (Fa Fb:FE) (ρ:Rho),fIf F Fa Fb ρ=Option.bind (F ρ) fun b=>if b=true then Fa ρ else Fb ρ:=by intros;rfl
@[simp] theorem x48:∀(T:String) (F:FE) (ρ:Rho),fIsi T F ρ=Option.map (fun x=>(Fl.nw,Dt.bl (zdz (tyN (Prod.snd x)) T))) (F ρ):=by intros;rfl
@[simp] theorem x49:∀(t T:String),zdz t T=(t==T||t == "bool" && T == "int"):=by intros;rfl
@[simp] theorem x50:tyN Dt.non = "NoneType" := by intros;rfl
@[simp] theorem x51:∀(b:Bool),tyN (Dt.bl b) = "bool" := by intros;rfl
@[simp] theorem x52:∀(i:Int),tyN (Dt.int i) = "int" := by intros;rfl
@[simp] theorem x53:∀(x_1:PySem.Str),tyN (Dt.str x_1) = "str" := by intros;rfl
@[simp] theorem x54:∀(xs:List Dt),tyN (Dt.lst xs) = "list" := by intros;rfl
@[simp] theorem x55:∀(ns:List Int),tyN (Dt.scr ns) = "list" := by intros;rfl
@[simp] theorem x56:∀(xs:List Dt),tyN (Dt.tup xs) = "tuple" := by intros;rfl
@[simp] theorem x57:∀(rels:List Nat) (i:Nat) (F:FE) (ρ:Rho),
 sSet rels i F ρ =
  Option.map (fun x=>Oc.nx (List.set (relS rels ρ) i (Cell.sh (Fl.isFr (Prod.fst x)) (Prod.snd x))))
   (F (z1H (relS rels ρ))):=by intros;rfl
@[simp] theorem x58:∀(x:Rho),relS [] x=x:=by intros;rfl
@[simp] theorem x59:∀(x:Rho) (i:Nat) (is:List Nat),relS (i::is) x=relS is (zbo x i):=by intros;rfl
@[simp] theorem x60:z1H []=[]:=by intros;rfl
@[simp] theorem x61:∀(c:Cell) (ρ:List Cell),z1H (c::ρ)=z59 c::z1H ρ:=by intros;rfl
@[simp] theorem x62:∀(f:Bool) (ds:List Dt),z59 (Cell.ow f ds)=Cell.no:=by intros;rfl
@[simp] theorem x63:∀(x:Cell),(∀(f:Bool) (ds:List Dt),x=Cell.ow f ds→False)→z59 x=x:=by exact @L2.z59.eq_2
@[simp] theorem x64:∀(fr:Bool) (c:FC) (Fs:FA) (ρ:Rho),
 z06 fr c Fs ρ=Option.bind (Fs ρ) fun xs=>Option.map (nrm (if fr=true then Fl.nw else Fl.sh)) (c (sndL xs)):=by intros;rfl
@[simp] theorem x65:Fl.isFr Fl.nw=true:=by intros;rfl
@[simp] theorem x66:Fl.isFr Fl.fr=true:=by intros;rfl
@[simp] theorem x68:Fl.isNw Fl.nw=true:=by intros;rfl
@[simp] theorem x69:∀(x:Fl),(x=Fl.nw→False)→Fl.isNw x=false:=by exact @L2.Fl.isNw.eq_2
@[simp] theorem x70:z45 []=true:=by intros;rfl
@[simp] theorem x71:∀(x_1:Dv) (xs:List Dv),z45 (x_1::xs)=(Fl.isNw (Prod.fst x_1)&&z45 xs):=by intros;rfl
@[simp] theorem x72:z38 []=true:=by intros;rfl
@[simp] theorem x73:∀(x_1:Dv) (xs:List Dv),z38 (x_1::xs)=(Fl.isFr (Prod.fst x_1)&&z38 xs):=by intros;rfl
@[simp] theorem x74:∀(F:FE) (ρ:Rho),z6m F ρ=Option.map (fun x=>Oc.nx ρ) (F ρ):=by intros;rfl
@[simp] theorem x75:∀(rels:List Nat) (Fi:FI) (g:Tg) (F:FS) (ρ:Rho),
 sFor rels Fi g F ρ=Option.bind (Fi (z1H (relS rels ρ))) fun items=>forF g F items (relS rels ρ):=by intros;rfl
@[simp] theorem x76:∀(F:FE) (ρ:Rho),iSeq F ρ=Option.bind (F ρ) fun x=>seqD (Prod.snd x):=by intros;rfl
@[simp] theorem x77:∀(ds:List Dt),seqD (Dt.lst ds)=some ds:=by intros;rfl
@[simp] theorem x78:∀(ds:List Dt),seqD (Dt.tup ds)=some ds:=by intros;rfl
@[simp] theorem x80:∀(i:Nat) (F:FE) (ρ:Rho),
 z2U i F ρ =
  Option.bind (F ρ) fun x =>
   if Fl.isNw (Prod.fst x)=true then some (Oc.nx (List.set ρ i (Cell.sh true (Prod.snd x)))) else none:=by intros;rfl
@[simp] theorem x81:∀(i:Nat) (F:FE) (ρ:Rho),
 sOwn i F ρ =
  Option.bind (F (z1H ρ)) fun x =>
   match x with
   | (Fl.nw,Dt.lst ds)=>if i<List.length ρ then some (Oc.nx (List.set ρ i (Cell.ow true ds))) else none
   | (Fl.tn,Dt.lst ds)=>if i<List.length ρ then some (Oc.nx (List.set ρ i (Cell.ow false ds))) else none
   | x=>none:=by intros;rfl
@[simp] theorem x82:∀(i:Nat) (F:FE) (ρ:Rho),
 sOwnA i F ρ =
  Option.bind (F ρ) fun x =>
   match x with
   | (Fl.nw,Dt.lst ds)=>if i<List.length ρ then some (Oc.nx (List.set ρ i (Cell.ow true ds))) else none
   | x=>none:=by intros;rfl
@[simp] theorem x83:∀(w:FW) (i:Nat) (F:FE) (ρ:Rho),
 sWr w i F ρ =
  Option.bind (z72 ρ i) fun o =>
   Option.bind (F (z1H ρ)) fun x =>
    Option.map (fun ds=>Oc.nx (List.set ρ i (Cell.ow (Prod.fst o&&Fl.isFr (Prod.fst x)) ds)))
     (w (Prod.snd o) (Prod.snd x)):=by intros;rfl
@[simp] theorem x84:∀(w:FW) (i:Nat) (F:FE) (ρ:Rho),
 sWrA w i F ρ =
  Option.bind (z72 ρ i) fun o =>
   Option.bind (F ρ) fun x =>
    if Fl.isNw (Prod.fst x)=true then
     Option.map (fun ds=>Oc.nx (List.set ρ i (Cell.ow (Prod.fst o) ds))) (w (Prod.snd o) (Prod.snd x))
    else none:=by intros;rfl
@[simp] theorem x85:∀(i:Nat) (Fj Fe:FE) (ρ:Rho),
 sPut i Fj Fe ρ =
  Option.bind (z72 ρ i) fun o =>
   Option.bind (Fe (z1H ρ)) fun x =>
    Option.bind (Fj ρ) fun j =>
     Option.bind (intD (Prod.snd j)) fun n =>
      Option.map (fun ds=>Oc.nx (List.set ρ i (Cell.ow (Prod.fst o&&Fl.isFr (Prod.fst x)) ds)))
       (setD (Prod.snd o) n (Prod.snd x)):=by intros;rfl
@[simp] theorem x86:∀(ρ:Rho) (i:Nat),
 z72 ρ i =
  match ρ[i]? with
  | some (Cell.ow f ds)=>some (f,ds)
  | x=>none:=by intros;rfl
@[simp] theorem x87:∀(F:FE) (ρ:Rho),z3s F ρ=Option.bind (F ρ) fun x=>Option.map (z3a 0) (lstD (Prod.snd x)):=by intros;rfl
@[simp] theorem x88:∀(F:FE) (ρ:Rho),iRev F ρ=Option.bind (F ρ) fun x=>Option.map List.reverse (lstD (Prod.snd x)):=by intros;rfl
@[simp] theorem x89:∀(ds:List Dt),lstD (Dt.lst ds)=some ds:=by intros;rfl
@[simp] theorem x91:∀(F G:FE) (ρ:Rho),
 iZip F G ρ =
  Option.bind (F ρ) fun x =>
   Option.bind (G ρ) fun y =>
    Option.bind (seqD (Prod.snd x)) fun xs =>
     Option.bind (seqD (Prod.snd y)) fun ys=>if List.length xs=List.length ys then some (zipD xs ys) else none:=by intros;rfl
@[simp] theorem x92:∀(F:FE) (ρ:Rho),
 z0l F ρ =
  Option.bind (F ρ) fun x =>
   Option.bind (intD (Prod.snd x)) fun j=>if z39 j=true then some (z1Y 0 (Int.toNat j)) else none:=by intros;rfl
@[simp] theorem x93:∀(i:Int),intD (Dt.int i)=some i:=by intros;rfl
@[simp] theorem x95:∀(ds:List Dt) (d:Dt),wApp ds d=if List.length ds<1000000 then some (ds++[d]) else none:=by intros;rfl
@[simp] theorem x96:∀(ds:List Dt) (d:Dt),z9K ds d=if List.length ds<1000000 then some (d::ds) else none:=by intros;rfl
@[simp] theorem x97:∀(ds:List Dt) (j:Int) (d:Dt),setD ds j d=Option.map (fun k=>List.set ds k d) (ixN (List.length ds) j):=by intros;rfl
@[simp] theorem x98:∀(xs:List Dt),bLst [Dt.lst xs]=some (newL xs):=by intros;rfl
@[simp] theorem x99:∀(xs:List Dt),bLst [Dt.tup xs]=some (newL xs):=by intros;rfl
@[simp] theorem x101:∀(xs:List Dt),bTup [Dt.lst xs]=some (if z1z xs=true then Fl.nw else Fl.sh,Dt.tup xs):=by intros;rfl
@[simp] theorem x102:∀(xs:List Dt),bTup [Dt.tup xs]=some (if z1z xs=true then Fl.nw else Fl.sh,Dt.tup xs):=by intros;rfl
@[simp] theorem x104:∀(x:Dt) (x_1:Rho) (i:Nat),Tg.put (Tg.one i) x x_1=some (List.set x_1 i (Cell.sh false x)):=by intros;rfl
@[simp] theorem x105:∀(x:Rho) (is:List Nat) (ds:List Dt),
 Tg.put (Tg.many is) (Dt.tup ds) x=if List.length ds=List.length is then some (z2A x is ds) else none:=by intros;rfl
@[simp] theorem x107:∀(x:Rho) (i:Nat) (is:List Nat) (d:Dt) (ds:List Dt),
 z2A x (i::is) (d::ds)=z2A (List.set x i (Cell.sh false d)) is ds:=by intros;rfl
@[simp] theorem x108:∀(x:Rho) (x_1:List Nat) (x_2:List Dt),
 (∀(i:Nat) (is:List Nat) (d:Dt) (ds:List Dt),x_1=i::is→x_2=d::ds→False)→z2A x x_1 x_2=x:=by exact @L2.z2A.eq_2
@[simp] theorem x109:z58 Cell.no=Cell.no:=by intros;rfl
@[simp] theorem x110:∀(f:Bool) (d:Dt),z58 (Cell.sh f d)=Cell.sh false d:=by intros;rfl
@[simp] theorem x111:∀(f:Bool) (ds:List Dt),z58 (Cell.ow f ds)=Cell.sh false (Dt.lst ds):=by intros;rfl
@[simp] theorem x112:∀(nt:Nat) (js:List Nat) (ρ:Rho),
 sigD nt js ρ =
  List.replicate nt Cell.no ++
   List.map
    (fun j =>
     match ρ[j]? with
     | some c=>z58 c
     | none=>Cell.no)
    js:=by intros;rfl
@[simp] theorem x113:∀(r r':FO) (Fa Fb Fc:FE) (ρ:Rho),
 z9A r r' Fa Fb Fc ρ =
  Option.bind (Fa ρ) fun x =>
   Option.bind (Fb ρ) fun y =>
    Option.bind (r (Prod.snd x) (Prod.snd y)) fun z =>
     Option.bind (blD (Prod.snd z)) fun k =>
      if k=true then Option.bind (Fc ρ) fun w=>r' (Prod.snd y) (Prod.snd w) else some (Fl.nw,Dt.bl false):=by intros;rfl
@[simp] theorem x114:∀(c:FC) (F:FE) (ρ:Rho),
 z6x c F ρ =
  Option.bind (F ρ) fun x =>
   Option.bind (lstD (Prod.snd x)) fun ds =>
    Option.bind (z2C c ds) fun ks =>
     if List.length ds<64∧List.Nodup ks then
      some (newL (List.map (fun x=>Prod.snd x) (z2W (List.zip ks ds))))
     else none:=by intros;rfl
@[simp] theorem x115:∀(i j:Int),opLt (Dt.int i) (Dt.int j)=some (Fl.nw,Dt.bl (decide (i<j))):=by intros;rfl
@[simp] theorem x116:∀(i j:Int),opLe (Dt.int i) (Dt.int j)=some (Fl.nw,Dt.bl (decide (i≤j))):=by intros;rfl
@[simp] theorem x117:∀(i j:Int),opGt (Dt.int i) (Dt.int j)=some (Fl.nw,Dt.bl (decide (j<i))):=by intros;rfl
@[simp] theorem x118:∀(i j:Int),opGe (Dt.int i) (Dt.int j)=some (Fl.nw,Dt.bl (decide (j≤i))):=by intros;rfl
@[simp] theorem x119:∀(i j:Int),z8D (Dt.int i) (Dt.int j)=some (Fl.nw,Dt.int (i-j)):=by intros;rfl
@[simp] theorem x120:∀(i j:Int),z1n (Dt.int i) (Dt.int j)=if z3I i j=true then some (Fl.nw,Dt.int (Int.fmod i j)) else none:=by intros;rfl
@[simp] theorem x121:∀(i j:Int),z19 (Dt.int i) (Dt.int j)=if z18 i j=true then some (Fl.nw,Dt.int (i*j)) else none:=by intros;rfl
@[simp] theorem x122:∀(i j:Int),z43 (Dt.int i) (Dt.int j)=if z2i i j=true then some (Fl.nw,Dt.int (Int.fdiv i j)) else none:=by intros;rfl
@[simp] theorem x123:∀(i j:Int),zbk (Dt.int i) (Dt.int j)=if z9z i j=true then some (Fl.nw,Dt.int (i ^ Int.toNat j)) else none:=by intros;rfl
@[simp] theorem x124:∀(i j:Int),z0y (Dt.int i) (Dt.int j)=some (Fl.nw,Dt.int (i+j)):=by intros;rfl
@[simp] theorem x125:∀(f:Fl) (i:Int),nrm f (Dt.int i)=(Fl.nw,Dt.int i):=by intros;rfl
@[simp] theorem x126:∀(f:Fl) (i:Bool),nrm f (Dt.bl i)=(Fl.nw,Dt.bl i):=by intros;rfl
@[simp] theorem x127:∀(f:Fl),nrm f Dt.non=(Fl.nw,Dt.non):=by intros;rfl
@[simp] theorem x128:∀(f:Fl) (ns:List Int),nrm f (Dt.scr ns)=(f,Dt.scr ns):=by intros;rfl
@[simp] theorem x129:∀(f:Fl) (ns:List Int),nrm f (L ns)=(f,L ns):=by intros;rfl
@[simp] theorem x130:∀(f:Fl) (ns:List (List Int)),nrm f (LL ns)=(f,LL ns):=by intros;rfl
@[simp] theorem x134:∀{α β:Type} {a:α} {f:α→Option β},Option.bind (some a) f=f a:=by intros;rfl
@[simp] theorem x135:∀{α β:Type} {f:α→Option β},Option.bind none f=none:=by intros;rfl
@[simp] theorem x136:∀{α:Type} {x:α} {xs:List α},atI (x::xs) 0=some x:=by exact @L2.atI_c0
@[simp] theorem x137:∀{α:Type} {x y:α} {xs:List α},atI (x::y::xs) 1=some y:=by exact @L2.atI_c1
@[simp] theorem x138:∀{α:Type} {x y z:α} {xs:List α},atI (x::y::z::xs) 2=some z:=by exact @L2.atI_c2
@[simp] theorem y1(ns:List Int):newL (List.map Dt.int ns)=(Fl.nw,Dt.lst (List.map Dt.int ns)):=z48 ns
@[simp] theorem y2:newL []=(Fl.nw,Dt.lst []):=rfl
@[simp] theorem y3(ns:List Int):z1z (List.map Dt.int ns)=true:=z3t ns
@[simp] theorem y4(d:Dt):nrm Fl.nw d=(Fl.nw,d):=zmh d
@[simp] theorem y5(i:Int):Dt.flat (Dt.int i)=true:=rfl
@[simp] theorem y6(i:Bool):Dt.flat (Dt.bl i)=true:=rfl
@[simp] theorem y7(f:Fl)(ds:List Dt):nrm f (Dt.lst ds)=(f,Dt.lst ds):=rfl
@[simp] theorem y8:z1z []=true:=rfl
@[simp] theorem y9(d:Dt)(ds:List Dt):z1z (d::ds)=(d.flat&&z1z ds):=by rw[z1z]
@[simp] theorem y10(ds:List Dt):Dt.flat (Dt.lst ds)=false:=by rw[Dt.flat]
@[simp] theorem y11(ds:List Dt):Dt.flat (Dt.tup ds)=z1z ds:=by rw[Dt.flat]
@[simp] theorem y12(f:Fl)(ds:List Dt):nrm f (Dt.tup ds)=(if z1z ds=true then Fl.nw else f,Dt.tup ds):=rfl
end L2

end
section
local macro_rules|`(tactic| omega)=>`(tactic| first|lia|omega +splitDisjunctions)
set_option linter.all false
set_option maxRecDepth 100000
namespace L2
open PySem
theorem z8N{γ:Type}{g:Tg}{F:FS}(R:Nat→γ→Rho):∀(n k:Nat) (j:γ),(∀ i j,k≤i→i<k+n→∃ j',(g.put (.int (i:Int)) (R i j)).bind F=some (.nx (R (i+1) j')))→∃ j',forF g F ((List.range n).map fun(i:Nat) => .int (((k+i:Nat):Int))) (R k j)=some (.nx (R (k+n) j'))
 | 0,k,j,_=>⟨j,rfl⟩
 | n+1,k,j,h=>by
  obtain⟨j1,h1⟩:=h k j (Nat.le_refl _) (by omega)
  obtain⟨j2,h2⟩:=z8N R n (k+1) j1 fun i j hi hl=>h i j (by omega) (by omega)
  refine⟨j2,?_⟩
  rw[List.range_succ_eq_map,List.map_cons,z1b,Nat.add_zero,h1,List.map_map]
  rw[show k+(n+1)=k+1+n by omega,←h2]
  show forF g F _ (R (k+1) j1)=forF g F _ (R (k+1) j1)
  congr 1
  apply List.map_congr_left
  intro i _
  show Dt.int ((k+(i+1):Nat):Int)=_
  rw[show k+(i+1)=k+1+i by omega]
theorem zfb{γ:Type}{g:Tg}{F:FS}(R:Nat→γ→Rho)(n:Nat)(j:γ)(h:∀ i j,i<n→∃ j',(g.put (.int (i:Int)) (R i j)).bind F=some (.nx (R (i+1) j'))):∃ j',forF g F (z1Y 0 n) (R 0 j)=some (.nx (R n j')):=by
 obtain⟨j',e⟩:=z8N R n 0 j fun i j _ hi=>h i j (by omega)
 refine⟨j',?_⟩
 rw[Nat.zero_add]at e
 rw[←e,z0G]
 congr 1
@[simp] theorem y13(n:Nat)(h:n≤1000000):z39 (n:Int)=true:=z4L h
theorem getD_L(S:List (List Int)){k:Nat}(h:k<S.length):atI (S.map L) (k:Int)=some (L (S.getD k [])):=by rw[z3v,z1I [] h];rfl
end L2
namespace L2
open PySem
theorem z5b{α:Type}(xs:List α)(n:Nat):cutD xs (some (n:Int)) none=xs.drop n:=by
 unfold cutD
 rw[HT.sIx_none,HT.sIx_nat]
 by_cases h:n≤xs.length
 · rw[Nat.min_eq_left h,List.take_of_length_le (by rw[List.length_drop];omega)]
 · rw[Nat.min_eq_right (by omega),List.drop_eq_nil_of_le (by omega),List.drop_eq_nil_of_le (by omega)];simp
theorem z9S{α:Type}(xs:List α)(n:Nat):cutD xs none (some (n:Int))=xs.take n:=by
 unfold cutD
 rw[HT.sIx_none,HT.sIx_nat,List.drop_zero,Nat.sub_zero]
 by_cases h:n≤xs.length
 · rw[Nat.min_eq_left h]
 · rw[Nat.min_eq_right (by omega),List.take_of_length_le (by omega),List.take_of_length_le (by omega)]
@[simp] theorem y14(F:FE)(A B:FP)(ρ:Rho):fSl F A B ρ=(F ρ).bind fun x=>(A ρ).bind fun lo=>(B ρ).bind fun hi=>match x.2 with|.lst ds=>some (newL (cutD ds lo hi))|_=>none:=rfl
@[simp] theorem y15(F:FE)(ρ:Rho):z1G F ρ=(F ρ).bind fun x=>(intD x.2).map some:=rfl
@[simp] theorem y16(ρ:Rho):z0L ρ=some none:=rfl
theorem z1J(xs:List Int)(n:Nat):newL ((xs.map Dt.int).drop n)=(.nw,L (xs.drop n)):=by rw[←List.map_drop];exact z48 _
theorem z3w(xs:List Int)(n:Nat):newL ((xs.map Dt.int).take n)=(.nw,L (xs.take n)):=by rw[←List.map_take];exact z48 _
theorem z9T(a b:List Int)(h:a.length+b.length≤1000000):z0y (.lst (a.map Dt.int)) (.lst (b.map Dt.int))=some (.nw,L (a++b)):=by
 have:z0y (.lst (a.map Dt.int)) (.lst (b.map Dt.int))=z6W (.lst (a.map Dt.int)) (.lst (b.map Dt.int)):=rfl
 rw[this,z6W,if_pos (by simpa using h),←List.map_append,z48]
end L2

end
section
local macro_rules|`(tactic| omega)=>`(tactic| first|lia|omega +splitDisjunctions)
set_option linter.all false
namespace Lat
abbrev Vec:=Nat→Int
def Span:List Vec→Vec→Prop
 | [],v=>∀ k,v k=0
 | r::rs,v=>∃ c:Int,Span rs (fun k=>v k-c*r k)
theorem Span.congr{rs:List Vec}{v w:Vec}(h:∀ k,v k=w k)(s:Span rs v):Span rs w:=by
 have:v=w:=funext h
 rw[←this];exact s
theorem Span.zero:∀{rs:List Vec},Span rs (fun _=>0)
 | []=>fun _=>rfl
 | r::rs=>⟨0,Span.congr (fun k=>by simp) (Span.zero (rs:=rs))⟩
theorem Span.add:∀{rs:List Vec} {v w:Vec},Span rs v→Span rs w→Span rs (fun k=>v k+w k)
 | [],v,w,h1,h2=>fun k=>by show v k+w k=0;rw[h1 k,h2 k];rfl
 | r::rs,v,w,⟨c,h1⟩,⟨d,h2⟩=>⟨c+d,Span.congr (fun k=>by show _=(v k+w k)-(c+d)*r k;rw[Int.add_mul];omega) (h1.add h2)⟩
theorem Span.smul:∀{rs:List Vec} {v:Vec} (a:Int),Span rs v→Span rs (fun k=>a*v k)
 | [],v,a,h=>fun k=>by show a*v k=0;rw[h k,Int.mul_zero]
 | r::rs,v,a,⟨c,h⟩=>⟨a*c,Span.congr (fun k=>by rw[Int.mul_sub,Int.mul_assoc]) (h.smul a)⟩
theorem Span.neg{rs:List Vec}{v:Vec}(h:Span rs v):Span rs (fun k =>-v k):=Span.congr (fun k=>by omega) (h.smul (-1))
theorem Span.sub{rs:List Vec}{v w:Vec}(h1:Span rs v)(h2:Span rs w):Span rs (fun k=>v k-w k):=Span.congr (fun k=>by omega) (h1.add h2.neg)
theorem Span.head{r:Vec}{rs:List Vec}:Span (r::rs) r:=⟨1,Span.congr (fun k=>by omega) Span.zero⟩
theorem Span.cons{r:Vec}{rs:List Vec}{v:Vec}(h:Span rs v):Span (r::rs) v:=⟨0,Span.congr (fun k=>by omega) h⟩
theorem Span.mem:∀{rs:List Vec} {r:Vec},r∈rs→Span rs r
 | _::_,_,.head _=>Span.head
 | _::_,_,.tail _ h=>(Span.mem h).cons
theorem Span.least{P:Vec→Prop}(z:P (fun _=>0))(a:∀ v w,P v→P w→P (fun k=>v k+w k))(m:∀(c:Int) v,P v→P (fun k=>c*v k)):
  ∀{rs:List Vec} {v:Vec},(∀ r∈rs,P r)→Span rs v→P v
 | [],v,_,h=>by have:v=fun _=>0:=funext h;rw[this];exact z
 | r::rs,v,hr,⟨c,h⟩=>by
  have h1:=Span.least z a m (fun x hx=>hr x (List.mem_cons_of_mem _ hx)) h
  have h2:=a _ _ h1 (m c r (hr r List.mem_cons_self))
  have:v=fun k=>(v k-c*r k)+c*r k:=funext fun k=>by omega
  rw[this];exact h2
theorem Span.trans{rs ss:List Vec}{v:Vec}(h:∀ r∈rs,Span ss r)(s:Span rs v):Span ss v :=
 Span.least (P:=Span ss) Span.zero (fun _ _=>Span.add) (fun c _=>Span.smul c) h s
def SameSpan(rs ss:List Vec):Prop:=(∀ r∈rs,Span ss r)∧∀ s∈ss,Span rs s
theorem SameSpan.iff{rs ss:List Vec}(h:SameSpan rs ss){v:Vec}:Span rs v↔Span ss v:=⟨Span.trans h.1,Span.trans h.2⟩
theorem SameSpan.refl{rs:List Vec}:SameSpan rs rs:=⟨fun _=>Span.mem,fun _=>Span.mem⟩
theorem SameSpan.symm{rs ss:List Vec}(h:SameSpan rs ss):SameSpan ss rs:=⟨h.2,h.1⟩
theorem SameSpan.trans{rs ss ts:List Vec}(h:SameSpan rs ss)(g:SameSpan ss ts):SameSpan rs ts:=⟨fun r hr=>(h.1 r hr).trans g.1,fun t ht=>(g.2 t ht).trans h.2⟩
def Form:Nat→List (Nat×Vec)→Prop
 | _,[]=>True
 | f,(h,r)::rs=>f≤h∧(∀ k,k<h→r k=0)∧0<r h∧(∀ p∈rs,0≤r p.1∧r p.1<p.2 p.1)∧Form (h+1) rs
abbrev z3X(S:List (Nat×Vec)):List Vec:=S.map (·.2)
theorem Form.low:∀{f:Nat} {S:List (Nat×Vec)} {v:Vec},Form f S→Span (z3X S) v→∀ k,k<f→v k=0
 | _,[],v,_,s,k,_=>s k
 | f,(h,r)::S,v,⟨h1,h2,h3,h4,h5⟩,⟨c,s⟩,k,hk=>by
  have:=Form.low h5 s k (by omega)
  have e:r k=0:=h2 k (by omega)
  have this:v k-c*r k=0:=this
  rw[e]at this
  simpa using this
theorem Form.coef{f h:Nat}{r v:Vec}{S:List (Nat×Vec)}{c:Int}(F:Form f ((h,r)::S))(s:Span (z3X S) (fun k=>v k-c*r k)):v h=c*r h:=by
 have:v h-c*r h=0:=F.2.2.2.2.low s h (by omega)
 omega
theorem z6n{c r v:Int}(e:v=c*r)(hr:0<r)(h1 : -r<v)(h2:v<r):c=0:=by
 rcases Int.lt_trichotomy c 0 with h|h|h
 · exfalso
   have:c*r ≤ -1*r:=Int.mul_le_mul_of_nonneg_right (by omega) (by omega)
   omega
 · exact h
 · exfalso
   have:1*r≤c*r:=Int.mul_le_mul_of_nonneg_right (by omega) (by omega)
   omega
theorem Form.tail{f h:Nat}{r v:Vec}{S:List (Nat×Vec)}(F:Form f ((h,r)::S))(s:Span (z3X ((h,r)::S)) v)(z:v h=0):Span (z3X S) v:=by
 obtain⟨c,s⟩:=s
 have e:=F.coef s
 have hr:=F.2.2.1
 rw[z]at e
 have c0:c=0:=by
  rcases Int.mul_eq_zero.mp e.symm with h|h
  · exact h
  · omega
 subst c0
 exact Span.congr (fun k=>by omega) s
end Lat

end
section
set_option linter.all false
namespace Lat
theorem z3Y{α β:Type}[DecidableEq β]:∀{l:List α} {m:List β} (f:α→β),l.Nodup→(∀ x∈l,∀ y∈l,f x=f y→x=y)→(∀ x∈l,f x∈m)→l.length≤m.length
 | [],m,f,_,_,_=>Nat.zero_le _
 | x::l,m,f,hn,hi,hm=>by
  have hx:=hm x List.mem_cons_self
  have hn':=List.nodup_cons.mp hn
  have h1:l.length≤(m.erase (f x)).length:=by
   refine z3Y f hn'.2 (fun a ha b hb=>hi a (List.mem_cons_of_mem _ ha) b (List.mem_cons_of_mem _ hb)) (fun a ha=>?_)
   have hne:f a≠f x:=fun e=>by
    have:=hi a (List.mem_cons_of_mem _ ha) x List.mem_cons_self e
    subst this
    exact hn'.1 ha
   exact(List.mem_erase_of_ne hne).mpr (hm a (List.mem_cons_of_mem _ ha))
  have h2:(m.erase (f x)).length=m.length-1:=List.length_erase_of_mem hx
  have h3:0<m.length:=List.length_pos_of_mem hx
  simp only[List.length_cons]
  omega
def box:List Nat→List (List Int)
 | []=>[[]]
 | n::ns=>(List.range n).flatMap fun(i:Nat)=>(box ns).map fun t=>(i:Int)::t
def prod:List Nat→Nat
 | []=>1
 | n::ns=>n*prod ns
theorem zdM{α:Type}(g:Nat→List α)(k:Nat):∀(l:List Nat),(∀ i∈l,(g i).length=k)→(l.flatMap g).length=l.length*k
 | [],_=>by simp
 | i::l,h=>by
  rw[List.flatMap_cons,List.length_append,zdM g k l (fun j hj=>h j (List.mem_cons_of_mem _ hj)),h i List.mem_cons_self,List.length_cons,Nat.succ_mul,Nat.add_comm]
theorem z6A:∀ ns:List Nat,(box ns).length=prod ns
 | []=>rfl
 | n::ns=>by
  show((List.range n).flatMap fun(i:Nat)=>(box ns).map fun t=>(i:Int)::t).length=n*prod ns
  rw[zdM _ (prod ns) _ (fun i _=>by rw[List.length_map,z6A ns]),List.length_range]
def z1B:List Nat→List Int→Prop
 | [],[]=>True
 | n::ns,x::xs=>0≤x∧x<n∧z1B ns xs
 | _,_=>False
theorem z5U:∀{ns:List Nat} {t:List Int},t∈box ns↔z1B ns t
 | [],[]=>by simp[box,z1B]
 | [],x::t=>by simp[box,z1B]
 | n::ns,[]=>by simp[box,z1B]
 | n::ns,x::t=>by
  simp only[box,z1B,List.mem_flatMap,List.mem_range,List.mem_map,List.cons.injEq]
  constructor
  · rintro⟨i,hi,u,hu,rfl,rfl⟩
    exact⟨by omega,by omega,z5U.mp hu⟩
  · rintro⟨h0,h1,h2⟩
    exact⟨x.toNat,by omega,t,z5U.mpr h2,by omega,rfl⟩
theorem zbu:∀ ns:List Nat,(box ns).Nodup
 | []=>by simp[box]
 | n::ns=>by
  have ih:=zbu ns
  have key:∀ m,((List.range m).flatMap fun(i:Nat)=>(box ns).map fun t=>(i:Int)::t).Nodup:=by
   intro m
   induction m with
   | zero=>simp
   | succ m hm =>
    rw[List.range_succ,List.flatMap_append,List.nodup_append]
    refine⟨hm,?_,?_⟩
    · rw[List.flatMap_cons,List.flatMap_nil,List.append_nil]
      refine List.Pairwise.map _ (fun a b hab e=>hab ?_) ih
      exact(List.cons.inj e).2
    · intro a ha b hb e
      subst e
      simp only[List.mem_flatMap,List.mem_range,List.mem_map,List.mem_singleton]at ha hb
      obtain⟨i,hi,u,hu,rfl⟩:=ha
      obtain⟨j,hj,w,hw,e⟩:=hb
      have:=(List.cons.inj e).1
      omega
  exact key n
theorem zjQ{ns ms:List Nat}(f:List Int→List Int)(hi:∀ s t,z1B ns s→z1B ns t→f s=f t→s=t)(hm:∀ s,z1B ns s→z1B ms (f s)):prod ns≤prod ms:=by
 rw[←z6A ns,←z6A ms]
 exact z3Y f (zbu ns) (fun x hx y hy=>hi x y (z5U.mp hx) (z5U.mp hy)) (fun x hx=>z5U.mpr (hm x (z5U.mp hx)))
end Lat

end
section
local macro_rules|`(tactic| omega)=>`(tactic| first|lia|omega +splitDisjunctions)
set_option linter.all false
namespace Br
structure BI(a b u0 u1 u2 l0 l1 l2:Int):Prop where
 up:a*u1+b*u2=u0
 lo:a*l1+b*l2=l0
 gcd:Int.gcd u0 l0=Int.gcd a b
 p1:u0.natAbs*l1.natAbs+l0.natAbs*u1.natAbs≤a.natAbs+2*b.natAbs
 p2:u0.natAbs*l2.natAbs+l0.natAbs*u2.natAbs≤a.natAbs+2*b.natAbs
 ph:(u0=a∧u1=1∧u2=0∧l0=b∧l1=0∧l2=1)∨(0≤u0*l0∧u0≠0)
 b1:u1.natAbs≤a.natAbs+2*b.natAbs+1
 b2:u2.natAbs≤a.natAbs+2*b.natAbs+1
 b3:l1.natAbs≤a.natAbs+2*b.natAbs+1
 b4:l2.natAbs≤a.natAbs+2*b.natAbs+1
 c1:u0.natAbs≤a.natAbs+b.natAbs
 c2:l0.natAbs≤b.natAbs
theorem BI.start(a b:Int):BI a b a 1 0 b 0 1 where
 up:=by simp
 lo:=by simp
 gcd:=rfl
 p1:=by simp;omega
 p2:=by simp
 ph := .inl ⟨rfl,rfl,rfl,rfl,rfl,rfl⟩
 b1:=by simp
 b2:=by simp
 b3:=by simp
 b4:=by simp
 c1:=by omega
 c2:=by omega
theorem pot(L A R Qa u1 l1 f1 E:Nat)(hA:Qa*L+R≤A+E)(hf:f1≤u1+Qa*l1):L*f1+R*l1≤A*l1+L*u1+E*l1:=by
 have h1:L*f1≤L*(u1+Qa*l1):=Nat.mul_le_mul_left L hf
 have h2:L*(u1+Qa*l1)=L*u1+Qa*L*l1:=by
  rw[Nat.mul_add,←Nat.mul_assoc,Nat.mul_comm L Qa]
 have h3:(Qa*L+R)*l1≤(A+E)*l1:=Nat.mul_le_mul_right l1 hA
 rw[Nat.add_mul,Nat.add_mul]at h3
 omega
theorem zdN(u l:Int)(h:0<l):(u-u.fdiv l*l).natAbs<l.natAbs∧0≤l*(u-u.fdiv l*l)∧(0≤u*l→(u.fdiv l).natAbs*l.natAbs+(u-u.fdiv l*l).natAbs=u.natAbs) ∧
  (u.fdiv l).natAbs*l.natAbs≤u.natAbs+(u-u.fdiv l*l).natAbs:=by
 have hs:u.fdiv l*l=u-u.fmod l:=Int.fdiv_mul_self u l
 have hq:(u.fdiv l).natAbs*l.natAbs=(u.fdiv l*l).natAbs:=(Int.natAbs_mul _ _).symm
 have e:u-u.fdiv l*l=u.fmod l:=by omega
 rw[e,hq,hs]
 have h1:0≤u.fmod l:=Int.fmod_nonneg_of_pos u h
 have h2:u.fmod l<l:=Int.fmod_lt_of_pos u h
 refine⟨by omega,Int.mul_nonneg (by omega) h1,fun hu=>?_,by omega⟩
 have hu0:0≤u:=by
  by_cases hu':0≤u
  · exact hu'
  · have:=Int.mul_neg_of_neg_of_pos (show u<0 by omega) h
    omega
 have:u.fmod l≤u:=by
  have q1:0≤u.fdiv l:=Int.fdiv_nonneg hu0 (by omega)
  have q2:0≤u.fdiv l*l:=Int.mul_nonneg q1 (by omega)
  omega
 omega
theorem zjR(u l:Int)(hl:l≠0):(u-u.fdiv l*l).natAbs<l.natAbs∧0≤l*(u-u.fdiv l*l)∧(0≤u*l→(u.fdiv l).natAbs*l.natAbs+(u-u.fdiv l*l).natAbs=u.natAbs) ∧
   (u.fdiv l).natAbs*l.natAbs≤u.natAbs+(u-u.fdiv l*l).natAbs:=by
 rcases Int.lt_or_gt_of_ne hl with h|h
 · have q:=zdN (-u) (-l) (by omega)
   rw[Int.neg_fdiv_neg]at q
   have e : -u-u.fdiv l * -l = -(u-u.fdiv l*l):=by rw[Int.mul_neg];omega
   rw[e,Int.natAbs_neg,Int.natAbs_neg,Int.natAbs_neg,Int.neg_mul_neg,Int.neg_mul_neg]at q
   exact q
 · exact zdN u l h
theorem z9U{a b c:Nat}(h:a*b≤c)(ha:a≠0):b≤c:=Nat.le_trans (Nat.le_mul_of_pos_left b (Nat.pos_of_ne_zero ha)) h
theorem zjS(u q l:Int):(u-q*l).natAbs≤u.natAbs+q.natAbs*l.natAbs:=by
 have:=Int.natAbs_mul q l
 omega
theorem BI.turn{a b u0 u1 u2 l0 l1 l2:Int}(h:BI a b u0 u1 u2 l0 l1 l2)(hl:l0≠0):
   BI a b l0 l1 l2 (u0-u0.fdiv l0*l0) (u1-u0.fdiv l0*l1) (u2-u0.fdiv l0*l2):=by
 obtain⟨r1,r2,r3,r4⟩:=zjR u0 l0 hl
 have hL:l0.natAbs≠0:=fun e=>hl (Int.natAbs_eq_zero.mp e)
 have hup:=h.up
 have hlo:=h.lo
 generalize eq:u0.fdiv l0=q at *
 have lin:∀(x y:Int),a*(x-q*l1)+b*(y-q*l2)=(a*x+b*y)-q*(a*l1+b*l2):=fun x y=>by
   rw[Int.mul_sub,Int.mul_sub,Int.mul_add,Int.mul_left_comm a q l1,Int.mul_left_comm b q l2];omega
 have f1:(u1-q*l1).natAbs≤u1.natAbs+q.natAbs*l1.natAbs:=zjS u1 q l1
 have f2:(u2-q*l2).natAbs≤u2.natAbs+q.natAbs*l2.natAbs:=zjS u2 q l2
 have key:∀(x y f:Nat),f≤x+q.natAbs*y→u0.natAbs*y+l0.natAbs*x≤a.natAbs+2*b.natAbs→((0≤u0*l0)∨(y=0)∨(y=1∧x=0∧u0=a∧l0=b)) →
     l0.natAbs*f+(u0-q*l0).natAbs*y≤a.natAbs+2*b.natAbs:=fun x y f hf hp hc=>by
   rcases hc with hc|hc|⟨hc,hx,ha,hb⟩
   · have:=pot l0.natAbs u0.natAbs (u0-q*l0).natAbs q.natAbs x y f 0 (by have:=r3 hc;omega) hf
     omega
   · subst hc
     have:l0.natAbs*f≤l0.natAbs*x:=Nat.mul_le_mul_left _ (by omega)
     omega
   · subst hc;subst hx
     have:=pot l0.natAbs u0.natAbs (u0-q*l0).natAbs q.natAbs 0 1 f (2*(u0-q*l0).natAbs) (by omega) hf
     have hab:u0.natAbs=a.natAbs:=by rw[ha]
     have hbb:l0.natAbs=b.natAbs:=by rw[hb]
     generalize (u0-q*l0).natAbs=R at *
     generalize l0.natAbs*f=Z at *
     omega
 have ph1:0≤u0*l0∨l1.natAbs=0∨(l1.natAbs=1∧u1.natAbs=0∧u0=a∧l0=b):=by
   rcases h.ph with⟨_,_,_,_,e,_⟩|⟨e,_⟩
   · exact .inr (.inl (by rw[e];rfl))
   · exact .inl e
 have ph2:0≤u0*l0∨l2.natAbs=0∨(l2.natAbs=1∧u2.natAbs=0∧u0=a∧l0=b):=by
   rcases h.ph with⟨e1,_,e2,e3,_,e4⟩|⟨e,_⟩
   · exact .inr (.inr ⟨by rw[e4];rfl,by rw[e2];rfl,e1,e3⟩)
   · exact .inl e
 have k1:=key _ _ _ f1 h.p1 ph1
 have k2:=key _ _ _ f2 h.p2 ph2
 have c2:=h.c2
 refine⟨hlo,?_,?_,k1' k1,k1' k2,.inr ⟨r2,hl⟩,h.b3,h.b4,?_,?_,by omega,by omega⟩
 · rw[lin,hup,hlo]
 · rw[Int.gcd_sub_mul_right_right,Int.gcd_comm,h.gcd]
 · exact Nat.le_succ_of_le (z9U (Nat.le_trans (Nat.le_add_right _ _) k1) hL)
 · exact Nat.le_succ_of_le (z9U (Nat.le_trans (Nat.le_add_right _ _) k2) hL)
where k1' {x y:Nat} (h:x≤y):x≤y:=h
theorem BI.fin{a b u0 u1 u2 l1 l2:Int}(h:BI a b u0 u1 u2 0 l1 l2):(u0.natAbs:Int)=Int.gcd a b:=by
 have:=h.gcd
 rw[Int.gcd_zero_right]at this
 rw[this]
end Br

end
section
set_option linter.all false
set_option maxRecDepth 100000
namespace St
abbrev Row:=List Int
def at0(r:Row)(k:Nat):Int:=r.getD k 0
def z02:Row→Nat
 | []=>0
 | x::r=>if x=0 then z02 r+1 else 0
theorem z7W:∀ r:Row,z02 r≤r.length
 | []=>Nat.le_refl _
 | x::r=>by
  unfold z02
  split
  · exact Nat.succ_le_succ (z7W r)
  · exact Nat.zero_le _
theorem z0q:∀(r:Row) (k:Nat),k<z02 r→at0 r k=0
 | [],k,h=>by simp[z02]at h
 | x::r,k,h=>by
  unfold z02 at h
  split at h
  · rename_i hx
    cases k with
    | zero=>simp[at0,hx]
    | succ k=>exact z0q r k (by omega)
  · omega
theorem z78:∀(r:Row),z02 r<r.length→at0 r (z02 r)≠0
 | [],h=>by simp[z02]at h
 | x::r,h=>by
  unfold z02 at h ⊢
  split at h
  · rename_i hx
    rw[if_pos hx]
    exact z78 r (by simpa using h)
  · rename_i hx
    rw[if_neg hx]
    exact hx
theorem z2E:∀(r:Row) (h:Nat),(∀ k,k<h→at0 r k=0)→at0 r h≠0→z02 r=h
 | [],h,_,q=>by simp[at0]at q
 | x::r,0,_,q=>by
  unfold z02
  rw[if_neg (by simpa[at0]using q)]
 | x::r,h+1,z,q=>by
  have hx:x=0:=by simpa[at0]using z 0 (by omega)
  unfold z02
  rw[if_pos hx,z2E r h (fun k hk=>by simpa[at0]using z (k+1) (by omega)) (by simpa[at0]using q)]
theorem zkY(r:Row)(h:Nat)(z:∀ k,k<h→at0 r k=0)(hl:h≤r.length):h≤z02 r:=by
 apply Nat.le_of_not_lt
 intro hlt
 exact z78 r (by omega) (z _ hlt)
theorem z0Y{r:Row}{k:Nat}(h:r.length≤k):at0 r k=0:=by simp[at0,List.getD,List.getElem?_eq_none h]
theorem ext0{a b:Row}(h:a.length=b.length)(q:∀ k,at0 a k=at0 b k):a=b:=by
 apply List.ext_getElem h
 intro i h1 h2
 have:=q i
 simpa[at0,List.getD,List.getElem?_eq_getElem h1,List.getElem?_eq_getElem h2]using this
def sub(a:Row)(q:Int)(b:Row):Row:=List.zipWith (fun x y=>x-q*y) a b
theorem z23{a b:Row}{q:Int}(h:a.length=b.length):(sub a q b).length=a.length:=by unfold sub;rw[List.length_zipWith];omega
theorem z1R{a b:Row}{q:Int}(h:a.length=b.length)(k:Nat):at0 (sub a q b) k=at0 a k-q*at0 b k:=by
 by_cases hk:k<a.length
 · unfold at0 sub
   simp[List.getD,List.getElem?_zipWith,List.getElem?_eq_getElem hk,List.getElem?_eq_getElem (show k<b.length by omega)]
 · rw[z0Y (by rw[z23 h];omega),z0Y (by omega),z0Y (show b.length≤k by omega)];simp
def lin(x:Int)(a:Row)(y:Int)(b:Row):Row:=List.zipWith (fun p q=>x*p+y*q) a b
theorem z9f{a b:Row}{x y:Int}(h:a.length=b.length):(lin x a y b).length=a.length:=by unfold lin;rw[List.length_zipWith];omega
theorem z9g{a b:Row}{x y:Int}(h:a.length=b.length)(k:Nat):at0 (lin x a y b) k=x*at0 a k+y*at0 b k:=by
 by_cases hk:k<a.length
 · unfold at0 lin
   simp[List.getD,List.getElem?_zipWith,List.getElem?_eq_getElem hk,List.getElem?_eq_getElem (show k<b.length by omega)]
 · rw[z0Y (by rw[z9f h];omega),z0Y (by omega),z0Y (show b.length≤k by omega)];simp
def hd(r:Row):Int:=at0 r (z02 r)
def z0Q(left rung:Row):Int:=(at0 left (z02 rung)).fdiv (hd rung)
def z0f:Row→List Row→Row
 | left,[]=>left
 | left,r::rs=>z0f (sub left (z0Q left r) r) rs
def z9V:Row→List Row→List Int
 | _,[]=>[]
 | left,r::rs=>z0Q left r::z9V (sub left (z0Q left r) r) rs
def Asc(n:Nat):Nat→List Row→Prop
 | _,[]=>True
 | f,r::rs=>r.length=n∧f≤z02 r∧z02 r<n∧0<hd r∧Asc n (z02 r+1) rs
theorem Asc.weak{n:Nat}:∀{f g:Nat} {S:List Row},Asc n f S→g≤f→Asc n g S
 | _,_,[],_,_=>trivial
 | _,_,r::rs,⟨h1,h2,h3,h4,h5⟩,h=>⟨h1,Nat.le_trans h h2,h3,h4,h5⟩
theorem Asc.mem{n:Nat}:∀{f:Nat} {S:List Row} {r:Row},Asc n f S→r∈S→r.length=n∧f≤z02 r∧z02 r<n∧0<hd r
 | _,_::_,_,⟨h1,h2,h3,h4,h5⟩,.head _=>⟨h1,h2,h3,h4⟩
 | _,_::_,_,⟨h1,h2,h3,h4,h5⟩,.tail _ q=>by obtain⟨a,b,c,d⟩:=h5.mem q;exact⟨a,by omega,c,d⟩
theorem z1K{n:Nat}:∀{f:Nat} {S:List Row} {left:Row},Asc n f S→left.length=n→(z0f left S).length=n
 | _,[],left,_,h=>h
 | _,r::rs,left,⟨h1,h2,h3,h4,h5⟩,h=>by rw[z0f];exact z1K h5 (by rw[z23 (by omega)];exact h)
theorem z4M{n:Nat}:∀{f:Nat} {S:List Row} {left:Row},Asc n f S→left.length=n→∀ k,k<f→at0 (z0f left S) k=at0 left k
 | _,[],left,_,h,k,_=>rfl
 | f,r::rs,left,⟨h1,h2,h3,h4,h5⟩,h,k,hk=>by
  rw[z0f,z4M h5 (by rw[z23 (by omega)];exact h) k (by omega),z1R (by omega),z0q r k (by omega)]
  simp
theorem z7X(a:Int){b:Int}(h:0<b):0≤a-a.fdiv b*b∧a-a.fdiv b*b<b:=by
 have h1:=Int.fmod_nonneg_of_pos a h
 have h2:=Int.fmod_lt_of_pos a h
 have h3:=Int.mul_fdiv_add_fmod a b
 rw[Int.mul_comm]at h3
 omega
theorem z2a{n:Nat}:∀{f:Nat} {S:List Row} {left:Row},Asc n f S→left.length=n→∀ r∈S,0≤at0 (z0f left S) (z02 r)∧at0 (z0f left S) (z02 r)<hd r
 | f,r::rs,left,⟨h1,h2,h3,h4,h5⟩,h,x,hx=>by
  have hl:(sub left (z0Q left r) r).length=n:=by rw[z23 (by omega)];exact h
  rw[z0f]
  cases hx with
  | head =>
   rw[z4M h5 hl _ (Nat.lt_succ_self _),z1R (by omega)]
   exact z7X _ h4
  | tail _ hx=>exact z2a h5 hl x hx
def Lt(m:Nat)(r:Row):Prop:=∀ k,(at0 r k).natAbs<m
theorem Lt.mono{m m':Nat}{r:Row}(h:Lt m r)(q:m≤m'):Lt m' r:=fun k=>Nat.lt_of_lt_of_le (h k) q
theorem z4b(a:Int){b:Int}(h:0<b):(a.fdiv b).natAbs≤a.natAbs:=by
 have h1:=z7X a h
 generalize a.fdiv b=q at *
 rcases Int.lt_trichotomy q 0 with hq|hq|hq
 · have e:(q+1)*b=q*b+b:=by rw[Int.add_mul];omega
   have:(q+1)*b≤(q+1)*1:=Int.mul_le_mul_of_nonpos_left (by omega) (by omega)
   omega
 · subst hq;simp
 · have:q*1≤q*b:=Int.mul_le_mul_of_nonneg_left (by omega) (by omega)
   omega
theorem sub_lt{a b:Row}{q:Int}{s t u:Nat}(hl:a.length=b.length)(ha:Lt s a)(hb:Lt t b)(hq:q.natAbs≤u)(hs:0<s)(ht:0<t):Lt (s+u*t) (sub a q b):=fun k=>by
 rw[z1R hl]
 have h1:=ha k
 have h2:=hb k
 have h3:(q*at0 b k).natAbs≤u*(t-1):=by rw[Int.natAbs_mul];exact Nat.mul_le_mul hq (by omega)
 have h4:u*(t-1)≤u*t:=Nat.mul_le_mul_left _ (by omega)
 omega
theorem zmk{left r:Row}{s t:Nat}(hl:left.length=r.length)(hr:0<hd r)(ha:Lt s left)(hb:Lt t r):Lt (s*(t+1)) (sub left (z0Q left r) r):=by
 have hs:0<s:=Nat.lt_of_le_of_lt (Nat.zero_le _) (ha 0)
 have ht:0<t:=Nat.lt_of_le_of_lt (Nat.zero_le _) (hb 0)
 have:=sub_lt (q:=z0Q left r) (u:=s) hl ha hb (Nat.le_trans (z4b (at0 left (z02 r)) hr) (Nat.le_of_lt (ha (z02 r)))) hs ht
 rw[Nat.mul_add,Nat.mul_one,Nat.add_comm]
 exact this
end St

end
section
local macro_rules|`(tactic| omega)=>`(tactic| first|lia|omega +splitDisjunctions)
set_option linter.all false
set_option maxRecDepth 100000
namespace St
open Lat
abbrev vec(r:Row):Vec:=fun k=>at0 r k
abbrev vecs(S:List Row):List Vec:=S.map vec
theorem z9W{S:List Row}{r:Row}(h:r∈S):vec r∈vecs S:=List.mem_map.mpr ⟨r,h,rfl⟩
theorem z1t{n:Nat}:∀{f:Nat} {S:List Row} {left:Row},Asc n f S→left.length=n→Span (vecs S) (fun k=>at0 left k-at0 (z0f left S) k)
 | _,[],left,_,h=>fun k=>by show at0 left k-at0 left k=0;omega
 | f,r::rs,left,⟨h1,h2,h3,h4,h5⟩,h=>by
  have hl:(sub left (z0Q left r) r).length=n:=by rw[z23 (by omega)];exact h
  have ih:=z1t h5 hl
  refine⟨z0Q left r,Span.congr (fun k=>?_) ih⟩
  rw[z0f]
  show at0 (sub left (z0Q left r) r) k-at0 (z0f (sub left (z0Q left r) r) rs) k=at0 left k-at0 (z0f (sub left (z0Q left r) r) rs) k-z0Q left r*at0 r k
  rw[z1R (by omega)]
  omega
def mix:List Row→List Int→Vec
 | r::rs,c::cs=>fun k=>c*at0 r k+mix rs cs k
 | _,_=>fun _=>0
theorem Asc.low{n:Nat}:∀{f:Nat} {S:List Row} {v:Vec},Asc n f S→Span (vecs S) v→∀ k,k<f→v k=0
 | _,[],v,_,s,k,_=>s k
 | f,r::S,v,⟨h1,h2,h3,h4,h5⟩,⟨c,s⟩,k,hk=>by
  have e:=Asc.low h5 s k (by omega)
  have e2:at0 r k=0:=z0q r k (by omega)
  have e:v k-c*at0 r k=0:=e
  rw[e2]at e
  simpa using e
theorem Asc.coef{n f:Nat}{r:Row}{v:Vec}{S:List Row}{c:Int}(A:Asc n f (r::S))(s:Span (vecs S) (fun k=>v k-c*at0 r k)):v (z02 r)=c*hd r:=by
 have:v (z02 r)-c*at0 r (z02 r)=0:=A.2.2.2.2.low s _ (Nat.lt_succ_self _)
 unfold hd
 omega
theorem Asc.first{n:Nat}:∀{f:Nat} {S:List Row} {v:Vec} {h:Nat},Asc n f S→Span (vecs S) v→(∀ k,k<h→v k=0)→v h≠0→∃ r∈S,z02 r=h
 | _,[],v,h,_,s,_,q=>absurd (s h) q
 | f,r::S,v,h,A,⟨c,s⟩,z,q=>by
  have e:=A.coef s
  by_cases hc:c=0
  · subst hc
    have s':Span (vecs S) v:=Span.congr (fun k=>by simp) s
    obtain⟨x,hx,e⟩:=A.2.2.2.2.first s' z q
    exact⟨x,List.mem_cons_of_mem _ hx,e⟩
  · have hn:v (z02 r)≠0:=by
      rw[e]
      intro z
      rcases Int.mul_eq_zero.mp z with z|z
      · exact hc z
      · have:=A.2.2.2.1;omega
    have h1:¬z02 r<h:=fun z'=>hn (z _ z')
    by_cases h2:h<z02 r
    · exfalso
      have e2:v h-c*at0 r h=0:=A.2.2.2.2.low s h (by omega)
      rw[z0q r h h2]at e2
      exact q (by simpa using e2)
    · exact⟨r,List.mem_cons_self,by omega⟩
def even:List Row→List Row
 | []=>[]
 | r::rs=>z0f r (even rs)::even rs
theorem z3g{n:Nat}:∀{f:Nat} {S:List Row},Asc n f S→Asc n f (even S)∧(even S).map z02=S.map z02∧(even S).map hd=S.map hd
 | _,[],_=>⟨trivial,rfl,rfl⟩
 | f,r::rs,⟨h1,h2,h3,h4,h5⟩=>by
  obtain⟨i1,i2,i3⟩:=z3g h5
  have low:=z4M i1 h1
  have e1:at0 (z0f r (even rs)) (z02 r)=hd r:=low _ (Nat.lt_succ_self _)
  have e2:z02 (z0f r (even rs))=z02 r:=z2E _ _ (fun k hk=>by rw[low k (by omega)];exact z0q r k hk) (by rw[e1];omega)
  have e3:hd (z0f r (even rs))=hd r:=by unfold hd;rw[e2];exact e1
  refine⟨⟨z1K i1 h1,by rw[e2];exact h2,by rw[e2];exact h3,by rw[e3];exact h4,by rw[e2];exact i1⟩,?_,?_⟩
  · rw[even,List.map_cons,List.map_cons,e2,i2]
  · rw[even,List.map_cons,List.map_cons,e3,i3]
def z1i(S:List Row):List (Nat×Vec):=S.map fun r=>(z02 r,vec r)
theorem zbv{n:Nat}:∀{f:Nat} {S:List Row},Asc n f S→Form f (z1i (even S))
 | _,[],_=>trivial
 | f,r::rs,A=>by
  obtain⟨j1,_,_⟩:=z3g A
  obtain⟨h1,h2,h3,h4,h5⟩:=A
  obtain⟨i1,i2,i3⟩:=z3g h5
  obtain⟨k1,k2,k3,k4,k5⟩:=j1
  have low:=z4M i1 h1
  have e1:at0 (z0f r (even rs)) (z02 r)=hd r:=low _ (Nat.lt_succ_self _)
  have e2:z02 (z0f r (even rs))=z02 r:=z2E _ _ (fun k hk=>by rw[low k (by omega)];exact z0q r k hk) (by rw[e1];omega)
  refine⟨k2,fun k hk=>z0q _ k hk,k4,fun p hp=>?_,by rw[e2];exact zbv h5⟩
  obtain⟨x,hx,rfl⟩:=List.mem_map.mp hp
  exact z2a i1 h1 x hx
theorem zbw{n:Nat}:∀{f:Nat} {S:List Row},Asc n f S→SameSpan (vecs (even S)) (vecs S)
 | _,[],_=>SameSpan.refl
 | f,r::rs,A=>by
  obtain⟨h1,h2,h3,h4,h5⟩:=A
  obtain⟨i1,i2,i3⟩:=z3g h5
  have ih:=zbw h5
  have sp:=z1t i1 h1
  constructor
  · intro v hv
    obtain⟨x,hx,rfl⟩:=List.mem_map.mp hv
    rcases List.mem_cons.mp hx with rfl|hx
    · refine⟨1,Span.congr (fun k=>?_) ((ih.iff.mp sp).neg)⟩
      show -(at0 r k-at0 (z0f r (even rs)) k)=at0 (z0f r (even rs)) k-1*at0 r k
      omega
    · exact(ih.1 _ (z9W hx)).cons
  · intro v hv
    obtain⟨x,hx,rfl⟩:=List.mem_map.mp hv
    rcases List.mem_cons.mp hx with rfl|hx
    · refine⟨1,Span.congr (fun k=>?_) sp⟩
      show at0 x k-at0 (z0f x (even rs)) k=at0 x k-1*at0 (z0f x (even rs)) k
      omega
    · exact(ih.2 _ (z9W hx)).cons
end St

end
section
local macro_rules|`(tactic| omega)=>`(tactic| first|lia|omega +splitDisjunctions)
set_option linter.all false
set_option maxRecDepth 100000
namespace St
open Lat
theorem Asc.iff{n:Nat}:∀{f:Nat} {S:List Row},Asc n f S↔(∀ r∈S,r.length=n∧f≤z02 r∧z02 r<n∧0<hd r)∧(S.map z02).Pairwise (·<·)
 | f,[]=>by simp[Asc]
 | f,r::rs=>by
  constructor
  · intro A
    refine⟨fun x hx=>A.mem hx,?_⟩
    rw[List.map_cons,List.pairwise_cons]
    refine⟨fun h hh=>?_,(Asc.iff.mp A.2.2.2.2).2⟩
    obtain⟨x,hx,rfl⟩:=List.mem_map.mp hh
    exact(A.2.2.2.2.mem hx).2.1
  · rintro⟨h1,h2⟩
    rw[List.map_cons,List.pairwise_cons]at h2
    have q:=h1 r List.mem_cons_self
    refine⟨q.1,q.2.1,q.2.2.1,q.2.2.2,Asc.iff.mpr ⟨fun x hx=>?_,h2.2⟩⟩
    have q2:=h1 x (List.mem_cons_of_mem _ hx)
    exact⟨q2.1,h2.1 _ (List.mem_map.mpr ⟨x,hx,rfl⟩),q2.2.2.1,q2.2.2.2⟩
theorem sub_zero{a b:Row}(h:a.length=b.length):sub a 0 b=a:=ext0 (z23 h) fun k=>by rw[z1R h];simp
theorem z5c{n:Nat}{t:Nat}:∀{S:List Row} {left:Row},(∀ r∈S,r.length=n)→left.length=n→(∀ k,k<t→at0 left k=0)→(∀ k,k<t→at0 (z0f left S) k=0)∧(z0f left S).length=n
 | [],left,_,hl,z=>⟨z,hl⟩
 | r::rs,left,hw,hl,z=>by
  have h1:=hw r List.mem_cons_self
  rw[z0f]
  refine z5c (fun x hx=>hw x (List.mem_cons_of_mem _ hx)) (by rw[z23 (by omega)];exact hl) fun k hk=>?_
  rw[z1R (by omega),z k hk]
  by_cases hh:z02 r<t
  · have:z0Q left r=0:=by unfold z0Q;rw[z _ hh];simp
    rw[this];simp
  · rw[z0q r k (by omega)];simp
def LowB(m:Nat):Row→List Row→Prop
 | _,[]=>True
 | left,r::rs=>(z0Q left r=0∨((z0Q left r).natAbs<2 ^ m∧Lt (2 ^ m) r))∧LowB m (sub left (z0Q left r) r) rs
theorem z2b{n t s e m:Nat}:∀{S:List Row} {left:Row},(∀ r∈S,r.length=n∧0<hd r)→left.length=n→(∀ k,k<t→at0 left k=0)→(∀ r∈S,t≤z02 r→Lt (2 ^ e) r)→Lt (2 ^ s) left→s+S.length*(e+1)≤m→e≤m →
  Lt (2 ^ (s+S.length*(e+1))) (z0f left S)∧LowB m left S
 | [],left,_,hl,z,_,hs,_,_=>⟨by simpa[z0f]using hs,trivial⟩
 | r::rs,left,hw,hl,z,hb,hs,hm,hem=>by
  have h1:=hw r List.mem_cons_self
  have lenE:(r::rs).length*(e+1)=rs.length*(e+1)+(e+1):=by rw[List.length_cons,Nat.succ_mul]
  have e2:∀ q,(sub left q r).length=n:=fun q=>by rw[z23 (by omega)];exact hl
  by_cases hh:z02 r<t
  · have o:z0Q left r=0:=by unfold z0Q;rw[z _ hh];simp
    have es:sub left (z0Q left r) r=left:=by rw[o];exact sub_zero (by omega)
    obtain⟨i1,i2⟩:=z2b (t:=t) (s:=s) (e:=e) (m:=m) (S:=rs) (left:=left) (fun x hx=>hw x (List.mem_cons_of_mem _ hx)) hl z (fun x hx=>hb x (List.mem_cons_of_mem _ hx)) hs (by omega) hem
    rw[z0f,LowB,es]
    exact⟨i1.mono (Nat.pow_le_pow_right (by decide) (by omega)),.inl o,i2⟩
  · have hr:Lt (2 ^ e) r:=hb r List.mem_cons_self (by omega)
    have st:=zmk (s:=2 ^ s) (t:=2 ^ e) (by omega) h1.2 hs hr
    have st':Lt (2 ^ (s+(e+1))) (sub left (z0Q left r) r):=by
     refine st.mono ?_
     rw[Nat.pow_add]
     refine Nat.mul_le_mul_left _ ?_
     have:0<2 ^ e:=Nat.two_pow_pos e
     rw[Nat.pow_succ];omega
    obtain⟨i1,i2⟩:=z2b (t:=t) (s:=s+(e+1)) (e:=e) (m:=m) (S:=rs) (left:=sub left (z0Q left r) r) (fun x hx=>hw x (List.mem_cons_of_mem _ hx)) (e2 _)
     (fun k hk=>by rw[z1R (by omega),z k hk,z0q r k (by omega)];simp) (fun x hx=>hb x (List.mem_cons_of_mem _ hx)) st' (by omega) hem
    rw[z0f,LowB]
    refine⟨i1.mono (Nat.pow_le_pow_right (by decide) (by omega)),.inr ⟨?_,hr.mono (Nat.pow_le_pow_right (by decide) hem)⟩,i2⟩
    refine Nat.lt_of_le_of_lt (z4b (at0 left (z02 r)) h1.2) (Nat.lt_of_lt_of_le (hs _) (Nat.pow_le_pow_right (by decide) (by omega)))
def z0I(r left:Row)(x y:Int):Row:=lin x r y left
def z1j(r left:Row)(g:Int):Row:=lin ((at0 r (z02 r)).fdiv g) left (-((at0 left (z02 r)).fdiv g)) r
structure Wi(n e eh m0 kk:Nat)(S0:List Row)(v:Row)(S:List Row)(left:Row):Prop where
 asc:Asc n 0 S
 len:left.length=n
 heads:S.map z02=S0.map z02
 span:SameSpan (vecs (left::S)) (vecs (v::S0))
 low:∀ r∈S,0≤at0 left (z02 r)∧at0 left (z02 r)<hd r
 right:∀ r∈S,z02 left≤z02 r→Lt (2 ^ e) r
 hds:∀ r∈S,hd r<2 ^ eh
 size:Lt (2 ^ (m0+z02 left*kk)) left
 all:∀ r∈S,Lt (2 ^ (e+3+(m0+z02 left*kk))) r
theorem zml{a b:Row}{x y:Int}{p q s:Nat}(h:a.length=b.length)(hx:x.natAbs<2 ^ p)(hy:y.natAbs<2 ^ p)(ha:Lt (2 ^ q) a)(hb:Lt (2 ^ q) b)(hs:p+q+1≤s):Lt (2 ^ s) (lin x a y b):=fun k=>by
 rw[z9g h]
 have h1:(x*at0 a k).natAbs<2 ^ (p+q):=by
  rw[Int.natAbs_mul,Nat.pow_add]
  exact Nat.mul_lt_mul'' hx (ha k)
 have h2:(y*at0 b k).natAbs<2 ^ (p+q):=by
  rw[Int.natAbs_mul,Nat.pow_add]
  exact Nat.mul_lt_mul'' hy (hb k)
 have h3:2 ^ (p+q+1)≤2 ^ s:=Nat.pow_le_pow_right (by decide) hs
 rw[Nat.pow_succ]at h3
 omega +splitDisjunctions
theorem z0h{S:List Row}{r:Row}(h:r∈S):Span (vecs S) (fun k=>at0 r k):=Span.mem (z9W h)
theorem z79{T:List Vec}{u v:Vec}(x y:Int)(hu:Span T u)(hv:Span T v):Span T (fun k=>x*u k+y*v k):=(hu.smul x).add (hv.smul y)
theorem z5V{A B:List Row}(h1:∀ r∈A,Span (vecs B) (fun k=>at0 r k))(h2:∀ r∈B,Span (vecs A) (fun k=>at0 r k)):SameSpan (vecs A) (vecs B):=by
 constructor
 · intro v hv
   obtain⟨r,hr,rfl⟩:=List.mem_map.mp hv
   exact h1 r hr
 · intro v hv
   obtain⟨r,hr,rfl⟩:=List.mem_map.mp hv
   exact h2 r hr
theorem Wi.step{n e eh m0 kk:Nat}{S0:List Row}{v:Row}{S1 S2:List Row}{r left:Row}{g x y:Int}(I:Wi n e eh m0 kk S0 v (S1++r::S2) left)(hh:z02 r=z02 left)(hn:z02 left<n)
   (hg:0<g) (ga:g∣hd r) (gb:g∣at0 left (z02 r)) (hxy:hd r*x+at0 left (z02 r)*y=g) (hx:x.natAbs<2 ^ (e+2)) (hy:y.natAbs<2 ^ (e+2)) (he:e≤m0)
   (hk:2*e+3+(S1.length+S2.length+1)*(e+1)≤kk) :
   Wi n e eh m0 kk S0 v (S1++z0I r left x y::S2) (z0f (z1j r left g) (S1++z0I r left x y::S2))∧z02 left<z02 (z0f (z1j r left g) (S1++z0I r left x y::S2)) ∧
     LowB (m0+n*kk) (z1j r left g) (S1++z0I r left x y::S2)∧(∀ q∈S1++z0I r left x y::S2,hd q<2 ^ eh):=by
 have hrm:r∈S1++r::S2:=List.mem_append.mpr (.inr List.mem_cons_self)
 have q:=I.asc.mem hrm
 have hl:r.length=left.length:=by rw[q.1,I.len]
 have hlow:=I.low r hrm
 have hu:∀ k,at0 (z0I r left x y) k=x*at0 r k+y*at0 left k:=fun k=>z9g hl k
 have hlo:∀ k,at0 (z1j r left g) k=((at0 r (z02 r)).fdiv g)*at0 left k+(-((at0 left (z02 r)).fdiv g))*at0 r k:=fun k=>z9g hl.symm k
 have lu:(z0I r left x y).length=n:=by unfold z0I;rw[z9f hl];exact q.1
 have llo:(z1j r left g).length=n:=by unfold z1j;rw[z9f hl.symm];exact I.len
 obtain⟨a',ea⟩:=ga
 obtain⟨b',eb⟩:=gb
 have da:(hd r).fdiv g=a':=by rw[ea];exact Int.mul_fdiv_cancel_left _ (by omega)
 have db:(at0 left (z02 r)).fdiv g=b':=by rw[eb];exact Int.mul_fdiv_cancel_left _ (by omega)
 have hlo:∀ k,at0 (z1j r left g) k=a'*at0 left k+(-b')*at0 r k:=fun k=>by
   have:=hlo k
   rw[db,show at0 r (z02 r)=hd r from rfl,da]at this
   exact this
 have det:a'*x+b'*y=1:=by
   have:g*(a'*x+b'*y)=g*1:=by rw[Int.mul_add,←Int.mul_assoc,←Int.mul_assoc,←ea,←eb];omega
   exact Int.eq_of_mul_eq_mul_left (by omega) this
 have zb:∀ k,k<z02 left→at0 r k=0∧at0 left k=0:=fun k hk=>⟨z0q r k (by omega),z0q left k hk⟩
 have us:at0 (z0I r left x y) (z02 r)=g:=by rw[hu,←hxy];show x*hd r+y*_=_;rw[Int.mul_comm x,Int.mul_comm y]
 have uh:z02 (z0I r left x y)=z02 r:=z2E _ _ (fun k hk=>by rw[hu,(zb k (by omega)).1,(zb k (by omega)).2];simp) (by rw[us];omega)
 have uhd:hd (z0I r left x y)=g:=by unfold hd;rw[uh];exact us
 have gle:g≤hd r:=Int.le_of_dvd q.2.2.2 ⟨a',ea⟩
 have lz:∀ k,k<z02 left+1→at0 (z1j r left g) k=0:=fun k hk=>by
   rw[hlo]
   by_cases h:k<z02 left
   · rw[(zb k h).1,(zb k h).2];simp
   · have:k=z02 r:=by omega
     subst this
     rw[eb,show at0 r (z02 r)=hd r from rfl,ea,Int.mul_left_comm a' g b',Int.neg_mul,Int.mul_left_comm b' g a',Int.mul_comm a' b']
     omega
 have asc':Asc n 0 (S1++z0I r left x y::S2):=by
   have A:=Asc.iff.mp I.asc
   refine Asc.iff.mpr ⟨fun z hz=>?_,?_⟩
   · rcases List.mem_append.mp hz with h|h
     · exact A.1 z (List.mem_append.mpr (.inl h))
     · rcases List.mem_cons.mp h with rfl|h
       · exact⟨lu,Nat.zero_le _,by rw[uh];exact q.2.2.1,by rw[uhd];exact hg⟩
       · exact A.1 z (List.mem_append.mpr (.inr (List.mem_cons_of_mem _ h)))
   · have e1:(S1++z0I r left x y::S2).map z02=(S1++r::S2).map z02:=by simp[uh]
     rw[e1];exact A.2
 have hw':∀ z∈S1++z0I r left x y::S2,z.length=n:=fun z hz=>(asc'.mem hz).1
 obtain⟨nz,nl⟩:=z5c (t:=z02 left+1) hw' llo lz
 have hhead:z02 left+1≤z02 (z0f (z1j r left g) (S1++z0I r left x y::S2)):=zkY _ _ nz (by rw[nl];omega)
 have mm:∀ z∈S1++z0I r left x y::S2,z=z0I r left x y∨z∈S1++r::S2:=fun z hz=>by
   rcases List.mem_append.mp hz with h|h
   · exact .inr (List.mem_append.mpr (.inl h))
   · rcases List.mem_cons.mp h with rfl|h
     · exact .inl rfl
     · exact .inr (List.mem_append.mpr (.inr (List.mem_cons_of_mem _ h)))
 have right':∀ z∈S1++z0I r left x y::S2,z02 left+1≤z02 z→Lt (2 ^ e) z:=fun z hz hk=>by
   rcases mm z hz with rfl|h
   · rw[uh]at hk;omega
   · exact I.right z h (by omega)
 have rlt:Lt (2 ^ e) r:=I.right r hrm (by omega)
 have hds':∀ z∈S1++z0I r left x y::S2,hd z<2 ^ eh:=fun z hz=>by
   rcases mm z hz with rfl|h
   · rw[uhd];have:=I.hds r hrm;omega
   · exact I.hds z h
 have aS:(a').natAbs<2 ^ e:=by
   have h1:(hd r).natAbs<2 ^ e:=rlt (z02 r)
   rw[ea,Int.natAbs_mul]at h1
   have:1*a'.natAbs≤g.natAbs*a'.natAbs:=Nat.mul_le_mul_right _ (by omega)
   omega
 have bS:(-b').natAbs<2 ^ e:=by
   have h1:(hd r).natAbs<2 ^ e:=rlt (z02 r)
   have h2:(at0 left (z02 r)).natAbs<2 ^ e:=by omega
   rw[eb,Int.natAbs_mul]at h2
   have:1*b'.natAbs≤g.natAbs*b'.natAbs:=Nat.mul_le_mul_right _ (by omega)
   omega
 have m1:e≤m0+z02 left*kk:=by omega
 have sl:Lt (2 ^ (e+(m0+z02 left*kk)+1)) (z1j r left g):=by
   unfold z1j
   rw[show at0 r (z02 r)=hd r from rfl,da,db]
   exact zml hl.symm aS bS I.size (rlt.mono (Nat.pow_le_pow_right (by decide) m1)) (Nat.le_refl _)
 have hk1:(z02 left+1)*kk=z02 left*kk+kk:=by rw[Nat.succ_mul]
 have hkn:(z02 left+1)*kk≤n*kk:=Nat.mul_le_mul_right _ (by omega)
 have hkh:(z02 left+1)*kk≤z02 (z0f (z1j r left g) (S1++z0I r left x y::S2))*kk:=Nat.mul_le_mul_right _ hhead
 have lenS:(S1++z0I r left x y::S2).length=S1.length+S2.length+1:=by simp;omega
 obtain⟨z1,z2⟩:=z2b (n:=n) (t:=z02 left+1) (s:=e+(m0+z02 left*kk)+1) (e:=e) (m:=m0+n*kk) (S:=S1++z0I r left x y::S2) (left:=z1j r left g)
   (fun z hz=>⟨hw' z hz,(asc'.mem hz).2.2.2⟩) llo lz right' sl (by rw[lenS];omega) (by omega)
 have low':=z2a asc' llo
 refine⟨⟨asc',nl,?_,?_,low',fun z hz hk=>right' z hz (by omega),hds',z1.mono (Nat.pow_le_pow_right (by decide) (by rw[lenS];omega)),fun z hz=>?_⟩,hhead,z2,hds'⟩
 · rw[←I.heads];simp[uh]
 · refine SameSpan.trans (z5V (B:=left::(S1++r::S2)) ?_ ?_) I.span
   ·
     have oldr:Span (vecs (left::(S1++r::S2))) (fun k=>at0 r k):=z0h (List.mem_cons_of_mem _ hrm)
     have oldl:Span (vecs (left::(S1++r::S2))) (fun k=>at0 left k):=z0h List.mem_cons_self
     have nu:Span (vecs (left::(S1++r::S2))) (fun k=>at0 (z0I r left x y) k):=Span.congr (fun k=>(hu k).symm) (z79 x y oldr oldl)
     have nlo:Span (vecs (left::(S1++r::S2))) (fun k=>at0 (z1j r left g) k):=Span.congr (fun k=>(hlo k).symm) (z79 a' (-b') oldl oldr)
     have all:∀ z∈S1++z0I r left x y::S2,Span (vecs (left::(S1++r::S2))) (fun k=>at0 z k):=fun z hz=>by
       rcases mm z hz with rfl|h
       · exact nu
       · exact z0h (List.mem_cons_of_mem _ h)
     intro z hz
     rcases List.mem_cons.mp hz with rfl|hz
     · have d:=z1t asc' llo
       have d':Span (vecs (left::(S1++r::S2))) (fun k=>at0 (z1j r left g) k-at0 (z0f (z1j r left g) (S1++z0I r left x y::S2)) k) :=
         d.trans fun w hw=>by obtain⟨z,hz,rfl⟩:=List.mem_map.mp hw;exact all z hz
       exact Span.congr (fun k=>by omega) (nlo.sub d')
     · exact all z hz
   · have um:z0I r left x y∈S1++z0I r left x y::S2:=List.mem_append.mpr (.inr List.mem_cons_self)
     have nu:Span (vecs (z0f (z1j r left g) (S1++z0I r left x y::S2)::(S1++z0I r left x y::S2))) (fun k=>at0 (z0I r left x y) k):=z0h (List.mem_cons_of_mem _ um)
     have nlo:Span (vecs (z0f (z1j r left g) (S1++z0I r left x y::S2)::(S1++z0I r left x y::S2))) (fun k=>at0 (z1j r left g) k):=by
       have d:=z1t asc' llo
       have t:Span (vecs (z0f (z1j r left g) (S1++z0I r left x y::S2)::(S1++z0I r left x y::S2))) (fun k=>at0 (z0f (z1j r left g) (S1++z0I r left x y::S2)) k):=z0h List.mem_cons_self
       exact Span.congr (fun k=>by omega) (t.add d.cons)
     have nr:∀ k,at0 r k=a'*at0 (z0I r left x y) k+(-y)*at0 (z1j r left g) k:=fun k=>by
       rw[hu,hlo]
       have:at0 r k=(a'*x+b'*y)*at0 r k:=by rw[det];omega
       rw[this]
       grind
     have nle:∀ k,at0 left k=b'*at0 (z0I r left x y) k+x*at0 (z1j r left g) k:=fun k=>by
       rw[hu,hlo]
       have:at0 left k=(a'*x+b'*y)*at0 left k:=by rw[det];omega
       rw[this]
       grind
     intro z hz
     rcases List.mem_cons.mp hz with rfl|hz
     · exact Span.congr (fun k=>(nle k).symm) (z79 _ _ nu nlo)
     · rcases List.mem_append.mp hz with h|h
       · exact z0h (List.mem_cons_of_mem _ (List.mem_append.mpr (.inl h)))
       · rcases List.mem_cons.mp h with rfl|h
         · exact Span.congr (fun k=>(nr k).symm) (z79 _ _ nu nlo)
         · exact z0h (List.mem_cons_of_mem _ (List.mem_append.mpr (.inr (List.mem_cons_of_mem _ h))))
 · rcases mm z hz with rfl|h
   · exact zml (q:=m0+z02 left*kk) hl hx hy (rlt.mono (Nat.pow_le_pow_right (by decide) m1)) I.size (by omega)
   · exact(I.all z h).mono (Nat.pow_le_pow_right (by decide) (by omega))
end St

end
section
set_option linter.all false
set_option maxRecDepth 100000
namespace St
open Lat
def Ind(R:List Row):Prop:=∀ cs:List Int,cs.length=R.length→(∀ k,mix R cs k=0)→∀ c∈cs,c=0
theorem z7a{T:List Vec}:∀{R:List Row} {cs:List Int},(∀ r∈R,Span T (fun k=>at0 r k))→Span T (mix R cs)
 | [],cs,_=>by unfold mix;exact Span.zero
 | r::R,[],_=>by unfold mix;exact Span.zero
 | r::R,c::cs,h=>by
  unfold mix
  exact((h r List.mem_cons_self).smul c).add (z7a fun x hx=>h x (List.mem_cons_of_mem _ hx))
def dif(a b:List Int):List Int:=List.zipWith (fun x y=>x-y) a b
theorem zjT{a b:List Int}(h:a.length=b.length):(dif a b).length=a.length:=by unfold dif;rw[List.length_zipWith];omega
theorem zjU:∀{R:List Row} {a b:List Int},a.length=b.length→∀ k,mix R (dif a b) k=mix R a k-mix R b k
 | [],a,b,h,k=>by simp[mix]
 | r::R,[],[],h,k=>by simp[mix,dif]
 | r::R,x::a,y::b,h,k=>by
  have ih:=zjU (R:=R) (a:=a) (b:=b) (by simpa using h) k
  show(x-y)*at0 r k+mix R (dif a b) k=(x*at0 r k+mix R a k)-(y*at0 r k+mix R b k)
  rw[ih,Int.sub_mul];omega
theorem zdO:∀{a b:List Int},a.length=b.length→(∀ c∈dif a b,c=0)→a=b
 | [],[],_,_=>rfl
 | x::a,y::b,h,z=>by
  have h1:x-y=0:=z _ (List.mem_cons_self)
  rw[zdO (a:=a) (b:=b) (by simpa using h) fun c hc=>z c (List.mem_cons_of_mem _ hc),show x=y by omega]
theorem zbx{N:Nat}:∀{a b:List Int},(∀ c∈a,0≤c∧c≤N)→(∀ c∈b,0≤c∧c≤N)→∀ c∈dif a b,c.natAbs≤N
 | [],_,_,_,c,hc=>by simp[dif]at hc
 | x::a,[],_,_,c,hc=>by simp[dif]at hc
 | x::a,y::b,ha,hb,c,hc=>by
  have hc:c∈(x-y)::dif a b:=hc
  rcases List.mem_cons.mp hc with rfl|hc
  · have:=ha x List.mem_cons_self
    have:=hb y List.mem_cons_self
    omega
  · exact zbx (fun c h=>ha c (List.mem_cons_of_mem _ h)) (fun c h=>hb c (List.mem_cons_of_mem _ h)) c hc
theorem z9h{N B:Nat}:∀{R:List Row} {cs:List Int},(∀ r∈R,Lt B r)→(∀ c∈cs,c.natAbs≤N)→∀ k,(mix R cs k).natAbs≤R.length*(N*B)
 | [],cs,_,_,k=>by simp[mix]
 | r::R,[],_,_,k=>by simp[mix]
 | r::R,c::cs,hr,hc,k=>by
  have ih:=z9h (R:=R) (cs:=cs) (fun x hx=>hr x (List.mem_cons_of_mem _ hx)) (fun x hx=>hc x (List.mem_cons_of_mem _ hx)) k
  show(c*at0 r k+mix R cs k).natAbs≤_
  have h1:(c*at0 r k).natAbs≤N*B:=by
   rw[Int.natAbs_mul];exact Nat.mul_le_mul (hc c List.mem_cons_self) (Nat.le_of_lt (hr r List.mem_cons_self k))
  rw[List.length_cons,Nat.succ_mul]
  omega
theorem z7Y{N:Nat}:∀{r:Nat} {t:List Int},z1B (List.replicate r (N+1)) t↔t.length=r∧∀ c∈t,0≤c∧c≤N
 | 0,[]=>by simp[z1B]
 | 0,x::t=>by simp[z1B]
 | r+1,[]=>by simp[z1B,List.replicate]
 | r+1,x::t=>by
  rw[List.replicate_succ,z1B,z7Y,List.length_cons]
  constructor
  · rintro⟨h1,h2,h3,h4⟩
    refine⟨by omega,fun c hc=>?_⟩
    rcases List.mem_cons.mp hc with rfl|hc
    · omega
    · exact h4 c hc
  · rintro⟨h1,h2⟩
    have:=h2 x List.mem_cons_self
    exact⟨by omega,by omega,by omega,fun c hc=>h2 c (List.mem_cons_of_mem _ hc)⟩
theorem z9X(N:Nat):∀ r,prod (List.replicate r N)=N ^ r
 | 0=>rfl
 | r+1=>by rw[List.replicate_succ,prod,z9X,Nat.pow_succ,Nat.mul_comm]
theorem siegel{R:List Row}{B:Nat}(hR:Ind R)(hb:∀ r∈R,Lt B r)(hp:0<B)(hs:List Nat)(hl:hs.length+1=R.length):
   ∃ cs:List Int,cs.length=R.length∧(∀ h∈hs,mix R cs h=0)∧(∃ k,mix R cs k≠0)∧∀ k,(mix R cs k).natAbs≤(2*R.length*B) ^ R.length:=by
 let r:=R.length
 let N:=(2*R.length*B) ^ hs.length
 let W:=R.length*(N*B)
 let f:List Int→List Int:=fun cs=>hs.map fun h=>mix R cs h+(W:Int)
 have main:∃ a b:List Int,z1B (List.replicate r (N+1)) a∧z1B (List.replicate r (N+1)) b∧f a=f b∧a≠b:=by
   apply Classical.byContradiction
   intro no
   have inj:∀ s t,z1B (List.replicate r (N+1)) s→z1B (List.replicate r (N+1)) t→f s=f t→s=t:=fun s t h1 h2 h3=>Classical.byContradiction fun hne=>no ⟨s,t,h1,h2,h3,hne⟩
   have h1:=zjQ (ns:=List.replicate r (N+1)) (ms:=List.replicate hs.length (2*W+1)) f inj fun s hsr=>by
    rw[z7Y]at hsr ⊢
    refine⟨by simp[f],fun c hc=>?_⟩
    obtain⟨h,_,rfl⟩:=List.mem_map.mp hc
    have:=z9h (N:=N) hb (cs:=s) (fun c hc=>by have:=hsr.2 c hc;omega) h
    have:(mix R s h).natAbs≤W:=this
    omega
   rw[z9X,z9X]at h1
   have hr1:1≤R.length:=by omega
   have h2:2*W+1≤(2*R.length*B)*(N+1):=by
    have e:(2*R.length*B)*(N+1)=2*W+2*R.length*B:=by
     show _=2*(R.length*(N*B))+_
     rw[Nat.mul_add,Nat.mul_one]
     congr 1
     rw[Nat.mul_comm N B,Nat.mul_assoc,Nat.mul_assoc]
    have:1≤2*R.length*B:=Nat.mul_pos (by omega) hp
    omega
   have h3:(2*W+1) ^ hs.length≤((2*R.length*B)*(N+1)) ^ hs.length:=Nat.pow_le_pow_left h2 _
   rw[Nat.mul_pow]at h3
   have h4:(N+1) ^ r=(N+1)*(N+1) ^ hs.length:=by rw[show r=hs.length+1 from hl.symm,Nat.pow_succ,Nat.mul_comm]
   rw[h4]at h1
   have h5:(N+1)*(N+1) ^ hs.length≤N*(N+1) ^ hs.length:=Nat.le_trans h1 h3
   have h6:0<(N+1) ^ hs.length:=Nat.pow_pos (by omega)
   rw[Nat.succ_mul]at h5
   omega
 obtain⟨a,b,ha,hb',hf,hne⟩:=main
 rw[z7Y]at ha hb'
 have hab:a.length=b.length:=by rw[ha.1,hb'.1]
 refine⟨dif a b,by rw[zjT hab];exact ha.1,fun h hh=>?_,?_,fun k=>?_⟩
 · rw[zjU hab]
   have:mix R a h+(W:Int)=mix R b h+(W:Int):=List.map_inj_left.mp hf h hh
   omega
 · apply Classical.byContradiction
   intro no
   have z:∀ k,mix R (dif a b) k=0:=fun k=>Classical.byContradiction fun h=>no ⟨k,h⟩
   exact hne (zdO hab (hR (dif a b) (by rw[zjT hab];exact ha.1) z))
 · have:=z9h (N:=N) hb (cs:=dif a b) (zbx ha.2 hb'.2) k
   refine Nat.le_trans this ?_
   rw[←hl,Nat.pow_succ,hl,Nat.mul_comm]
   show(N*B)*R.length≤N*(2*R.length*B)
   rw[Nat.mul_assoc,Nat.mul_comm B]
   refine Nat.mul_le_mul_left _ ?_
   rw[Nat.mul_assoc];omega
theorem zdP(v:Vec):∀ m,v m≠0→∃ h,(∀ k,k<h→v k=0)∧v h≠0:=by
 intro m
 induction m using Nat.strongRecOn with
 | _ m ih =>
  intro hm
  by_cases q:∃ k,k<m∧v k≠0
  · obtain⟨k,h1,h2⟩:=q
    exact ih k h1 h2
  · exact⟨m,fun k hk=>Classical.byContradiction fun h=>q ⟨k,hk,h⟩,hm⟩
theorem zdQ{E:Nat}:∀{T:List Row} {n f Q:Nat} {u:Vec},Asc n f T→Form f (z1i T)→(∀ r∈T,Lt E r)→Span (vecs T) u→(∀ r∈T,(u (z02 r)).natAbs≤Q*(hd r).natAbs)→∀ k,(u k).natAbs≤Q*((2 ^ T.length-1)*E)
 | [],n,f,Q,u,_,_,_,s,_,k=>by rw[s k];simp
 | r::T,n,f,Q,u,A,F,hE,⟨c,s⟩,hu,k=>by
  have hp:=A.2.2.2.1
  have ec:=A.coef s
  have hc:c.natAbs≤Q:=by
   have:=hu r List.mem_cons_self
   rw[ec,Int.natAbs_mul]at this
   exact Nat.le_of_mul_le_mul_right this (by omega)
  have ih:=zdQ (T:=T) (Q:=2*Q) A.2.2.2.2 F.2.2.2.2 (fun x hx=>hE x (List.mem_cons_of_mem _ hx)) s (fun x hx=>by
   have h1:=hu x (List.mem_cons_of_mem _ hx)
   have h2:=F.2.2.2.1 (z02 x,vec x) (List.mem_map.mpr ⟨x,hx,rfl⟩)
   have h2:0≤at0 r (z02 x)∧at0 r (z02 x)<hd x:=h2
   show(u (z02 x)-c*at0 r (z02 x)).natAbs≤_
   have h3:(c*at0 r (z02 x)).natAbs≤Q*(hd x).natAbs:=by rw[Int.natAbs_mul];exact Nat.mul_le_mul hc (by omega)
   rw[Nat.mul_assoc]
   omega) k
  have ih:(u k-c*at0 r k).natAbs≤2*Q*((2 ^ T.length-1)*E):=ih
  have h4:(c*at0 r k).natAbs≤Q*E:=by rw[Int.natAbs_mul];exact Nat.mul_le_mul hc (Nat.le_of_lt (hE r List.mem_cons_self k))
  have h5:Q*((2 ^ (r::T).length-1)*E)=2*Q*((2 ^ T.length-1)*E)+Q*E:=by
   have p:0<2 ^ T.length:=Nat.two_pow_pos _
   rw[List.length_cons,Nat.pow_succ,show 2 ^ T.length*2-1=2*(2 ^ T.length-1)+1 by omega,Nat.add_mul,Nat.one_mul,Nat.mul_add,Nat.mul_assoc 2,Nat.mul_left_comm Q 2,Nat.mul_assoc 2]
  omega
theorem zmm{W E n f:Nat}{r:Row}{T:List Row}{w:Vec}(A:Asc n f (r::T))(F:Form f (z1i (r::T)))(hE:∀ x∈T,Lt E x)(s:Span (vecs (r::T)) w)(h0:w (z02 r)≠0)(hz:∀ x∈T,w (z02 x)=0)(hw:∀ k,(w k).natAbs≤W):
  ∀ k,(at0 r k).natAbs≤W+(2 ^ T.length-1)*E:=by
 obtain⟨c,s⟩:=s
 have ec:=A.coef s
 have c0:c≠0:=by intro z;rw[z]at ec;simp at ec;exact h0 ec
 intro k
 have q:=zdQ (E:=E) (Q:=c.natAbs) A.2.2.2.2 F.2.2.2.2 hE s (fun x hx=>by
  have h2:=F.2.2.2.1 (z02 x,vec x) (List.mem_map.mpr ⟨x,hx,rfl⟩)
  have h2:0≤at0 r (z02 x)∧at0 r (z02 x)<hd x:=h2
  show(w (z02 x)-c*at0 r (z02 x)).natAbs≤_
  rw[hz x hx]
  have h3:(c*at0 r (z02 x)).natAbs≤c.natAbs*(hd x).natAbs:=by rw[Int.natAbs_mul];exact Nat.mul_le_mul_left _ (by omega)
  omega) k
 have q:(w k-c*at0 r k).natAbs≤c.natAbs*((2 ^ T.length-1)*E):=q
 have hwk:=hw k
 have e1:(c*at0 r k).natAbs=c.natAbs*(at0 r k).natAbs:=Int.natAbs_mul _ _
 apply Nat.le_of_not_lt
 intro hlt
 generalize (2 ^ T.length-1)*E=X at *
 have h6:c.natAbs*(W+X+1)≤c.natAbs*(at0 r k).natAbs:=Nat.mul_le_mul_left _ hlt
 have h7:c.natAbs*(W+X+1)=c.natAbs*X+c.natAbs*(W+1):=by rw[←Nat.mul_add];congr 1;omega
 have h8:1*(W+1)≤c.natAbs*(W+1):=Nat.mul_le_mul_right _ (by omega)
 omega
def bnd(r B:Nat):Nat:=(2*r*B) ^ r*2 ^ (r*r)
theorem zby{W n:Nat}:∀{T:List Row} {f:Nat},Asc n f T→Form f (z1i T)→(∀ r∈T,∃ w:Vec,Span (vecs T) w∧w (z02 r)≠0∧(∀ k,k<z02 r→w k=0)∧(∀ x∈T,x≠r→w (z02 x)=0)∧∀ k,(w k).natAbs≤W)→∀ r∈T,Lt (W*2 ^ (T.length*T.length)+1) r
 | r::T,f,A,F,h,x,hx=>by
  have nd:∀ y∈T,z02 r<z02 y:=fun y hy=>(A.2.2.2.2.mem hy).2.1
  have ih:=zby (T:=T) A.2.2.2.2 F.2.2.2.2 (fun y hy=>by
    obtain⟨w,w1,w2,w3,w4,w5⟩:=h y (List.mem_cons_of_mem _ hy)
    refine⟨w,?_,w2,w3,fun z hz hne=>w4 z (List.mem_cons_of_mem _ hz) hne,w5⟩
    exact Form.tail F (show Span (z3X (z1i (r::T))) w by
     have:z3X (z1i (r::T))=vecs (r::T):=by simp[z1i,z3X]
     rw[this];exact w1) (w3 _ (nd y hy)) |> fun s=>by
      have:z3X (z1i T)=vecs T:=by simp[z1i,z3X]
      have s:Span (z3X (z1i T)) w:=s
      rw[this]at s;exact s)
  have hW:W*2 ^ (T.length*T.length)+1≤W*2 ^ ((r::T).length*(r::T).length)+1:=by
    refine Nat.succ_le_succ (Nat.mul_le_mul_left _ (Nat.pow_le_pow_right (by decide) ?_))
    exact Nat.mul_le_mul (by simp) (by simp)
  rcases List.mem_cons.mp hx with rfl|hx
  · obtain⟨w,w1,w2,w3,w4,w5⟩:=h x List.mem_cons_self
    intro k
    have q:=zmm (E:=W*2 ^ (T.length*T.length)+1) A F ih w1 w2 (fun y hy=>w4 y (List.mem_cons_of_mem _ hy) fun e=>by have:=nd y hy;rw[e]at this;omega) w5 k
    refine Nat.lt_succ_of_le (Nat.le_trans q ?_)
    have hW1:1≤W:=by have:=w5 (z02 x);omega
    have e2:(x::T).length*(x::T).length=T.length*T.length+T.length+T.length+1:=by rw[List.length_cons];grind
    rw[e2,Nat.pow_succ,Nat.pow_add]
    generalize hP:2 ^ (T.length*T.length+T.length)=P
    have p1:2 ^ (T.length*T.length)*2 ^ T.length=P:=by rw[←hP,Nat.pow_add]
    have p2:1≤2 ^ T.length:=Nat.two_pow_pos _
    have p3:1≤2 ^ (T.length*T.length):=Nat.two_pow_pos _
    generalize 2 ^ T.length=a at *
    generalize 2 ^ (T.length*T.length)=b at *
    have h1:(a-1)*(W*b+1)≤a*(2*(W*b)):=Nat.mul_le_mul (by omega) (by have:1≤W*b:=Nat.mul_pos hW1 p3;omega)
    have h1':(a-1)*(W*b+1)+(W*b+1)=a*(W*b+1):=by
     have:a=(a-1)+1:=by omega
     rw[show a*(W*b+1)=((a-1)+1)*(W*b+1) by rw[←this],Nat.succ_mul]
    have h2:W≤W*b:=Nat.le_mul_of_pos_right _ p3
    have h3:a*(W*b+1)≤a*(2*(W*b)):=Nat.mul_le_mul_left _ (by have:1≤W*b:=Nat.mul_pos hW1 p3;omega)
    have h4:a*(2*(W*b))=W*(b*a)*2:=by grind
    have h5:W*(b*a)*2≤W*(P*a*2):=by
     rw[p1,Nat.mul_assoc]
     refine Nat.mul_le_mul_left _ (Nat.mul_le_mul_right _ (Nat.le_mul_of_pos_right _ p2))
    omega
  · exact(ih x hx).mono hW
theorem zfc{n B:Nat}{S R:List Row}(A:Asc n 0 S)(F:Form 0 (z1i S))(hR:Ind R)(hl:R.length=S.length)(hs:∀ r∈R,Span (vecs S) (fun k=>at0 r k))(hb:∀ r∈R,Lt B r)(hp:0<B):
  ∀ r∈S,Lt (bnd S.length B+1) r:=by
 refine zby A F fun r hr=>?_
 have hpw:=(Asc.iff.mp A).2
 obtain⟨S1,S2,rfl⟩:=List.append_of_mem hr
 obtain⟨cs,c1,c2,⟨m,c3⟩,c4⟩:=siegel hR hb hp ((S1++S2).map z02) (by rw[hl];simp;omega)
 have sp:Span (vecs (S1++r::S2)) (mix R cs):=z7a hs
 obtain⟨h,z,q⟩:=zdP _ m c3
 obtain⟨x,hx,ex⟩:=A.first sp z q
 have oth:∀ y∈S1++r::S2,y≠r→y∈S1++S2:=fun y hy hne=>by
  rcases List.mem_append.mp hy with h|h
  · exact List.mem_append.mpr (.inl h)
  · rcases List.mem_cons.mp h with rfl|h
    · exact absurd rfl hne
    · exact List.mem_append.mpr (.inr h)
 have zo:∀ y∈S1++r::S2,y≠r→mix R cs (z02 y)=0:=fun y hy hne=>c2 _ (List.mem_map.mpr ⟨y,oth y hy hne,rfl⟩)
 have er:x=r:=Classical.byContradiction fun hne=>q (by rw[←ex];exact zo x hx hne)
 subst er
 rw[hl]at c4
 exact⟨mix R cs,sp,by rw[ex];exact q,fun k hk=>z k (by omega),zo,c4⟩
end St

end
section
local macro_rules|`(tactic| omega)=>`(tactic| first|lia|omega +splitDisjunctions)
set_option linter.all false
set_option maxRecDepth 100000
namespace St
open Lat
structure Post(n u:Nat)(S0:List Row)(v:Row)(S:List Row):Prop where
 asc:Asc n 0 S
 span:SameSpan (vecs S) (vecs (v::S0))
 size:∀ r∈S,Lt (2 ^ u) r
 more:S.map z02=S0.map z02∨(S.length=S0.length+1∧∃ r∈S,∀ x∈S0,z02 x≠z02 r)
theorem Wi.start{n e eh s m0 kk:Nat}{S0:List Row}{v:Row}(A:Asc n 0 S0)(hv:v.length=n)(h0:∀ r∈S0,Lt (2 ^ e) r)(hh:∀ r∈S0,hd r<2 ^ eh)(hs:Lt (2 ^ s) v)(hm:s+S0.length*(e+1)≤m0)(he:e≤m0):
   Wi n e eh m0 kk S0 v S0 (z0f v S0)∧LowB m0 v S0:=by
 obtain⟨z1,z2⟩:=z2b (n:=n) (t:=0) (s:=s) (e:=e) (m:=m0) (S:=S0) (left:=v) (fun r hr=>⟨(A.mem hr).1,(A.mem hr).2.2.2⟩) hv (fun k hk=>by omega) (fun r hr _=>h0 r hr) hs hm he
 have sp:=z1t A hv
 refine⟨⟨A,z1K A hv,rfl,?_,z2a A hv,fun r hr _=>h0 r hr,fun r hr=>?_,z1.mono (Nat.pow_le_pow_right (by decide) (by omega)),fun r hr=>(h0 r hr).mono (Nat.pow_le_pow_right (by decide) (by omega))⟩,z2⟩
 · refine z5V (fun r hr=>?_) fun r hr=>?_
   · rcases List.mem_cons.mp hr with rfl|hr
     · have t:Span (vecs (v::S0)) (fun k=>at0 v k):=z0h List.mem_cons_self
       exact Span.congr (fun k=>by omega) (t.sub sp.cons)
     · exact z0h (List.mem_cons_of_mem _ hr)
   · rcases List.mem_cons.mp hr with rfl|hr
     · have t:Span (vecs (z0f r S0::S0)) (fun k=>at0 (z0f r S0) k):=z0h List.mem_cons_self
       exact Span.congr (fun k=>by omega) (t.add sp.cons)
     · exact z0h (List.mem_cons_of_mem _ hr)
 · exact hh r hr
theorem Wi.done{n e eh m0 kk:Nat}{S0:List Row}{v:Row}{S:List Row}{left:Row}(I:Wi n e eh m0 kk S0 v S left)(h:¬z02 left<n):Post n (e+3+(m0+n*kk)) S0 v S:=by
 have hl:=z7W left
 rw[I.len]at hl
 have e:z02 left=n:=by omega
 refine⟨I.asc,SameSpan.trans (z5V (fun r hr=>z0h (List.mem_cons_of_mem _ hr)) fun r hr=>?_) I.span,fun r hr=>by have:=I.all r hr;rw[e]at this;exact this,.inl I.heads⟩
 rcases List.mem_cons.mp hr with rfl|hr
 · refine Span.congr (fun k=>?_) Span.zero
   by_cases hk:k<n
   · exact(z0q r k (by omega)).symm
   · exact(z0Y (by rw[I.len];omega)).symm
 · exact z0h hr
theorem Wi.new{n e eh m0 kk:Nat}{S0:List Row}{v:Row}{S S':List Row}{left t:Row}(I:Wi n e eh m0 kk S0 v S left)(h:z02 left<n)(hn:∀ r∈S,z02 r≠z02 left)
   (ht:t.length=n) (c:Int) (hc:c=1∨c = -1) (et:∀ k,at0 t k=c*at0 left k) (hp:0<at0 t (z02 left)) (pm:S'.Perm (t::S)) (pw:(S'.map z02).Pairwise (·<·)):Post n (e+3+(m0+n*kk)) S0 v S':=by
 have hh:z02 t=z02 left:=z2E _ _ (fun k hk=>by rw[et,z0q left k hk];simp) (by omega)
 have mem:∀ r∈S',r=t∨r∈S:=fun r hr=>List.mem_cons.mp (pm.mem_iff.mp hr)
 have tm:t∈S':=pm.mem_iff.mpr List.mem_cons_self
 have sm:∀ r∈S,r∈S':=fun r hr=>pm.mem_iff.mpr (List.mem_cons_of_mem _ hr)
 have hk:m0+z02 left*kk≤m0+n*kk:=by have:=Nat.mul_le_mul_right kk (Nat.le_of_lt h);omega
 refine⟨Asc.iff.mpr ⟨fun r hr=>?_,pw⟩,SameSpan.trans (z5V (fun r hr=>?_) fun r hr=>?_) I.span,fun r hr=>?_,.inr ⟨?_,t,tm,fun x hx e=>?_⟩⟩
 · rcases mem r hr with rfl|hr
   · exact⟨ht,Nat.zero_le _,by rw[hh];exact h,by unfold hd;rw[hh];exact hp⟩
   · exact I.asc.mem hr
 · rcases mem r hr with rfl|hr
   · exact Span.congr (fun k=>(et k).symm) ((z0h List.mem_cons_self:Span (vecs (left::S)) (fun k=>at0 left k)).smul c)
   · exact z0h (List.mem_cons_of_mem _ hr)
 · rcases List.mem_cons.mp hr with rfl|hr
   · refine Span.congr (fun k=>?_) ((z0h tm:Span (vecs S') (fun k=>at0 t k)).smul c)
     show c*at0 t k=at0 r k
     rw[et]
     rcases hc with rfl|rfl<;>omega
   · exact z0h (sm r hr)
 · rcases mem r hr with rfl|hr
   · intro k
     rw[et]
     have h1:=I.size k
     have h2:2 ^ (m0+z02 left*kk)≤2 ^ (e+3+(m0+n*kk)):=Nat.pow_le_pow_right (by decide) (by omega)
     rcases hc with rfl|rfl<;>omega
   · exact(I.all r hr).mono (Nat.pow_le_pow_right (by decide) (by omega))
 · have h1:=pm.length_eq
   have h2:=congrArg List.length I.heads
   simp at h1 h2
   omega
 · have:z02 x∈S.map z02:=by rw[I.heads];exact List.mem_map.mpr ⟨x,hx,rfl⟩
   obtain⟨y,hy,ey⟩:=List.mem_map.mp this
   exact hn y hy (by omega)
structure Good(n B:Nat)(rows:List Row)(S:List Row):Prop where
 asc:Asc n 0 S
 form:Form 0 (z1i S)
 span:SameSpan (vecs S) (vecs rows)
 ind:∃ R:List Row,Ind R∧R.length=S.length∧(∀ r∈R,r∈rows)
 len:S.length≤rows.length
 full:Ind rows→S.length=rows.length
theorem Good.nil{n B:Nat}:Good n B [] []:=⟨trivial,trivial,SameSpan.refl,⟨[],(fun cs h _ c hc=>by have h:cs=[]:=List.length_eq_zero_iff.mp h;subst h;cases hc),rfl,fun r hr=>by cases hr⟩,Nat.le_refl _,fun _=>rfl⟩
theorem Good.small{n B:Nat}{rows S:List Row}(G:Good n B rows S)(hb:∀ r∈rows,Lt B r)(hp:0<B):∀ r∈S,Lt (bnd S.length B+1) r:=by
 obtain⟨R,h1,h2,h3⟩:=G.ind
 exact zfc G.asc G.form h1 h2 (fun r hr=>G.span.iff.mpr (z0h (h3 r hr))) (fun r hr=>hb r (h3 r hr)) hp
theorem z3L:∀{R:List Row} {v:Vec},Span (vecs R) v→∃ c:List Int,c.length=R.length∧∀ k,v k=mix R c k
 | [],v,s=>⟨[],rfl,s⟩
 | r::R,v,⟨c,s⟩=>by
  obtain⟨cs,h1,h2⟩:=z3L s
  refine⟨c::cs,by simp[h1],fun k=>?_⟩
  have:=h2 k
  have this:v k-c*at0 r k=mix R cs k:=this
  show v k=c*at0 r k+mix R cs k
  omega
theorem z9Y{v:Row}{d:Int}:∀{R:List Row} {c:List Int},c.length=R.length→∀ k,mix (R++[v]) (c++[d]) k=mix R c k+d*at0 v k
 | [],[],_,k=>by simp[mix]
 | r::R,x::c,h,k=>by
  show x*at0 r k+mix (R++[v]) (c++[d]) k=x*at0 r k+mix R c k+d*at0 v k
  rw[z9Y (R:=R) (c:=c) (by simpa using h)];omega
theorem Ind.left{R:List Row}{v:Row}(h:Ind (R++[v])):Ind R:=fun c hl hz x hx=>by
 exact h (c++[0]) (by simp[hl]) (fun k=>by rw[z9Y hl,hz k];simp) x (List.mem_append.mpr (.inl hx))
theorem zbz{n:Nat}:∀{f:Nat} {S T:List Row} {u:Vec},Asc n f S→Asc n f T→T.map z02=S.map z02→(∀ r∈T,Span (vecs S) (fun k=>at0 r k))→Span (vecs S) u→∃ D:Int,D≠0∧Span (vecs T) (fun k=>D*u k)
 | f,[],[],u,_,_,_,_,s=>⟨1,by decide,fun k=>by have:=s k;show 1*u k=0;omega⟩
 | f,r::S,t::T,u,A,A',hh,hT,s=>by
  have hh':z02 t=z02 r∧T.map z02=S.map z02:=by simpa using hh
  have tz:∀{w:Vec},Span (vecs (r::S)) w→w (z02 r)=0→Span (vecs S) w:=fun{w} hw z=>by
    obtain⟨c,q⟩:=hw
    have e:=A.coef q
    have c0:c=0:=by
      rw[z]at e
      rcases Int.mul_eq_zero.mp e.symm with h|h
      · exact h
      · have:=A.2.2.2.1;omega
    subst c0
    exact Span.congr (fun k=>by simp) q
  have ht:Span (vecs (r::S)) (fun k=>at0 t k):=hT t List.mem_cons_self
  have w1:Span (vecs (r::S)) (fun k=>hd t*u k-u (z02 r)*at0 t k):=(s.smul (hd t)).sub (ht.smul (u (z02 r)))
  have w2:=tz w1 (by show hd t*u (z02 r)-u (z02 r)*at0 t (z02 r)=0;rw[←hh'.1];show hd t*_-_*hd t=0;rw[Int.mul_comm];omega)
  obtain⟨D,hD,q⟩:=zbz A.2.2.2.2 (by rw[←hh'.1];exact A'.2.2.2.2) hh'.2 (fun x hx=>tz (hT x (List.mem_cons_of_mem _ hx)) (z0q x _ (by have:=(A'.2.2.2.2.mem hx).2.1;omega))) w2
  refine⟨D*hd t,fun z=>?_,D*u (z02 r),Span.congr (fun k=>?_) q⟩
  · rcases Int.mul_eq_zero.mp z with z|z
    · exact hD z
    · have:=A'.2.2.2.1;omega
  · show D*(hd t*u k-u (z02 r)*at0 t k)=D*hd t*u k-D*u (z02 r)*at0 t k
    grind
 | f,[],t::T,u,_,_,hh,_,_=>by simp at hh
 | f,r::S,[],u,_,_,hh,_,_=>by simp at hh
theorem z3x:∀ S:List Row,(even S).length=S.length
 | []=>rfl
 | r::rs=>by rw[even,List.length_cons,List.length_cons,z3x rs]
theorem Good.step{n u B:Nat}{rows S0 S:List Row}{v:Row}(G:Good n B rows S0)(P:Post n u S0 v S):Good n B (rows++[v]) (even S):=by
  have es:=zbw P.asc
  have sp:SameSpan (vecs (v::S0)) (vecs (rows++[v])):=z5V (fun r hr=>by
      rcases List.mem_cons.mp hr with rfl|hr
      · exact z0h (List.mem_append.mpr (.inr List.mem_cons_self))
      · exact(G.span.iff.mp (z0h hr)).trans fun w hw=>by
          obtain⟨z,hz,rfl⟩:=List.mem_map.mp hw
          exact z0h (List.mem_append.mpr (.inl hz))) fun r hr=>by
      rcases List.mem_append.mp hr with hr|hr
      · exact(G.span.iff.mpr (z0h hr)).trans fun w hw=>by
          obtain⟨z,hz,rfl⟩:=List.mem_map.mp hw
          exact z0h (List.mem_cons_of_mem _ hz)
      · rcases List.mem_singleton.mp hr with rfl
        exact z0h List.mem_cons_self
  obtain⟨R,h1,h2,h3⟩:=G.ind
  have hlen:(even S).length≤(rows++[v]).length:=by
    rw[z3x,List.length_append]
    have:=G.len
    rcases P.more with h|⟨h,_⟩
    · have h:=congrArg List.length h
      simp at h ⊢
      omega
    · simp;omega
  refine⟨(z3g P.asc).1,zbv P.asc,SameSpan.trans es (P.span.trans sp),?_,hlen,fun hI=>?_⟩
  rotate_left
  · have hI0:=hI.left
    have hl0:=G.full hI0
    rcases P.more with h|⟨h,_⟩
    · exfalso
      have hv:Span (vecs S) (fun k=>at0 v k):=P.span.iff.mpr (z0h List.mem_cons_self)
      obtain⟨D,hD,q⟩:=zbz P.asc G.asc h.symm (fun r hr=>P.span.iff.mpr (z0h (List.mem_cons_of_mem _ hr))) hv
      obtain⟨c,hc,ec⟩:=z3L (G.span.iff.mp q)
      have:=hI (c++[-D]) (by simp[hc]) (fun k=>by rw[z9Y hc];have:=ec k;rw[←this,Int.neg_mul];show D*at0 v k+_=0;omega) (-D) (by simp)
      omega
    · rw[z3x,h,hl0];simp
  rcases P.more with h|⟨h,r,hr,hne⟩
  · exact⟨R,h1,by have h:=congrArg List.length h;simp at h;rw[z3x,h,h2],fun r hr=>List.mem_append.mpr (.inl (h3 r hr))⟩
  · refine⟨ v::R,?_,by rw[z3x,h,List.length_cons,h2],fun r hr=>?_⟩
    · intro cs hl hz
      cases cs with
      | nil=>intro c hc;cases hc
      | cons c cs =>
        have hl':cs.length=R.length:=by simpa using hl
        have hz:∀ k,c*at0 v k+mix R cs k=0:=hz
        by_cases c0:c=0
        · subst c0
          have z:=h1 cs hl' (fun k=>by have:=hz k;omega)
          intro d hd
          rcases List.mem_cons.mp hd with rfl|hd
          · rfl
          · exact z d hd
        · exfalso
          have cv:Span (vecs S0) (fun k=>c*at0 v k):=by
            have:Span (vecs S0) (mix R cs):=z7a fun r hr=>G.span.iff.mpr (z0h (h3 r hr))
            exact Span.congr (fun k=>by have:=hz k;omega) this.neg
          have all:∀ w:Vec,Span (vecs (v::S0)) w→Span (vecs S0) (fun k=>c*w k):=fun w hw=>by
            obtain⟨d,s⟩:=hw
            have s2:=(cv.smul d).add (s.smul c)
            refine Span.congr (fun k=>?_) s2
            show d*(c*at0 v k)+c*(w k-d*at0 v k)=c*w k
            grind
          have rs:Span (vecs (v::S0)) (fun k=>at0 r k):=P.span.iff.mp (z0h hr)
          have q:=P.asc.mem hr
          obtain⟨x,hx,e⟩:=G.asc.first (h:=z02 r) (all _ rs) (fun k hk=>by show c*at0 r k=0;rw[z0q r k hk];simp) (by
            show c*hd r≠0
            intro z
            rcases Int.mul_eq_zero.mp z with z|z
            · exact c0 z
            · omega)
          exact hne x hx e
    · rcases List.mem_cons.mp hr with rfl|hr
      · exact List.mem_append.mpr (.inr List.mem_cons_self)
      · exact List.mem_append.mpr (.inl (h3 r hr))
theorem z7b{r s B:Nat}(h:r≤s)(hB:0<B)(hs:0<s):bnd r B≤bnd s B:=by
 unfold bnd
 refine Nat.mul_le_mul ?_ (Nat.pow_le_pow_right (by decide) (Nat.mul_le_mul h h))
 have h1:2*r*B≤2*s*B:=Nat.mul_le_mul_right _ (Nat.mul_le_mul_left _ h)
 have h2:0<2*s*B:=Nat.mul_pos (by omega) hB
 exact Nat.le_trans (Nat.pow_le_pow_left h1 r) (Nat.pow_le_pow_right h2 h)
theorem z7c{n:Nat}:∀{f:Nat} {S:List Row},Asc n f S→f≤n→S.length≤n-f
 | f,[],_,_=>Nat.zero_le _
 | f,r::rs,⟨h1,h2,h3,h4,h5⟩,h=>by
  have:=z7c h5 (by omega)
  rw[List.length_cons];omega
end St

end
section
set_option linter.all false
set_option maxRecDepth 100000
set_option exponentiation.threshold 3000
namespace St
open Lat
theorem z9Z:∀{f:Nat} {S:List Row},Form f (z1i S)→∀{j k:Nat},j<k→k<S.length→0≤at0 (S.getD j []) (z02 (S.getD k []))∧at0 (S.getD j []) (z02 (S.getD k []))<hd (S.getD k [])
 | f,r::S,F,0,k+1,_,hk=>by
  have hk:k<S.length:=by simpa using hk
  have hm:S.getD k []∈S:=by simp[List.getD,List.getElem?_eq_getElem hk]
  have:=F.2.2.2.1 (z02 (S.getD k []),vec (S.getD k [])) (List.mem_map.mpr ⟨_,hm,rfl⟩)
  exact this
 | f,r::S,F,j+1,k+1,hjk,hk=>by
  have:=z9Z (S:=S) F.2.2.2.2 (j:=j) (k:=k) (by omega) (by simpa using hk)
  simpa[List.getD]using this
theorem z7d{n f:Nat}{S:List Row}(A:Asc n f S){k:Nat}(hk:k<S.length):(S.getD k []).length=n∧f≤z02 (S.getD k [])∧z02 (S.getD k [])<n∧0<hd (S.getD k []) :=
 A.mem (by simp[List.getD,List.getElem?_eq_getElem hk])
theorem zfd{n:Nat}:∀{f:Nat} {S:List Row},Asc n f S→∀{j k:Nat},j<k→k<S.length→z02 (S.getD j [])<z02 (S.getD k [])
 | f,r::S,A,0,k+1,_,hk=>by
  have hk:k<S.length:=by simpa using hk
  have hm:S.getD k []∈S:=by simp[List.getD,List.getElem?_eq_getElem hk]
  have:=(A.2.2.2.2.mem hm).2.1
  exact this
 | f,r::S,A,j+1,k+1,hjk,hk=>by
  have:=zfd (S:=S) A.2.2.2.2 (j:=j) (k:=k) (by omega) (by simpa using hk)
  simpa[List.getD]using this
theorem zjV(k:Nat)(h:k≤8):bnd k (10 ^ 30)+1≤2 ^ 900:=by
 have:=z7b (B:=10 ^ 30) h (by decide) (by decide)
 have e:bnd 8 (10 ^ 30)+1≤2 ^ 900:=by unfold bnd;decide
 omega
theorem z4c{r:Row}{B:Nat}(hB:0<B)(h:∀ x∈r,x.natAbs<B):Lt B r:=fun k=>by
 unfold at0 List.getD
 by_cases hk:k<r.length
 · rw[List.getElem?_eq_getElem hk]
   exact h _ (List.getElem_mem _)
 · rw[List.getElem?_eq_none (by omega)]
   exact hB
end St

end
section
local macro_rules|`(tactic| omega)=>`(tactic| first|lia|omega +splitDisjunctions)
set_option linter.all false
set_option maxRecDepth 100000
namespace St
open Lat
theorem Asc.tz{n f:Nat}{r:Row}{S:List Row}{w:Vec}(A:Asc n f (r::S))(hw:Span (vecs (r::S)) w)(z:w (z02 r)=0):Span (vecs S) w:=by
 obtain⟨c,q⟩:=hw
 have e:=A.coef q
 have c0:c=0:=by
  rw[z]at e
  rcases Int.mul_eq_zero.mp e.symm with h|h
  · exact h
  · have:=A.2.2.2.1;omega
 subst c0
 exact Span.congr (fun k=>by simp) q
theorem Asc.small0{n:Nat}:∀{f:Nat} {S:List Row} {u:Vec},Asc n f S→Span (vecs S) u→(∀ r∈S,0≤u (z02 r)∧u (z02 r)<hd r)→∀ k,u k=0
 | f,[],u,_,s,_=>s
 | f,r::S,u,A,s,h=>by
  have hr:=h r List.mem_cons_self
  have z:u (z02 r)=0:=by
   obtain⟨c,q⟩:=s
   have e:=A.coef q
   have c0:c=0:=z6n e A.2.2.2.1 (by omega) hr.2
   rw[e,c0];simp
  exact A.2.2.2.2.small0 (A.tz s z) fun x hx=>h x (List.mem_cons_of_mem _ hx)
def zjW(n:Nat):Row:=List.replicate n 0
theorem zkZ(n k:Nat):at0 (zjW n) k=0:=by
 unfold at0 zjW List.getD
 rw[List.getElem?_replicate]
 split<;>rfl
theorem zfe{R:List Row}(c:List Int):Span (vecs R) (mix R c):=z7a fun r hr=>z0h hr
theorem zcM{n:Nat}:∀{R:List Row} {c:List Int},(∀ r∈R,r.length=n)→∀ k,n≤k→mix R c k=0
 | [],c,_,k,_=>by simp[mix]
 | r::R,[],_,k,_=>by simp[mix]
 | r::R,x::c,h,k,hk=>by
  show x*at0 r k+mix R c k=0
  rw[zcM (fun y hy=>h y (List.mem_cons_of_mem _ hy)) k hk,z0Y (by rw[h r List.mem_cons_self];exact hk)];simp
abbrev Ab(a b:Row):Prop:=0≤at0 a (z02 b)∧at0 a (z02 b)<hd b
theorem za{n:Nat}:∀{f:Nat} {S:List Row},Asc n f S→(Form f (z1i S)↔S.Pairwise Ab)
 | f,[],_=>by simp[z1i,Form]
 | f,r::S,A=>by
  have ih:=za A.2.2.2.2
  rw[List.pairwise_cons,←ih]
  constructor
  · intro F
    exact⟨fun b hb=>F.2.2.2.1 (z02 b,vec b) (List.mem_map.mpr ⟨b,hb,rfl⟩),F.2.2.2.2⟩
  · rintro⟨h1,h2⟩
    refine⟨A.2.1,fun k hk=>z0q r k hk,A.2.2.2.1,fun p hp=>?_,h2⟩
    obtain⟨b,hb,rfl⟩:=List.mem_map.mp hp
    exact h1 b hb
theorem z5W{n:Nat}{a b:Row}(h:a.length=n)(k:Nat):at0 (a++b) k=if k<n then at0 a k else at0 b (k-n):=by
 subst h
 unfold at0 List.getD
 rw[List.getElem?_append]
 split<;>rfl
theorem z1C(r:Row)(n k:Nat):at0 (r.take n) k=if k<n then at0 r k else 0:=by
 unfold at0 List.getD
 rw[List.getElem?_take]
 split<;>rfl
theorem z2Y(r:Row)(n k:Nat):at0 (r.drop n) k=at0 r (n+k):=by
 unfold at0 List.getD
 rw[List.getElem?_drop]
def z1Z(m j:Nat):Row:=(List.range m).map fun k=>if k=j then 1 else 0
theorem zbA(m j:Nat):(z1Z m j).length=m:=by unfold z1Z;simp
theorem z7e(m j k:Nat):at0 (z1Z m j) k=if k=j∧k<m then 1 else 0:=by
 unfold at0 z1Z List.getD
 rw[List.getElem?_map]
 by_cases hk:k<m
 · rw[List.getElem?_range hk];simp[hk]
 · rw[List.getElem?_eq_none (by simpa using hk)];simp[hk]
def tagF(m:Nat):Nat→List Row→List Row
 | _,[]=>[]
 | s,b::bs=>(b++z1Z m s)::tagF m (s+1) bs
abbrev z5d(bills:List Row):List Row:=tagF bills.length 0 bills
theorem z5e(m:Nat):∀(s:Nat) (bs:List Row),(tagF m s bs).length=bs.length
 | s,[]=>rfl
 | s,b::bs=>by rw[tagF,List.length_cons,List.length_cons,z5e]
theorem zdR(m:Nat):∀{s:Nat} {bs:List Row} {r:Row},r∈tagF m s bs→∃ b∈bs,∃ j,r=b++z1Z m j
 | s,b::bs,r,h=>by
  rcases List.mem_cons.mp h with rfl|h
  · exact⟨b,List.mem_cons_self,s,rfl⟩
  · obtain⟨b',hb,j,e⟩:=zdR m h
    exact⟨b',List.mem_cons_of_mem _ hb,j,e⟩
theorem z5f{n m:Nat}:∀{s:Nat} {bs:List Row} {c:List Int} {k:Nat},(∀ b∈bs,b.length=n)→k<n→mix (tagF m s bs) c k=mix bs c k
 | s,[],c,k,_,_=>by simp[tagF,mix]
 | s,b::bs,[],k,_,_=>by simp[tagF,mix]
 | s,b::bs,x::c,k,h,hk=>by
  show x*at0 (b++z1Z m s) k+mix (tagF m (s+1) bs) c k=x*at0 b k+mix bs c k
  rw[z5f (fun y hy=>h y (List.mem_cons_of_mem _ hy)) hk,z5W (h b List.mem_cons_self),if_pos hk]
theorem z7f{n m:Nat}:∀{s:Nat} {bs:List Row} {c:List Int} {i:Nat},(∀ b∈bs,b.length=n)→c.length=bs.length→s+bs.length≤m→mix (tagF m s bs) c (n+i)=if s≤i∧i<s+bs.length then at0 c (i-s) else 0
 | s,[],[],i,_,_,_=>by simp[tagF,mix];intros;omega
 | s,b::bs,x::c,i,h,hl,hs=>by
  have ih:=z7f (n:=n) (m:=m) (s:=s+1) (bs:=bs) (c:=c) (i:=i) (fun y hy=>h y (List.mem_cons_of_mem _ hy)) (by simpa using hl) (by simp at hs;omega)
  show x*at0 (b++z1Z m s) (n+i)+mix (tagF m (s+1) bs) c (n+i)=_
  rw[ih,z5W (h b List.mem_cons_self),if_neg (by omega),z7e,show n+i-n=i by omega]
  have hlen:(b::bs).length=bs.length+1:=rfl
  rw[hlen]
  have hm:s<m:=by simp at hs;omega
  by_cases h1:i=s
  · subst h1
    rw[if_pos ⟨rfl,hm⟩,if_neg (by omega),if_pos (by omega)]
    simp[at0]
  · rw[if_neg (by omega)]
    by_cases h2:s+1≤i∧i<s+1+bs.length
    · rw[if_pos h2,if_pos (by omega)]
      have:i-s=(i-(s+1))+1:=by omega
      rw[this]
      simp[at0]
    · rw[if_neg h2,if_neg (by omega)];simp
theorem za0{n:Nat}{bills:List Row}{c:List Int}(h:∀ b∈bills,b.length=n)(hl:c.length=bills.length)(i:Nat):mix (z5d bills) c (n+i)=at0 c i:=by
 rw[z7f h hl (by omega)]
 split
 · simp
 · rw[z0Y (by omega)]
theorem za1{n:Nat}{bills:List Row}(h:∀ b∈bills,b.length=n):Ind (z5d bills):=fun c hl hz x hx=>by
 rw[z5e]at hl
 obtain⟨i,hi,e⟩:=List.mem_iff_getElem.mp hx
 have:=hz (n+i)
 rw[za0 h hl]at this
 rw[←e]
 simpa[at0,List.getD,List.getElem?_eq_getElem hi]using this
theorem zmn{n:Nat}{bills:List Row}{u:Row}(h:∀ b∈bills,b.length=n)(hu:u.length=n+bills.length):Span (vecs (z5d bills)) (fun k=>at0 u k)↔∀ k,k<n→at0 u k=mix bills (u.drop n) k:=by
 have hd:(u.drop n).length=bills.length:=by rw[List.length_drop];omega
 constructor
 · intro s k hk
   obtain⟨c,hc,e⟩:=z3L s
   rw[z5e]at hc
   have:c=u.drop n:=ext0 (by rw[hc,hd]) fun i=>by
     rw[z2Y,←za0 h hc i]
     exact(e (n+i)).symm
   have e1:=e k
   rw[z5f h hk,this]at e1
   exact e1
 · intro q
   refine Span.congr (fun k=>?_) (zfe (u.drop n))
   by_cases hk:k<n
   · rw[z5f h hk,q k hk]
   · have:k=n+(k-n):=by omega
     rw[this,za0 h hd,z2Y]
theorem za2{N n:Nat}:∀{f:Nat} {S:List Row},Asc N f S→S=S.filter (fun r=>decide (z02 r<n))++S.filter (fun r=>!decide (z02 r<n))
 | f,[],_=>rfl
 | f,r::S,A=>by
  have ih:=za2 (n:=n) A.2.2.2.2
  by_cases h:z02 r<n
  · rw[List.filter_cons,List.filter_cons]
    simp only[h,decide_true,if_true,Bool.not_true,Bool.false_eq_true,if_false]
    rw[List.cons_append,←ih]
  · have e:S.filter (fun r=>decide (z02 r<n))=[]:=List.filter_eq_nil_iff.mpr fun x hx=>by have:=(A.2.2.2.2.mem hx).2.1;simp;omega
    rw[e,List.nil_append]at ih
    rw[List.filter_cons,List.filter_cons]
    simp only[h,decide_false,Bool.not_false,if_true,Bool.false_eq_true,if_false]
    rw[e,List.nil_append,←ih]
def tops(n:Nat)(S:List Row):List Row:=(S.filter fun r=>decide (z02 r<n)).map (·.take n)
def bots(n:Nat)(S:List Row):List Row:=(S.filter fun r=>!decide (z02 r<n)).map (·.drop n)
theorem z7Z{r:Row}{n:Nat}(h:z02 r<n)(hl:z02 r<r.length):z02 (r.take n)=z02 r:=z2E _ _ (fun k hk=>by rw[z1C,if_pos (by omega)];exact z0q r k hk) (by rw[z1C,if_pos h];exact z78 r hl)
section
variable {n N:Nat}{S:List Row}
theorem za3(A:Asc N 0 S)(hN:n≤N):Asc n 0 (tops n S)∧(tops n S).length=(S.filter fun r=>decide (z02 r<n)).length:=by
 have Q:=Asc.iff.mp A
 refine⟨Asc.iff.mpr ⟨fun x hx=>?_,?_⟩,by unfold tops;simp⟩
 · obtain⟨r,hr,rfl⟩:=List.mem_map.mp hx
   obtain⟨hr,hd'⟩:=List.mem_filter.mp hr
   have hd':z02 r<n:=by simpa using hd'
   have q:=Q.1 r hr
   have e:=z7Z hd' (by omega)
   refine⟨by rw[List.length_take];omega,Nat.zero_le _,by rw[e];exact hd',?_⟩
   unfold hd
   rw[e,z1C,if_pos hd']
   exact q.2.2.2
 · have e:(tops n S).map z02=(S.filter fun r=>decide (z02 r<n)).map z02:=by
    unfold tops
    rw[List.map_map]
    apply List.map_congr_left
    intro r hr
    obtain⟨hr,hd'⟩:=List.mem_filter.mp hr
    exact z7Z (by simpa using hd') (by have:=Q.1 r hr;omega)
   rw[e]
   exact Q.2.sublist (List.filter_sublist.map _)
theorem zbB(A:Asc N 0 S)(F:Form 0 (z1i S))(hN:n≤N):Form 0 (z1i (tops n S)):=by
 have Q:=Asc.iff.mp A
 rw[za (za3 A hN).1]
 have P:=(za A).mp F
 unfold tops
 rw[List.pairwise_map]
 refine List.Pairwise.imp_of_mem (fun{a b} ha hb h=>?_) (P.sublist List.filter_sublist)
 obtain⟨hb,hd'⟩:=List.mem_filter.mp hb
 have hd':z02 b<n:=by simpa using hd'
 have e:=z7Z hd' (by have:=Q.1 b hb;omega)
 unfold Ab hd at *
 rw[e,z1C,if_pos hd',z1C,if_pos hd']
 exact h
theorem zbC(A:Asc N 0 S){v:Vec}(s:Span (vecs S) v):Span (vecs (tops n S)) (fun k=>if k<n then v k else 0):=by
 refine Span.least (P:=fun v=>Span (vecs (tops n S)) (fun k=>if k<n then v k else 0)) ?_ (fun v w hv hw=>?_) (fun c v hv=>?_) (fun x hx=>?_) s
 · exact Span.congr (fun k=>by split<;>rfl) Span.zero
 · exact Span.congr (fun k=>by split<;>rfl) (hv.add hw)
 · refine Span.congr (fun k=>?_) (hv.smul c)
   split
   · rfl
   · simp
 · obtain⟨r,hr,rfl⟩:=List.mem_map.mp hx
   by_cases h:z02 r<n
   · have hm:r.take n∈tops n S:=List.mem_map.mpr ⟨r,List.mem_filter.mpr ⟨hr,by simpa using h⟩,rfl⟩
     exact Span.congr (fun k=>z1C r n k) (z0h hm)
   · refine Span.congr (fun k=>?_) Span.zero
     split
     · rw[show vec r k=0 from z0q r k (by omega)]
     · rfl
end
structure Tag(n:Nat)(bills S:List Row):Prop where
 wide:∀ b∈bills,b.length=n
 asc:Asc (n+bills.length) 0 S
 form:Form 0 (z1i S)
 span:SameSpan (vecs S) (vecs (z5d bills))
 full:S.length=bills.length
theorem Good.tag{n B:Nat}{bills S:List Row}(h:∀ b∈bills,b.length=n)(G:Good (n+bills.length) B (z5d bills) S):Tag n bills S :=
 ⟨h,G.asc,G.form,G.span,by rw[G.full (za1 h),z5e]⟩
end St

end
section
local macro_rules|`(tactic| omega)=>`(tactic| first|lia|omega +splitDisjunctions)
set_option linter.all false
set_option maxRecDepth 100000
namespace St
open Lat
theorem z1f{B:List Row}{i:Nat}(h:i<B.length):B.getD i []∈B:=by simp[List.getD,List.getElem?_eq_getElem h]
end St
namespace St
open Lat
theorem Asc.small{n:Nat}:∀{f:Nat} {S:List Row} {u:Vec},Asc n f S→Span (vecs S) u→(∀ r∈S,-(hd r)<u (z02 r)∧u (z02 r)<hd r)→∀ k,u k=0
 | f,[],u,_,s,_=>s
 | f,r::S,u,A,s,h=>by
  have hr:=h r List.mem_cons_self
  have z:u (z02 r)=0:=by
   obtain⟨c,q⟩:=s
   have e:=A.coef q
   have c0:c=0:=z6n e A.2.2.2.1 hr.1 hr.2
   rw[e,c0];simp
  exact A.2.2.2.2.small (A.tz s z) fun x hx=>h x (List.mem_cons_of_mem _ hx)
theorem zl0{n:Nat}{S:List Row}{u v:Row}(A:Asc n 0 S)(hu:u.length=n)(hv:v.length=n)(s:Span (vecs S) (fun k=>at0 u k-at0 v k))(h1:∀ r∈S,0≤at0 u (z02 r)∧at0 u (z02 r)<hd r)(h2:∀ r∈S,0≤at0 v (z02 r)∧at0 v (z02 r)<hd r):u=v:=by
 refine ext0 (by omega) fun k=>?_
 have:=A.small s (fun r hr=>by have:=h1 r hr;have:=h2 r hr;omega) k
 omega
theorem zdS{n:Nat}{S:List Row}{u v:Row}(A:Asc n 0 S)(hu:u.length=n)(hv:v.length=n)(s:Span (vecs S) (fun k=>at0 u k-at0 v k)):z0f u S=z0f v S:=by
 refine zl0 A (z1K A hu) (z1K A hv) ?_ (z2a A hu) (z2a A hv)
 have s1:=z1t A hu
 have s2:=z1t A hv
 exact Span.congr (fun k=>by omega) ((s.sub s1).add s2)
end St

end
section
set_option linter.all false
set_option maxRecDepth 100000
namespace St
open Lat
def sm:Nat→(Nat→Int)→Int
 | 0,_=>0
 | m+1,f=>f 0+sm m (fun k=>f (k+1))
theorem z0s:∀{m:Nat} {f g:Nat→Int},(∀ k,k<m→f k=g k)→sm m f=sm m g
 | 0,_,_,_=>rfl
 | m+1,f,g,h=>by rw[sm,sm,h 0 (by omega),z0s fun k hk=>h (k+1) (by omega)]
theorem z0E{m:Nat}{f:Nat→Int}(h:∀ k,k<m→f k=0):sm m f=0:=by
 rw[z0s h]
 induction m with
 | zero=>rfl
 | succ m ih=>rw[sm,ih fun k hk=>h k (by omega)];rfl
theorem z80:∀(m:Nat) (f g:Nat→Int),sm m (fun k=>f k+g k)=sm m f+sm m g
 | 0,_,_=>rfl
 | m+1,f,g=>by rw[sm,sm,sm,z80 m];omega
theorem z2F(c:Int):∀(m:Nat) (f:Nat→Int),sm m (fun k=>c*f k)=c*sm m f
 | 0,_=>by simp[sm]
 | m+1,f=>by rw[sm,sm,z2F c m,Int.mul_add]
theorem zcN(c:Int)(m:Nat)(f:Nat→Int):sm m (fun k=>f k*c)=sm m f*c:=by
 rw[Int.mul_comm,←z2F];exact z0s fun k _=>Int.mul_comm _ _
theorem za4(m:Nat)(f g:Nat→Int):sm m (fun k=>f k-g k)=sm m f-sm m g:=by
 have:=z80 m f (fun k=>(-1)*g k)
 rw[z2F]at this
 rw[z0s (g:=fun k=>f k+(-1)*g k) fun k _=>by omega,this];omega
theorem z9i:∀(m p:Nat) (f:Nat→Nat→Int),sm m (fun i=>sm p (fun j=>f i j))=sm p (fun j=>sm m (fun i=>f i j))
 | 0,p,f=>by rw[sm];exact(z0E fun k _=>rfl).symm
 | m+1,p,f=>by rw[sm,z9i m p,←z80];rfl
theorem z2n:∀{m i:Nat} {f:Nat→Int},i<m→(∀ k,k<m→k≠i→f k=0)→sm m f=f i
 | m+1,0,f,_,z=>by rw[sm,z0E fun k hk=>z (k+1) (by omega) (by omega)];omega
 | m+1,i+1,f,h,z=>by rw[sm,z 0 (by omega) (by omega),z2n (i:=i) (by omega) fun k hk hn=>z (k+1) (by omega) (by omega)];omega
def ent(A:List Row)(i j:Nat):Int:=at0 (A.getD i []) j
theorem zq3(k:Nat):at0 [] k=0:=by simp[at0]
theorem z0S{A:List Row}{i:Nat}(h:A.length≤i)(j:Nat):ent A i j=0:=by
 unfold ent;rw[show A.getD i []=[] by simp[List.getD,List.getElem?_eq_none h],zq3]
theorem zcO{A:List Row}{m i j:Nat}(hl:∀ r∈A,r.length=m)(h:m≤j):ent A i j=0:=by
 by_cases hi:i<A.length
 · unfold ent;exact z0Y (by rw[hl _ (z1f hi)];exact h)
 · exact z0S (by omega) j
theorem zdT(r:Row)(A:List Row)(i j:Nat):ent (r::A) (i+1) j=ent A i j:=rfl
theorem z1g:∀{A:List Row} {v:Vec},Span (vecs A) v↔∃ c:Nat→Int,∀ k,v k=sm A.length (fun i=>c i*ent A i k)
 | [],v=>⟨fun h=>⟨fun _=>0,h⟩,fun⟨_,h⟩=>h⟩
 | r::A,v=>by
  constructor
  · rintro⟨c0,h⟩
    obtain⟨c,h⟩:=z1g.mp h
    refine⟨fun i=>match i with|0=>c0|i+1=>c i,fun k=>?_⟩
    have:v k-c0*at0 r k=sm A.length (fun i=>c i*ent A i k):=h k
    rw[List.length_cons,sm]
    show v k=c0*at0 r k+sm A.length (fun i=>c i*ent A i k)
    omega
  · rintro⟨c,h⟩
    refine⟨c 0,z1g.mpr ⟨fun i=>c (i+1),fun k=>?_⟩⟩
    have:=h k
    rw[List.length_cons,sm]at this
    show v k-c 0*at0 r k=sm A.length (fun i=>c (i+1)*ent A i k)
    have e:ent (r::A) 0 k=at0 r k:=rfl
    rw[e]at this
    simp only[zdT]at this
    omega
theorem z2o{A:List Row}{i:Nat}(h:i<A.length):Span (vecs A) (fun k=>ent A i k):=z0h (z1f h)
def trn(m:Nat)(A:List Row):List Row:=(List.range m).map fun k=>A.map fun r=>at0 r k
theorem z0Z(m:Nat)(A:List Row):(trn m A).length=m:=by simp[trn]
theorem z3b{m:Nat}{A:List Row}{r:Row}(h:r∈trn m A):r.length=A.length:=by
 obtain⟨k,_,rfl⟩:=List.mem_map.mp h;simp
theorem zmo(m:Nat)(A:List Row)(k i:Nat):ent (trn m A) k i=if k<m then ent A i k else 0:=by
 by_cases h:k<m
 · rw[if_pos h]
   unfold ent trn at0
   rw[show((List.range m).map fun k=>A.map fun r=>r.getD k 0).getD k []=A.map fun r=>r.getD k 0 by simp[List.getD,h]]
   by_cases hi:i<A.length
   · simp[List.getD,List.getElem?_eq_getElem hi]
   · simp[List.getD,List.getElem?_eq_none (Nat.le_of_not_lt hi)]
 · rw[if_neg h,z0S (by rw[z0Z];omega)]
theorem z1v{m:Nat}{A:List Row}(hl:∀ r∈A,r.length=m)(k i:Nat):ent (trn m A) k i=ent A i k:=by
 rw[zmo];split
 · rfl
 · exact(zcO hl (by omega)).symm
theorem zq4{A B:List Row}{m:Nat}(h:A.length=B.length)(ha:∀ r∈A,r.length=m)(hb:∀ r∈B,r.length=m)(q:∀ i k,ent A i k=ent B i k):A=B:=by
 refine List.ext_getElem h fun i h1 h2=>?_
 have e1:A.getD i []=A[i]:=by simp[List.getD,List.getElem?_eq_getElem h1]
 have e2:B.getD i []=B[i]:=by simp[List.getD,List.getElem?_eq_getElem h2]
 refine ext0 (by rw[ha _ (List.getElem_mem h1),hb _ (List.getElem_mem h2)]) fun k=>?_
 have:=q i k
 unfold ent at this
 rw[e1,e2]at this;exact this
theorem zq5{m p:Nat}{A:List Row}(hl:∀ r∈A,r.length=m)(hp:A.length=p):trn p (trn m A)=A:=by
 refine zq4 (m:=m) (by rw[z0Z,hp]) (fun r hr=>by rw[z3b hr,z0Z]) hl fun i k=>?_
 rw[z1v (fun r hr=>by rw[z3b hr,hp]),z1v hl]
structure Sq(r:Nat)(A:List Row):Prop where
 asc:Asc r 0 A
 form:Form 0 (z1i A)
 len:A.length=r
theorem zbD{n:Nat}:∀{f:Nat} {S:List Row} {i:Nat},Asc n f S→i<S.length→f+i≤z02 (S.getD i [])∧z02 (S.getD i [])+(S.length-i)≤n
 | f,r::S,0,⟨h1,h2,h3,h4,h5⟩,_=>by
  have:=z7c h5 (by omega)
  show f+0≤z02 r∧z02 r+(S.length+1-0)≤n
  omega
 | f,r::S,i+1,⟨h1,h2,h3,h4,h5⟩,h=>by
  obtain⟨a,b⟩:=zbD (i:=i) h5 (by simpa using h)
  have e:(r::S).getD (i+1) []=S.getD i []:=rfl
  rw[e,List.length_cons]
  omega
variable {r:Nat}{A:List Row}
theorem Sq.rows(q:Sq r A):∀ x∈A,x.length=r:=fun x hx=>(q.asc.mem hx).1
theorem Sq.head(q:Sq r A){i:Nat}(hi:i<r):z02 (A.getD i [])=i:=by
 have:=zbD q.asc (i:=i) (by rw[q.len];exact hi)
 have:=q.len
 omega
theorem Sq.pos(q:Sq r A){i:Nat}(hi:i<r):0<ent A i i:=by
 have:=(z7d q.asc (k:=i) (by rw[q.len];exact hi)).2.2.2
 unfold hd at this
 rw[q.head hi]at this
 exact this
theorem Sq.low(q:Sq r A){i j:Nat}(h:j<i):ent A i j=0:=by
 by_cases hi:i<r
 · exact z0q _ _ (by rw[q.head hi];exact h)
 · exact z0S (by rw[q.len];omega) j
theorem Sq.red(q:Sq r A){i j:Nat}(h:i<j)(hj:j<r):0≤ent A i j∧ent A i j<ent A j j:=by
 have:=z9Z q.form (j:=i) (k:=j) h (by rw[q.len];exact hj)
 unfold hd at this
 rw[q.head hj]at this
 exact this
theorem Sq.far(q:Sq r A){i j:Nat}(h:r≤j):ent A i j=0:=zcO q.rows h
theorem zcP{n:Nat}:∀{f:Nat} {S:List Row} {v:Vec} {x:Row},Asc n f S→Span (vecs S) v→(∀ k,k<z02 x→v k=0)→x∈S→hd x∣v (z02 x)
 | f,r::S,v,x,A,⟨c,s⟩,z,hx=>by
  have e:=A.coef s
  rcases List.mem_cons.mp hx with rfl|hx
  · exact⟨c,by rw[e];exact Int.mul_comm _ _⟩
  · have hh:=(A.2.2.2.2.mem hx).2.1
    have e0:=z (z02 r) (by omega)
    have hp:=A.2.2.2.1
    have hc:c=0:=by
     rw[e0]at e
     rcases Int.mul_eq_zero.mp e.symm with h|h
     · exact h
     · omega
    subst hc
    exact zcP A.2.2.2.2 (Span.congr (fun k=>by simp) s) z hx
theorem Sq.dvd(q:Sq r A){v:Vec}{i:Nat}(hi:i<r)(s:Span (vecs A) v)(z:∀ k,k<i→v k=0):ent A i i∣v i:=by
 have h:=zcP q.asc s (x:=A.getD i []) (fun k hk=>z k (by rw[q.head hi]at hk;exact hk)) (z1f (by rw[q.len];exact hi))
 unfold hd at h
 rw[q.head hi]at h
 exact h
abbrev pt(i:Nat)(d:Int):Vec:=fun k=>if k=i then d else 0
theorem Sq.clean(q:Sq r A){i:Nat}{d:Int}(hi:i<r)(hd:0<d)(h1:Span (vecs A) (pt i d))(h2:∀ y,Span (vecs A) y→d∣y i):∀ k,ent A i k=pt i d k:=by
 have a:=q.dvd hi h1 fun k hk=>by simp[pt];omega
 have b:=h2 _ (z2o (by rw[q.len];exact hi))
 have e:ent A i i=d:=Int.dvd_antisymm (Int.le_of_lt (q.pos hi)) (Int.le_of_lt hd) (by simpa[pt]using a) b
 have u:Span (vecs A) (fun k=>ent A i k-pt i d k):=(z2o (by rw[q.len];exact hi)).sub h1
 have z:=Asc.small0 q.asc u fun x hx=>by
  obtain⟨j,hj,rfl⟩:=List.getElem_of_mem hx
  have ej:A[j]=A.getD j []:=by simp[List.getD,List.getElem?_eq_getElem hj]
  rw[q.len]at hj
  have hp:=q.pos hj
  unfold St.hd
  rw[ej,q.head hj]
  show 0≤ent A i j-pt i d j∧ent A i j-pt i d j<ent A j j
  rcases Nat.lt_trichotomy j i with h|h|h
  · rw[q.low h];simp only[pt];rw[if_neg (by omega)];omega
  · subst h;simp only[pt,if_true];omega
  · have:=q.red h hj;simp only[pt];rw[if_neg (by omega)];omega
 intro k
 have:=z k
 omega
def Clean(t:Nat)(A:List Row):Prop:=∀ i,i<t→∀ k,k≠i→ent A i k=0
theorem z2Z{y:Vec}(hl:∀ x∈A,x.length=r):Span (vecs (trn r A)) y↔∃ c:Nat→Int,∀ k,y k=sm r (fun j=>c j*ent A k j):=by
 rw[z1g]
 simp only[z0Z,z1v hl]
theorem Clean.dvd(q:Sq r A){t i:Nat}(c:Clean t A)(hi:i<t){y:Vec}(s:Span (vecs (trn r A)) y):ent A i i∣y i:=by
 by_cases hr:i<r
 · obtain⟨c',h⟩:=(z2Z q.rows).mp s
   rw[h i,z2n hr fun k _ hn=>by rw[c i hi k hn];simp]
   exact⟨c' i,Int.mul_comm _ _⟩
 · rw[q.far (by omega)]
   obtain⟨c',h⟩:=(z2Z q.rows).mp s
   rw[h i,z0E fun k hk=>by rw[c i hi k (by omega)];simp]
   exact⟨0,rfl⟩
theorem Clean.col(q:Sq r A){t:Nat}(c:Clean t A){i:Nat}(hi:i≤t)(hr:i<r):Span (vecs (trn r A)) (pt i (ent A i i)):=by
 refine Span.congr (fun k=>?_) (z2o (A:=trn r A) (i:=i) (by rw[z0Z];exact hr))
 rw[z1v q.rows]
 simp only[pt]
 by_cases h:k=i
 · subst h;rw[if_pos rfl]
 · rw[if_neg h]
   by_cases hk:k<i
   · exact c k (by omega) i (by omega)
   · exact q.low (by omega)
theorem half{X Y:List Row}{t:Nat}(x:Sq r X)(y:Sq r Y)(s:SameSpan (vecs Y) (vecs (trn r X)))(c:Clean t X)(ht:t≤r):
   Clean t Y∧(∀ i,i<t→ent Y i i=ent X i i)∧(t<r→ent Y t t∣ent X t t∧(ent Y t t=ent X t t→Clean (t+1) Y)):=by
 have key:∀ i,i<t→∀ k,ent Y i k=pt i (ent X i i) k:=fun i hi=>y.clean (by omega) (x.pos (by omega)) (s.iff.mpr (c.col x (by omega) (by omega))) fun v hv=>c.dvd x hi (s.iff.mp hv)
 have cl:Clean t Y:=fun i hi k hn=>by rw[key i hi];simp[pt,hn]
 refine⟨cl,fun i hi=>by rw[key i hi];simp[pt],fun h=>?_⟩
 have sp:=s.iff.mpr (c.col x (Nat.le_refl t) h)
 have d:=y.dvd h sp fun k hk=>by simp[pt];omega
 simp only[pt,if_true]at d
 refine⟨d,fun e=>?_⟩
 have k2:=y.clean (i:=t) (d:=ent X t t) h (x.pos h) sp fun v hv=>by
   obtain⟨c',hc⟩:=z1g.mp hv
   rw[hc t,y.len,z2n h fun k hk hn=>?_]
   · rw[e];exact⟨c' t,Int.mul_comm _ _⟩
   · rcases Nat.lt_or_gt_of_ne hn with hlt|hgt
     · rw[cl k hlt t (by omega)];simp
     · rw[y.low hgt];simp
 intro i hi k hn
 by_cases ht:i<t
 · exact cl i ht k hn
 · have:i=t:=by omega
   subst this
   rw[k2];simp[pt,hn]
theorem zdU{X Y Z:List Row}{t:Nat}(x:Sq r X)(y:Sq r Y)(z:Sq r Z)(s:SameSpan (vecs Y) (vecs (trn r X)))(s':SameSpan (vecs Z) (vecs (trn r Y)))(c:Clean t X)(ht:t<r):
   Clean t Z∧(Clean (t+1) Z∨ent Z t t<ent X t t):=by
 obtain⟨a1,a2,a3⟩:=half x y s c (by omega)
 obtain⟨b1,b2,b3⟩:=half y z s' a1 (by omega)
 obtain⟨a4,a5⟩:=a3 ht
 obtain⟨b4,b5⟩:=b3 ht
 have xp:=x.pos ht
 have yp:=y.pos ht
 have zp:=z.pos ht
 have l1:=Int.le_of_dvd xp a4
 have l2:=Int.le_of_dvd yp b4
 refine⟨b1,?_⟩
 by_cases e:ent Z t t=ent X t t
 · left
   have cy:=a5 (by omega)
   obtain⟨d1,_,_⟩:=half y z s' cy (by omega)
   exact d1
 · right;omega
def z2p(r:Nat)(w:Int)(A:List Row):Prop:=∀ i,i<r→Span (vecs A) (pt i w)
theorem Sq.comm(q:Sq r A){w:Int}(h:z2p r w A):z2p r w (trn r A):=by
 have hM:∃ M:Nat→Nat→Int,∀ i,i<r→∀ k,pt i w k=sm r (fun j=>M i j*ent A j k):=by
   have:∀ i,∃ c:Nat→Int,i<r→∀ k,pt i w k=sm r (fun j=>c j*ent A j k):=fun i=>by
     by_cases hi:i<r
     · obtain⟨c,hc⟩:=z1g.mp (h i hi)
       rw[q.len]at hc
       exact⟨c,fun _=>hc⟩
     · exact⟨fun _=>0,fun h=>absurd h hi⟩
   exact⟨fun i=>Classical.choose (this i),fun i hi=>Classical.choose_spec (this i) hi⟩
 obtain⟨M,hM⟩:=hM
 have indep:∀ z:Nat→Int,(∀ k,k<r→sm r (fun j=>z j*ent A j k)=0)→∀ j,j<r→z j=0:=fun z hz j=>by
   induction j using Nat.strongRecOn with
   | ind j ih =>
     intro hj
     have e:=hz j hj
     rw[z2n hj fun k hk hn=>?_]at e
     · rcases Int.mul_eq_zero.mp e with h|h
       · exact h
       · have:=q.pos hj;omega
     · rcases Nat.lt_or_gt_of_ne hn with h|h
       · rw[ih k h hk];simp
       · rw[q.low h];simp
 intro i hi
 refine(z2Z q.rows).mpr ⟨fun j=>M j i,fun k=>?_⟩
 by_cases hk:k<r
 · have:=indep (fun i=>sm r (fun j=>M j i*ent A k j)-pt i w k) (fun m hm=>?_) i hi
   · have hs:pt i w k=pt k w i:=by simp only[pt];split<;>split<;>first|rfl|omega
     show pt i w k=sm r (fun j=>M j i*ent A k j)
     rw[hs]
     have this:sm r (fun j=>M j i*ent A k j)-pt i w k=0:=this
     omega
   · rw[z0s (g:=fun i=>sm r (fun j=>(ent A k j*(M j i*ent A i m)))-pt i w k*ent A i m) fun i _=>?_]
     · rw[za4,z9i,z0s (g:=fun j=>ent A k j*pt j w m) fun j hj=>?_]
       · rw[z2n (i:=m) hm fun j _ hn=>by simp only[pt];rw[if_neg (by omega)];simp]
         rw[z2n (i:=k) hk fun j _ hn=>by simp only[pt];rw[if_neg (by omega)];simp]
         simp only[pt,if_true]
         rw[Int.mul_comm];omega
       · rw[z2F,←hM j hj m]
     · rw[Int.sub_mul,←zcN]
       congr 1
       exact z0s fun j _=>by rw[Int.mul_comm (M j i),Int.mul_assoc]
 · have:pt i w k=0:=by simp only[pt];rw[if_neg (by omega)]
   rw[show(pt i w) k=0 from this,z0E fun j _=>by rw[z0S (A:=A) (i:=k) (by rw[q.len];omega)];simp]
theorem Sq.whole(q:Sq r A){w:Int}(h:z2p r w A){i:Nat}(hi:i<r):ent A i i∣w:=by
 have:=q.dvd hi (h i hi) fun k hk=>by simp[pt];omega
 simpa[pt]using this
end St

end
section
set_option linter.all false
set_option maxRecDepth 100000
namespace St
open Lat
theorem zmp:∀{m k:Nat} {f:Nat→Int},k≤m→(∀ i,k≤i→i<m→f i=0)→sm m f=sm k f
 | m,0,f,_,z=>z0E fun i hi=>z i (Nat.zero_le _) hi
 | m+1,k+1,f,h,z=>by rw[sm,sm,zmp (k:=k) (by omega) fun i h1 h2=>z (i+1) (by omega) (by omega)]
theorem z7g{m a:Nat}{c:Nat→Int}{D:Nat→Nat→Int}(hd:∀ l,l<m→D l l≠0)(hl:∀ l j,l<j→j<m→D l j=0)(h:∀ j,a≤j→j<m→sm m (fun l=>c l*D l j)=0):
  ∀ d l,l+d=m→a≤l→l<m→c l=0:=fun d=>by
 induction d using Nat.strongRecOn with
 | ind d ih =>
  intro l e ha hm
  have q:=h l ha hm
  rw[z2n hm fun k hk hn=>?_]at q
  · rcases Int.mul_eq_zero.mp q with q|q
    · exact q
    · exact absurd q (hd l hm)
  · rcases Nat.lt_or_gt_of_ne hn with x|x
    · rw[hl k l x hm];simp
    · rw[ih (m-k) (by omega) k (by omega) (by omega) hk];simp
theorem za5{P:List Row}{k i:Nat}(h:i<k)(j:Nat):ent (P.take k) i j=ent P i j:=by
 unfold ent;congr 1;simp[List.getD,List.getElem?_take,h]
structure Below(r N:Nat)(w:Int)(P:List Row):Prop where
 len:P.length=r
 wid:r≤N
 rows:∀ x∈P,x.length=N
 pos:∀ i,i<r→ent P i i≠0
 low:∀ i j,i<j→j<r→ent P i j=0
 whole:∀ i,i<r→∃ v:Vec,Span (vecs P) v∧v i=w∧∀ k,k<r→k≠i→v k=0
theorem Below.heads{r N:Nat}{w:Int}{P S:List Row}(B:Below r N w P){k:Nat}(hk:k≤r)(A:Asc N 0 S)(s:SameSpan (vecs S) (vecs (P.take k))){x:Row}(hx:x∈S):z02 x<k∧hd x∣w:=by
 have kl:(P.take k).length=k:=by rw[List.length_take,B.len];omega
 obtain⟨c,hc⟩:=z1g.mp (s.iff.mp (z0h hx))
 rw[kl]at hc
 have hh:z02 x<k:=by
  refine Nat.lt_of_not_le fun hge=>?_
  have z:=z7g (m:=k) (a:=0) (c:=c) (D:=fun l j=>ent P l j) (fun l hl=>B.pos l (by omega)) (fun l j h1 h2=>B.low l j h1 (by omega)) (fun j _ hj=>by
   have:=hc j
   rw[z0s (g:=fun l=>c l*ent P l j) fun l hl=>by rw[za5 hl]]at this
   rw[←this]
   exact z0q x j (by omega))
  have:=(A.mem hx).2.2.2
  unfold hd at this
  have e:=hc (z02 x)
  rw[z0E fun l hl=>by rw[z (k-l) l (by omega) (by omega) hl];simp]at e
  omega
 refine⟨hh,?_⟩
 obtain⟨v,v1,v2,v3⟩:=B.whole (z02 x) (by omega)
 obtain⟨d,hd'⟩:=z1g.mp v1
 rw[B.len]at hd'
 have z:=z7g (m:=r) (a:=z02 x+1) (c:=d) (D:=fun l j=>ent P l j) B.pos B.low fun j h1 h2=>by rw[←hd' j];exact v3 j h2 (by omega)
 have sv:Span (vecs S) v:=s.iff.mpr (z1g.mpr ⟨d,fun j=>by
  rw[hd' j,kl,zmp hk fun i h1 h2=>by rw[z (r-i) i (by omega) (by omega) h2];simp]
  exact z0s fun l hl=>by rw[za5 hl]⟩)
 have:=zcP A sv (x:=x) (fun j hj=>v3 j (by omega) (by omega)) hx
 rw[v2]at this
 exact this
structure Lin(F:Vec→Int):Prop where
 add:∀ u v:Vec,F (fun k=>u k+v k)=F u+F v
 smul:∀(c:Int) (u:Vec),F (fun k=>c*u k)=c*F u
theorem Lin.zero{F:Vec→Int}(h:Lin F):F (fun _=>0)=0:=by
 have:=h.smul 0 (fun _=>0);simpa using this
theorem Lin.sum{F:Vec→Int}(h:Lin F):∀(m:Nat) (c:Nat→Int) (R:Nat→Vec),F (fun k=>sm m (fun i=>c i*R i k))=sm m (fun i=>c i*F (R i))
 | 0,_,_=>h.zero
 | m+1,c,R=>by
  have:=h.sum m (fun i=>c (i+1)) (fun i=>R (i+1))
  rw[sm,←this,←h.smul,←h.add];rfl
theorem Lin.span{F:Vec→Int}(h:Lin F){P:List Row}{v:Vec}(z:∀ l,l<P.length→F (fun k=>ent P l k)=0)(s:Span (vecs P) v):F v=0:=by
 obtain⟨c,hc⟩:=z1g.mp s
 rw[show v=fun k=>sm P.length (fun i=>c i*ent P i k)from funext hc,h.sum]
 exact z0E fun i hi=>by rw[z i hi];simp
theorem zbE{N:Nat}:∀{f:Nat} {S:List Row} {z:Nat→Int},Asc N f S→(∀ k,sm S.length (fun i=>z i*ent S i k)=0)→∀ i,i<S.length→z i=0
 | f,r::S,z,A,h,i,hi=>by
  have e:=h (z02 r)
  rw[List.length_cons,sm,z0E fun k hk=>?_]at e
  · have z0:z 0=0:=by
     have p:=A.2.2.2.1
     have e:z 0*hd r+0=0:=e
     rcases Int.mul_eq_zero.mp (show z 0*hd r=0 by omega)with q|q
     · exact q
     · omega
    match i,hi with
    | 0,_=>exact z0
    | i+1,hi =>
     refine zbE (z:=fun i=>z (i+1)) A.2.2.2.2 (fun k=>?_) i (by simpa using hi)
     have e:=h k
     rw[List.length_cons,sm,z0]at e
     have e:0*ent (r::S) 0 k+sm S.length (fun i=>z (i+1)*ent S i k)=0:=e
     omega
  · rw[zdT]
    have:=(A.2.2.2.2.mem (z1f hk)).2.1
    rw[show ent S k (z02 r)=0 from z0q _ _ (by omega)];simp
theorem lift{N:Nat}{P S:List Row}(s:SameSpan (vecs P) (vecs S))(A:Asc N 0 S)(ζ:Nat→Int):
  ∃ z:Nat→Int,∀ F,Lin F→(∀ l,l<P.length→F (fun k=>ent P l k)=z l)→∀ i,i<S.length→F (fun k=>ent S i k)=ζ i:=by
 have hU:∀ i,∃ c:Nat→Int,i<S.length→∀ k,ent S i k=sm P.length (fun l=>c l*ent P l k):=fun i=>by
  by_cases hi:i<S.length
  · obtain⟨c,hc⟩:=z1g.mp (s.iff.mpr (z2o hi));exact⟨c,fun _=>hc⟩
  · exact⟨fun _=>0,fun h=>absurd h hi⟩
 have hV:∀ i,∃ c:Nat→Int,i<P.length→∀ k,ent P i k=sm S.length (fun l=>c l*ent S l k):=fun i=>by
  by_cases hi:i<P.length
  · obtain⟨c,hc⟩:=z1g.mp (s.iff.mp (z2o hi));exact⟨c,fun _=>hc⟩
  · exact⟨fun _=>0,fun h=>absurd h hi⟩
 obtain⟨U,hU⟩:∃ U:Nat→Nat→Int,∀ i,i<S.length→∀ k,ent S i k=sm P.length (fun l=>U i l*ent P l k):=⟨fun i=>Classical.choose (hU i),fun i=>Classical.choose_spec (hU i)⟩
 obtain⟨V,hV⟩:∃ V:Nat→Nat→Int,∀ i,i<P.length→∀ k,ent P i k=sm S.length (fun l=>V i l*ent S l k):=⟨fun i=>Classical.choose (hV i),fun i=>Classical.choose_spec (hV i)⟩
 have key:∀ i,i<S.length→∀ m,m<S.length→sm P.length (fun l=>U i l*V l m)=if m=i then 1 else 0:=fun i hi m hm=>by
  have:=zbE (z:=fun m=>sm P.length (fun l=>U i l*V l m)-if m=i then 1 else 0) A (fun k=>?_) m hm
  · have this:sm P.length (fun l=>U i l*V l m)-(if m=i then 1 else 0)=0:=this
    omega
  · rw[z0s (g:=fun m=>sm P.length (fun l=>U i l*(V l m*ent S m k))-(if m=i then 1 else 0)*ent S m k) fun m _=>?_]
    · rw[za4,z9i,z0s (g:=fun l=>U i l*ent P l k) fun l hl=>by rw[z2F,←hV l hl k],←hU i hi k,z2n hi fun m _ hn=>by rw[if_neg hn];simp]
      simp
    · rw[Int.sub_mul,←zcN]
      congr 1
      exact z0s fun l _=>by rw[Int.mul_assoc]
 refine⟨fun l=>sm S.length (fun m=>V l m*ζ m),fun F h hF i hi=>?_⟩
 rw[show(fun k=>ent S i k)=fun k=>sm P.length (fun l=>U i l*ent P l k)from funext (hU i hi),h.sum P.length (U i) (fun l k=>ent P l k)]
 rw[z0s (g:=fun l=>sm S.length (fun m=>U i l*V l m*ζ m)) fun l hl=>by rw[hF l hl,←z2F];exact z0s fun m _=>(Int.mul_assoc _ _ _).symm]
 rw[z9i,z0s (g:=fun m=>(if m=i then 1 else 0)*ζ m) fun m hm=>by rw[zcN,key i hi m hm],z2n hi fun m _ hn=>by rw[if_neg hn];simp]
 simp
def fun_(r n:Nat)(c b v:Vec):Int:=sm n (fun k=>v (r+k)*b k)-sm r (fun j=>c j*v j)
theorem z9j(r n:Nat)(c b:Vec):Lin (fun_ r n c b) where
 add u v:=by
  unfold fun_
  rw[z0s (g:=fun k=>u (r+k)*b k+v (r+k)*b k) fun k _=>Int.add_mul _ _ _,z80,z0s (m:=r) (g:=fun j=>c j*u j+c j*v j) fun k _=>Int.mul_add _ _ _,z80]
  omega
 smul a u:=by
  unfold fun_
  rw[z0s (g:=fun k=>a*(u (r+k)*b k)) fun k _=>Int.mul_assoc _ _ _,z2F,z0s (m:=r) (g:=fun j=>a*(c j*u j)) fun k _=>by rw[←Int.mul_assoc,Int.mul_comm (c k),Int.mul_assoc],z2F,Int.mul_sub]
def EqP(r n:Nat)(P:List Row)(b:Vec):Prop:=∃ c:Vec,∀ l,l<P.length→fun_ r n c b (fun k=>ent P l k)=0
theorem EqP.same{r n:Nat}{P S:List Row}{b:Vec}(s:SameSpan (vecs P) (vecs S)):EqP r n P b↔EqP r n S b :=
 ⟨fun⟨c,h⟩=>⟨c,fun l hl=>(z9j r n c b).span h (s.iff.mpr (z2o hl))⟩,fun⟨c,h⟩=>⟨c,fun l hl=>(z9j r n c b).span h (s.iff.mp (z2o hl))⟩⟩
end St

end
section
set_option linter.all false
set_option maxRecDepth 100000
namespace St
open Lat
def wts(n:Nat)(W:List Row)(b:Vec):Vec:=fun i=>sm n (fun k=>ent W i k*b k)
def pair(A W:List Row):List Row:=List.zipWith (·++·) A W
theorem z2q{A W:List Row}(h:A.length=W.length):(pair A W).length=A.length:=by unfold pair;rw[List.length_zipWith];omega
theorem zmq{A W:List Row}{i:Nat}(h:i<A.length)(h':i<W.length):(pair A W).getD i []=A.getD i []++W.getD i []:=by
 simp[pair,List.getD,List.getElem?_zipWith,List.getElem?_eq_getElem h,List.getElem?_eq_getElem h']
theorem z5g{r n:Nat}{A W:List Row}(ha:∀ x∈A,x.length=r){i:Nat}(h:i<A.length)(h':i<W.length)(k:Nat):ent (pair A W) i k=if k<r then ent A i k else ent W i (k-r):=by
 unfold ent;rw[zmq h h',z5W (ha _ (z1f h))]
theorem zbF{r n:Nat}{A W:List Row}(ha:∀ x∈A,x.length=r)(hw:∀ x∈W,x.length=n):∀ x∈pair A W,x.length=r+n:=fun x hx=>by
 obtain⟨i,hi,rfl⟩:=List.getElem_of_mem hx
 simp only[pair,List.getElem_zipWith,List.length_append]
 rw[ha _ (List.getElem_mem _),hw _ (List.getElem_mem _)]
theorem z5h{r n:Nat}{A W:List Row}{b:Vec}(ha:∀ x∈A,x.length=r)(hl:A.length=W.length)(c:Vec)(l:Nat)(h:l<A.length):fun_ r n c b (fun k=>ent (pair A W) l k)=wts n W b l-sm r (fun j=>c j*ent A l j):=by
 unfold fun_ wts
 rw[z0s (g:=fun k=>ent W l k*b k) fun k _=>by show ent (pair A W) l (r+k)*b k=_;rw[z5g (n:=n) ha h (by omega),if_neg (by omega),show r+k-r=k by omega]]
 rw[z0s (m:=r) (g:=fun j=>c j*ent A l j) fun j hj=>by show c j*ent (pair A W) l j=_;rw[z5g (n:=n) ha h (by omega),if_pos hj]]
theorem zjX{r n:Nat}{A W:List Row}{b:Vec}(ha:∀ x∈A,x.length=r)(hl:A.length=W.length):EqP r n (pair A W) b↔Span (vecs (trn r A)) (wts n W b):=by
 rw[z2Z ha]
 have e:=z5h (r:=r) (n:=n) (b:=b) ha hl
 constructor
 · rintro⟨c,h⟩
   refine⟨c,fun k=>?_⟩
   by_cases hk:k<A.length
   · have:=h k (by rw[z2q hl];exact hk)
     rw[e c k hk]at this;omega
   · rw[show wts n W b k=0 from z0E fun j _=>by rw[z0S (by omega)];simp]
     exact(z0E fun j _=>by rw[z0S (by omega)];simp).symm
 · rintro⟨c,h⟩
   refine⟨c,fun l hl'=>?_⟩
   rw[z2q hl]at hl'
   rw[e c l hl',h l];omega
theorem zff{r:Nat}{w:Int}{B:List Row}(h:z2p r w B){u:Vec}(hu:∀ k,r≤k→u k=0):Span (vecs B) (fun k=>w*u k):=by
 have key:∀ m,m≤r→Span (vecs B) (fun k=>if k<m then w*u k else 0):=fun m=>by
   induction m with
   | zero=>intro _;exact Span.congr (fun k=>by simp) Span.zero
   | succ m ih =>
    intro hm
    refine Span.congr (fun k=>?_) ((ih (by omega)).add ((h m (by omega)).smul (u m)))
    by_cases e:k=m
    · subst e;rw[if_neg (by omega),if_pos (by omega)];simp[pt,Int.mul_comm]
    · simp only[pt,if_neg e]
      by_cases q:k<m
      · rw[if_pos q,if_pos (by omega)];simp
      · rw[if_neg q,if_neg (by omega)];simp
 refine Span.congr (fun k=>?_) (key r (Nat.le_refl _))
 by_cases q:k<r
 · rw[if_pos q]
 · rw[if_neg q,hu k (by omega)];simp
theorem zl1{r:Nat}{P:List Row}{v:Vec}(s:Span (vecs P) v):Span (vecs (P.map (·.take r))) (fun k=>if k<r then v k else 0):=by
 obtain⟨c,h⟩:=z1g.mp s
 refine z1g.mpr ⟨c,fun k=>?_⟩
 have e:∀ i,ent (P.map (·.take r)) i k=if k<r then ent P i k else 0:=fun i=>by
   by_cases hi:i<P.length
   · unfold ent
     rw[show(P.map (·.take r)).getD i []=(P.getD i []).take r by simp[List.getD,List.getElem?_eq_getElem hi],z1C]
   · rw[z0S (by simpa using Nat.le_of_not_lt hi),z0S (by omega)];simp
 rw[List.length_map]
 by_cases hk:k<r
 · rw[if_pos hk,h k];exact z0s fun i _=>by rw[e,if_pos hk]
 · rw[if_neg hk];exact(z0E fun i _=>by rw[e,if_neg hk];simp).symm
theorem z5X{r:Nat}{P S:List Row}(s:SameSpan (vecs P) (vecs S)):SameSpan (vecs (P.map (·.take r))) (vecs (S.map (·.take r))):=by
 have one:∀{P S:List Row},SameSpan (vecs P) (vecs S)→∀ x∈P.map (·.take r),Span (vecs (S.map (·.take r))) (fun k=>at0 x k):=fun{P S} s x hx=>by
  obtain⟨y,hy,rfl⟩:=List.mem_map.mp hx
  exact Span.congr (fun k=>by rw[z1C]) (zl1 (r:=r) (s.iff.mp (z0h hy)))
 exact z5V (one s) (one s.symm)
theorem z5Y{r:Nat}{A W:List Row}(ha:∀ x∈A,x.length=r)(hl:A.length=W.length):(pair A W).map (·.take r)=A:=by
 refine List.ext_getElem (by rw[List.length_map,z2q hl]) fun i h1 h2=>?_
 simp only[pair,List.getElem_map,List.getElem_zipWith]
 rw[List.take_left' (ha _ (List.getElem_mem _))]
theorem zdV{r:Nat}(S:List Row):pair (S.map (·.take r)) (S.map (·.drop r))=S:=by
 induction S with
 | nil=>rfl
 | cons x S ih=>show(x.take r++x.drop r)::_=_;rw[List.take_append_drop];congr 1
theorem zmr{r N:Nat}{S:List Row}(h:∀ x∈S,z02 x<r):tops r S=S.map (·.take r):=by
 unfold tops;congr 1;exact List.filter_eq_self.mpr fun x hx=>decide_eq_true (h x hx)
structure Mst(r n:Nat)(w:Int)(G K A W:List Row):Prop where
 sq:Sq r A
 wl:W.length=r
 wr:∀ x∈W,x.length=n
 whole:z2p r w (trn r A)
 ker:∀ b:Vec,(∀ k,n≤k→b k=0)→(Span (vecs G) b↔(∀ j,j<K.length→wts n K b j=0)∧Span (vecs (trn r A)) (wts n W b))
 onto:∀ ζ κ:Vec,∃ b:Vec,(∀ k,n≤k→b k=0)∧(∀ j,j<K.length→wts n K b j=κ j)∧Span (vecs (trn r A)) (fun i=>wts n W b i-if i<r then ζ i else 0)
variable {r n:Nat}{w:Int}{G K A W T S W':List Row}
theorem Mst.rest(m:Mst r n w G K A W)(hl:W'.length=r)(hr:∀ x∈W',x.length=n)(q:Nat→Nat→Int)(e:∀ i k,i<r→ent W' i k=ent W i k-w*q i k):Mst r n w G K A W':=by
 have key:∀ b:Vec,Span (vecs (trn r A)) (fun i=>wts n W b i-wts n W' b i):=fun b=>by
   refine Span.congr (fun i=>?_) (zff m.whole (u:=fun i=>if i<r then sm n (fun k=>q i k*b k) else 0) fun k hk=>by simp;omega)
   by_cases hi:i<r
   · unfold wts
     rw[if_pos hi,←za4,←z2F]
     exact z0s fun k _=>by rw[e i k hi,Int.sub_mul,Int.mul_assoc];omega
   · have z1:wts n W b i=0:=z0E fun k _=>by rw[z0S (by rw[m.wl];omega)];simp
     have z2:wts n W' b i=0:=z0E fun k _=>by rw[z0S (by omega)];simp
     rw[if_neg hi,z1,z2];simp
 refine⟨m.sq,hl,hr,m.whole,fun b hb=>?_,fun ζ κ=>?_⟩
 · rw[m.ker b hb]
   refine and_congr_right fun _=>⟨fun h=>Span.congr (fun i=>by omega) (h.sub (key b)),fun h=>Span.congr (fun i=>by omega) (h.add (key b))⟩
 · obtain⟨b,h1,h2,h3⟩:=m.onto ζ κ
   exact⟨b,h1,h2,Span.congr (fun i=>by omega) (h3.sub (key b))⟩
theorem Mst.step(m:Mst r n w G K A W)(t:Sq r T)(sT:SameSpan (vecs T) (vecs (trn r A)))(As:Asc (r+n) 0 S)(Fs:Form 0 (z1i S))(sl:S.length=r)(sh:∀ x∈S,z02 x<r)(ss:SameSpan (vecs S) (vecs (pair (trn r T) W))):
   Mst r n w G K (S.map (·.take r)) (S.map (·.drop r)):=by
 have et:tops r S=S.map (·.take r):=zmr (N:=0) sh
 obtain⟨a1,a2⟩:=za3 As (show r≤r+n by omega)
 rw[et]at a1 a2
 have sq:Sq r (S.map (·.take r)):=⟨a1,by rw[←et];exact zbB As Fs (by omega),by rw[List.length_map,sl]⟩
 have cl:(trn r T).length=r:=z0Z _ _
 have cr:∀ x∈trn r T,x.length=r:=fun x hx=>by rw[z3b hx,t.len]
 have tt:trn r (trn r T)=T:=zq5 t.rows t.len
 have dr:∀ x∈S.map (·.drop r),x.length=n:=fun x hx=>by
   obtain⟨y,hy,rfl⟩:=List.mem_map.mp hx
   rw[List.length_drop,(As.mem hy).1];omega
 have hs:=z5X (r:=r) ss
 rw[z5Y cr (by rw[cl,m.wl])]at hs
 have wT:z2p r w T:=fun i hi=>sT.iff.mpr (m.whole i hi)
 have wC:=t.comm wT
 have wA:z2p r w (S.map (·.take r)):=fun i hi=>hs.iff.mpr (wC i hi)
 have eq:∀ y,Span (vecs (trn r A)) y↔Span (vecs (trn r (trn r T))) y:=fun y=>by rw[tt];exact sT.symm.iff
 have pc:=zdV (r:=r) S
 refine⟨sq,by rw[List.length_map,sl],dr,sq.comm wA,fun b hb=>?_,fun ζ κ=>?_⟩
 · rw[m.ker b hb]
   refine and_congr_right fun _=>?_
   rw[eq,←zjX (n:=n) cr (by rw[cl,m.wl]),←zjX (n:=n) sq.rows (by simp),pc]
   exact EqP.same ss.symm
 · obtain⟨z,hz⟩:=lift ss.symm As ζ
   obtain⟨b,h1,h2,h3⟩:=m.onto z κ
   refine⟨b,h1,h2,?_⟩
   obtain⟨c,hc⟩:=(z2Z cr).mp ((eq _).mp h3)
   have pl:(pair (trn r T) W).length=r:=by rw[z2q (by rw[cl,m.wl]),cl]
   have:=hz (fun_ r n c b) (z9j r n c b) fun l hl=>by
     rw[pl]at hl
     have e:=hc l
     rw[if_pos hl]at e
     rw[z5h cr (by rw[cl,m.wl]) c l (by omega)]
     omega
   refine(z2Z sq.rows).mpr ⟨c,fun i=>?_⟩
   by_cases hi:i<r
   · have e:=this i (by omega)
     rw[←pc]at e
     rw[z5h sq.rows (by simp) c i (by rw[sq.len];exact hi)]at e
     rw[if_pos hi]
     omega
   · rw[if_neg hi,show wts n (S.map (·.drop r)) b i=0 from z0E fun k _=>by rw[z0S (by simp[sl];omega)];simp]
     rw[z0E fun j _=>by rw[z0S (by rw[sq.len];omega)];simp];rfl
end St

end
section
set_option linter.all false
set_option maxRecDepth 100000
namespace St
open Lat
def pr(A:List Row):Nat→Int
 | 0=>1
 | k+1=>pr A k*ent A k k
theorem zms{T:List Vec}{R:Nat→Vec}(c:Nat→Int):∀ m,(∀ j,j<m→Span T (R j))→Span T (fun k=>sm m (fun j=>c j*R j k)):=by
 intro m
 induction m generalizing c R with
 | zero=>intro _;exact Span.zero
 | succ m ih=>intro h;exact((h 0 (by omega)).smul (c 0)).add (ih (R:=fun j=>R (j+1)) (fun j=>c (j+1)) fun j hj=>h (j+1) (by omega))
theorem zdW{D:List Row}(hl:∀ i j,i<j→ent D i j=0):∀ i,i≤D.length→∀ j,j<i→Span (vecs D) (pt j (pr D i)):=by
 intro i
 induction i with
 | zero=>intro _ j hj;omega
 | succ i ih =>
  intro hi j hj
  have ih:=ih (by omega)
  by_cases e:j<i
  · refine Span.congr (fun k=>?_) ((ih j e).smul (ent D i i))
    simp only[pt,pr];split
    · exact Int.mul_comm _ _
    · simp
  · have e:j=i:=by omega
    subst e
    refine Span.congr (fun k=>?_) (((z2o (A:=D) (i:=j) (by omega)).smul (pr D j)).sub (zms (R:=fun l=>pt l (pr D j)) (fun l=>ent D j l) j ih))
    by_cases h1:k<j
    · rw[z2n h1 fun l _ hn=>by simp only[pt];rw[if_neg (by omega)];simp]
      simp only[pt,if_true];rw[if_neg (by omega),Int.mul_comm];omega
    · rw[z0E fun l hl=>by simp only[pt];rw[if_neg (by omega)];simp]
      by_cases h2:k=j
      · subst h2;simp[pt,pr]
      · rw[hl j k (by omega)];simp[pt,h2]
theorem zdX{A B:List Row}:∀{k:Nat},(∀ i,i<k→ent A i i=ent B i i)→pr A k=pr B k
 | 0,_=>rfl
 | k+1,h=>by rw[pr,pr,zdX fun i hi=>h i (by omega),h k (by omega)]
theorem zfg{A:List Row}:∀{k:Nat},(∀ i,i<k→0<ent A i i)→0<pr A k
 | 0,_=>by show(0:Int)<1;decide
 | k+1,h=>by rw[pr];exact Int.mul_pos (zfg fun i hi=>h i (by omega)) (h k (by omega))
variable {r n:Nat}{w:Int}{G K A W T S:List Row}
theorem Sq.prod(q:Sq r A):z2p r (pr A r) (trn r A):=fun i hi=>by
 have:=zdW (D:=trn r A) (fun i j h=>by rw[z1v q.rows];exact q.low h) r (by rw[z0Z];exact Nat.le_refl _) i hi
 rw[zdX (B:=A) fun i _=>by rw[z1v q.rows]]at this
 exact this
theorem Sq.below(q:Sq r A)(h:z2p r w (trn r A)):Below r r w (trn r A) where
 len:=z0Z _ _
 wid:=Nat.le_refl _
 rows x hx:=by rw[z3b hx,q.len]
 pos i hi:=by rw[z1v q.rows];have:=q.pos hi;omega
 low i j h1 h2:=by rw[z1v q.rows];exact q.low h1
 whole i hi:=⟨_,h i hi,by simp[pt],fun k _ hn=>by simp[pt,hn]⟩
theorem Sq.below_pair(t:Sq r T)(h:z2p r w (trn r T))(wl:W.length=r)(wr:∀ x∈W,x.length=n):Below r (r+n) w (pair (trn r T) W):=by
 have B:=t.below h
 have pl:(pair (trn r T) W).length=r:=by rw[z2q (by rw[B.len,wl]),B.len]
 have e:∀ i k,i<r→k<r→ent (pair (trn r T) W) i k=ent (trn r T) i k:=fun i k hi hk=>by
   rw[z5g (n:=n) B.rows (by rw[B.len];exact hi) (by omega),if_pos hk]
 refine⟨pl,by omega,zbF B.rows wr,fun i hi=>by rw[e i i hi hi];exact B.pos i hi,fun i j h1 h2=>by rw[e i j (by omega) h2];exact B.low i j h1 h2,fun i hi=>?_⟩
 obtain⟨c,hc⟩:=z1g.mp (h i hi)
 rw[z0Z]at hc
 refine⟨fun k=>sm r (fun l=>c l*ent (pair (trn r T) W) l k),z1g.mpr ⟨c,fun k=>by rw[pl]⟩,?_,fun k hk hn=>?_⟩
 · show sm r (fun l=>c l*ent (pair (trn r T) W) l i)=w
   rw[z0s (g:=fun l=>c l*ent (trn r T) l i) fun l hl=>by rw[e l i hl hi],←hc i];simp[pt]
 · show sm r (fun l=>c l*ent (pair (trn r T) W) l k)=0
   rw[z0s (g:=fun l=>c l*ent (trn r T) l k) fun l hl=>by rw[e l k hl hk],←hc k];simp[pt,hn]
theorem zmt:∀{R:List Row} {cs:List Int} (k:Nat),cs.length=R.length→mix R cs k=sm R.length (fun i=>at0 cs i*ent R i k)
 | [],[],_,_=>rfl
 | x::R,c::cs,k,h=>by
  rw[mix,List.length_cons,sm]
  show c*at0 x k+mix R cs k=_
  rw[zmt k (by simpa using h)]
  rfl
theorem Below.ind{N:Nat}{P:List Row}(B:Below r N w P):Ind P:=fun cs hl hz c hc=>by
 have z:=z7g (m:=r) (a:=0) (c:=fun i=>at0 cs i) (D:=fun l j=>ent P l j) B.pos B.low fun j _ _=>by
  have:=hz j
  rw[zmt j hl,B.len]at this;exact this
 obtain⟨i,hi,rfl⟩:=List.getElem_of_mem hc
 have e:=z (r-i) i (by rw[hl,B.len]at hi;omega) (by omega) (by rw[hl,B.len]at hi;exact hi)
 simpa[at0,List.getD,List.getElem?_eq_getElem hi]using e
theorem Below.full{N:Nat}{P:List Row}(B:Below r N w P)(As:Asc N 0 S)(ss:SameSpan (vecs S) (vecs P)):∀ x∈S,z02 x<r∧hd x∣w:=fun x hx =>
 B.heads (Nat.le_refl r) As (by rw[show P.take r=P by rw[←B.len];exact List.take_length];exact ss) hx
def units(n:Nat):List Row:=(List.range n).map (z1Z n)
theorem z2c(n:Nat):(units n).length=n:=by simp[units]
theorem zl2(n:Nat):∀ x∈units n,x.length=n:=fun x hx=>by obtain⟨i,_,rfl⟩:=List.mem_map.mp hx;exact zbA n i
theorem z81{i k:Nat}(hi:i<n):ent (units n) i k=if k=i∧k<n then 1 else 0:=by
 unfold ent units
 rw[show((List.range n).map (z1Z n)).getD i []=z1Z n i by simp[List.getD,hi],z7e]
theorem zl3{f:Nat}(As:Asc r f T)(h:∀ i,i<r→∃ x∈T,z02 x=i):r≤T.length:=by
 have:=z3Y (l:=List.range r) (m:=T.map z02) id List.nodup_range (fun x _ y _ e=>e) fun i hi=>by
  obtain⟨x,hx,e⟩:=h i (List.mem_range.mp hi)
  exact List.mem_map.mpr ⟨x,hx,e⟩
 simpa using this
theorem start(Ag:Asc n 0 G)(gl:G.length=r)(As:Asc (r+n) 0 S)(Fs:Form 0 (z1i S))(sl:S.length=n)(ss:SameSpan (vecs S) (vecs (pair (trn n G) (units n)))):
   ∃ W,S.filter (fun x=>decide (z02 x<r))=S.take r∧W=(S.take r).map (·.drop r)∧(bots r S).length=n-r∧Mst r n (pr (tops r S) r) G (bots r S) (tops r S) W∧tops r S=(S.take r).map (·.take r)∧r≤n:=by
 have gr:∀ x∈G,x.length=n:=fun x hx=>(Ag.mem hx).1
 have rn:r≤n:=by have:=z7c Ag (Nat.zero_le _);omega
 have cr:∀ x∈trn n G,x.length=r:=fun x hx=>by rw[z3b hx,gl]
 have cl:(trn n G).length=n:=z0Z _ _
 obtain⟨a1,a2⟩:=za3 As (show r≤r+n by omega)
 have hs:=z5X (r:=r) ss
 rw[z5Y cr (by rw[cl,z2c])]at hs
 have cover:∀ i,i<r→∃ x∈tops r S,z02 x=i:=fun i hi=>by
   let D:List Row:=(List.range r).map fun i=>(trn n G).getD (z02 (G.getD i [])) []
   have dl:D.length=r:=by simp[D]
   have de:∀ i j,i<r→ent D i j=ent G j (z02 (G.getD i [])):=fun i j hi=>by
     have:D.getD i []=(trn n G).getD (z02 (G.getD i [])) []:=by simp[D,List.getD,hi]
     rw[←z1v gr]
     unfold ent
     rw[this]
   have low:∀ i j,i<j→ent D i j=0:=fun i j h=>by
     by_cases hi:i<r
     · rw[de i j hi]
       by_cases hj:j<r
       · exact z0q _ _ (zfd Ag h (by rw[gl];exact hj))
       · exact z0S (by rw[gl];omega) _
     · exact z0S (by rw[dl];omega) _
   have sp:=zdW low r (by rw[dl];exact Nat.le_refl _) i hi
   have pos:0<pr D r:=zfg fun i hi=>by
     rw[de i i hi]
     exact(z7d Ag (k:=i) (by rw[gl];exact hi)).2.2.2
   have sp2:Span (vecs (trn n G)) (pt i (pr D r)):=Span.trans (fun v hv=>by
     obtain⟨x,hx,rfl⟩:=List.mem_map.mp hv
     obtain⟨j,hj,rfl⟩:=List.mem_map.mp hx
     have hj:=List.mem_range.mp hj
     exact z0h (z1f (by rw[cl];exact(z7d Ag (k:=j) (by rw[gl];exact hj)).2.2.1))) sp
   have sp3:=hs.iff.mpr sp2
   have sp4:Span (vecs (tops r S)) (pt i (pr D r)):=by
     refine Span.trans (fun v hv=>?_) sp3
     obtain⟨x,hx,rfl⟩:=List.mem_map.mp hv
     obtain⟨y,hy,rfl⟩:=List.mem_map.mp hx
     exact Span.congr (fun k=>by simp only[vec];rw[z1C]) (zbC (n:=r) As (z0h hy))
   exact Asc.first a1 sp4 (fun k hk=>by simp[pt];omega) (by simp[pt];omega)
 have tl:(tops r S).length=r:=by
   have h1:=zl3 a1 cover
   have h2:=z7c a1 (Nat.zero_le _)
   omega
 have fl:(S.filter fun x=>decide (z02 x<r)).length=r:=by rw[←a2];exact tl
 have sp:=za2 As (n:=r)
 have tk:S.filter (fun x=>decide (z02 x<r))=S.take r:=by
   have:=congrArg (List.take r) sp
   rw[List.take_left' fl]at this
   exact this.symm
 have dk:S.filter (fun x=>!decide (z02 x<r))=S.drop r:=by
   have:=congrArg (List.drop r) sp
   rw[List.drop_left' fl]at this
   exact this.symm
 have te:tops r S=(S.take r).map (·.take r):=by unfold tops;rw[tk]
 have be:bots r S=(S.drop r).map (·.drop r):=by unfold bots;rw[dk]
 have bl:(bots r S).length=n-r:=by rw[be,List.length_map,List.length_drop,sl]
 have sq:Sq r (tops r S):=⟨a1,zbB As Fs (by omega),tl⟩
 have hS:∀ i,i<r→∀ k,ent S i k=ent (pair (tops r S) ((S.take r).map (·.drop r))) i k:=fun i hi k=>by
   rw[te,zdV,za5 hi]
 have wl:((S.take r).map (·.drop r)).length=r:=by rw[List.length_map,List.length_take,sl];omega
 have zl:∀ j,j<n-r→∀ k,k<r→ent S (r+j) k=0:=fun j hj k hk=>by
   have m:S.getD (r+j) []∈S.filter (fun x=>!decide (z02 x<r)):=by
     rw[dk,show S.getD (r+j) []=(S.drop r).getD j [] by simp[List.getD,List.getElem?_drop]]
     exact z1f (by rw[List.length_drop,sl];exact hj)
   have:=(List.mem_filter.mp m).2
   rw[Bool.not_eq_true',decide_eq_false_iff_not]at this
   exact z0q _ _ (by omega)
 have bk:∀ j,j<n-r→∀ k,ent S (r+j) (r+k)=ent (bots r S) j k:=fun j hj k=>by
   rw[be]
   unfold ent
   rw[show((S.drop r).map (·.drop r)).getD j []=(S.getD (r+j) []).drop r by simp[List.getD,List.getElem?_drop,List.getElem?_eq_getElem (show r+j<S.length by omega)],z2Y]
 have fb:∀(c b:Vec) (j:Nat),j<n-r→fun_ r n c b (fun k=>ent S (r+j) k)=wts n (bots r S) b j:=fun c b j hj=>by
   unfold fun_ wts
   rw[z0s (g:=fun k=>ent (bots r S) j k*b k) fun k _=>by show ent S (r+j) (r+k)*b k=_;rw[bk j hj],z0E (m:=r) fun k hk=>by show c k*ent S (r+j) k=0;rw[zl j hj k hk];simp]
   omega
 have fa:∀(c b:Vec) (i:Nat),i<r→fun_ r n c b (fun k=>ent S i k)=wts n ((S.take r).map (·.drop r)) b i-sm r (fun j=>c j*ent (tops r S) i j):=fun c b i hi=>by
   rw[show(fun k=>ent S i k)=fun k=>ent (pair (tops r S) ((S.take r).map (·.drop r))) i k from funext (hS i hi)]
   exact z5h sq.rows (by rw[tl,wl]) c i (by rw[tl];exact hi)
 have fp:∀(c b:Vec) (l:Nat),l<n→fun_ r n c b (fun k=>ent (pair (trn n G) (units n)) l k)=b l-sm r (fun j=>c j*ent G j l):=fun c b l hl=>by
   rw[z5h cr (by rw[cl,z2c]) c l (by rw[cl];exact hl)]
   congr 1
   · unfold wts
     rw[z2n hl fun k _ hn=>by rw[z81 hl,if_neg (by omega)];simp,z81 hl,if_pos ⟨rfl,hl⟩];simp
   · exact z0s fun j _=>by rw[z1v gr]
 have pl:(pair (trn n G) (units n)).length=n:=by rw[z2q (by rw[cl,z2c]),cl]
 refine⟨_,tk,rfl,bl,⟨sq,wl,fun x hx=>?_,sq.prod,fun b hb=>?_,fun ζ κ=>?_⟩,te,rn⟩
 · obtain⟨y,hy,rfl⟩:=List.mem_map.mp hx
   rw[List.length_drop,(As.mem (List.mem_of_mem_take hy)).1];omega
 · have e1:Span (vecs G) b↔EqP r n (pair (trn n G) (units n)) b:=by
     rw[z1g,gl]
     constructor
     · rintro⟨c,h⟩
       exact⟨c,fun l hl=>by rw[fp c b l (by omega),h l];omega⟩
     · rintro⟨c,h⟩
       refine⟨c,fun k=>?_⟩
       by_cases hk:k<n
       · have:=h k (by omega)
         rw[fp c b k hk]at this;omega
       · rw[hb k (by omega)]
         exact(z0E fun j _=>by rw[zcO gr (by omega)];simp).symm
   rw[e1,EqP.same ss.symm,bl,z2Z sq.rows]
   constructor
   · rintro⟨c,h⟩
     refine⟨fun j hj=>by rw[←fb c b j hj];exact h _ (by omega),c,fun k=>?_⟩
     by_cases hk:k<r
     · have:=h k (by omega)
       rw[fa c b k hk]at this;omega
     · rw[show wts n ((S.take r).map (·.drop r)) b k=0 from z0E fun j _=>by rw[z0S (by rw[wl];omega)];simp]
       exact(z0E fun j _=>by rw[z0S (by rw[tl];omega)];simp).symm
   · rintro⟨h1,c,h2⟩
     refine⟨c,fun l hl=>?_⟩
     by_cases hk:l<r
     · rw[fa c b l hk,h2 l];omega
     · have:=h1 (l-r) (by omega)
       rw[←fb c b (l-r) (by omega),show r+(l-r)=l by omega]at this
       exact this
 · obtain⟨z,hz⟩:=lift ss.symm As (fun i=>if i<r then ζ i else κ (i-r))
   have:=hz (fun_ r n (fun _=>0) (fun k=>if k<n then z k else 0)) (z9j _ _ _ _) fun l hl=>by
     rw[fp _ _ l (by omega),if_pos (by omega),z0E fun j _=>by simp];omega
   refine⟨fun k=>if k<n then z k else 0,fun k hk=>if_neg (by omega),fun j hj=>?_,?_⟩
   · have e:=this (r+j) (by omega)
     rw[fb _ _ j (by omega),if_neg (by omega),show r+j-r=j by omega]at e
     exact e
   · refine Span.congr (fun i=>?_) Span.zero
     by_cases hi:i<r
     · have e:=this i (by omega)
       rw[fa _ _ i hi,if_pos hi,z0E fun j _=>by simp]at e
       rw[if_pos hi];omega
     · rw[if_neg hi,show wts n ((S.take r).map (·.drop r)) _ i=0 from z0E fun j _=>by rw[z0S (by rw[wl];omega)];simp];rfl
end St

end
section
set_option linter.all false
set_option maxRecDepth 100000
namespace St
open Lat
abbrev Meas:=List (Row×Int)
def mw(M:Meas)(i:Nat):Row:=(M.getD i ([],0)).1
def mp(M:Meas)(i:Nat):Int:=(M.getD i ([],0)).2
def dt(n:Nat)(w:Row)(b:Vec):Int:=sm n (fun k=>at0 w k*b k)
structure Ms(n:Nat)(G:List Row)(M:Meas):Prop where
 rows:∀ x∈M,x.1.length=n
 ker:∀ b:Vec,(∀ k,n≤k→b k=0)→(Span (vecs G) b↔∀ i,i<M.length→mp M i∣dt n (mw M i) b)
 onto:∀ ζ:Vec,∃ b:Vec,(∀ k,n≤k→b k=0)∧∀ i,i<M.length→mp M i∣dt n (mw M i) b-ζ i
variable {n:Nat}{G:List Row}{M M':Meas}
theorem Ms.rest(m:Ms n G M)(hr:∀ x∈M',x.1.length=n)(hl:M'.length=M.length)(hp:∀ i,i<M.length→mp M' i=mp M i)(hd:∀ i,i<M.length→∀ b:Vec,mp M i∣dt n (mw M' i) b-dt n (mw M i) b):Ms n G M':=by
 refine⟨hr,fun b hb=>?_,fun ζ=>?_⟩
 · rw[m.ker b hb,hl]
   refine forall_congr' fun i=>forall_congr' fun hi=>?_
   rw[hp i hi]
   have:=hd i hi b
   constructor
   · intro h;have:=Int.dvd_add this h;rwa [Int.sub_add_cancel]at this
   · intro h;have:=Int.dvd_sub h this;rwa [show dt n (mw M' i) b-(dt n (mw M' i) b-dt n (mw M i) b)=dt n (mw M i) b by omega]at this
 · obtain⟨b,h1,h2⟩:=m.onto ζ
   refine⟨b,h1,fun i hi=>?_⟩
   rw[hl]at hi
   rw[hp i hi]
   have:=Int.dvd_add (hd i hi b) (h2 i hi)
   rwa [show dt n (mw M' i) b-dt n (mw M i) b+(dt n (mw M i) b-ζ i)=dt n (mw M' i) b-ζ i by omega]at this
theorem Ms.link(m:Ms n G M){p q:Nat}{g f1 f2 a b:Int}(hp:p<M.length)(hq:q<M.length)(hn:p≠q)(ea:mp M p=g*a)(eb:mp M q=g*b)(hg:g≠0)(e1:f1*a+f2*b=1)
   (hr:∀ x∈M',x.1.length=n) (hl:M'.length=M.length) (ho:∀ i,i≠p→i≠q→mp M' i=mp M i∧mw M' i=mw M i) (hp1:mp M' p=g) (hq1:mp M' q=a*(g*b))
   (hp2:∀ v:Vec,g∣dt n (mw M' p) v-(dt n (mw M p) v+dt n (mw M q) v)) (hq2:∀ v:Vec,a*(g*b)∣dt n (mw M' q) v-(-(f2*b)*dt n (mw M p) v+f1*a*dt n (mw M q) v)):Ms n G M':=by
 have key:∀ X Y U V:Int,g∣U-(X+Y)→a*(g*b)∣V-(-(f2*b)*X+f1*a*Y)→((g*a∣X∧g*b∣Y)↔(g∣U∧a*(g*b)∣V)):=by
   rintro X Y U V ⟨u,hu⟩ ⟨v,hv⟩
   constructor
   · rintro⟨⟨x,rfl⟩,⟨y,rfl⟩⟩
     exact⟨⟨u+a*x+b*y,by grind⟩,⟨v-f2*x+f1*y,by grind⟩⟩
   · rintro⟨⟨x,rfl⟩,⟨y,rfl⟩⟩
     refine⟨⟨f1*(x-u)-b*(y-v),?_⟩,⟨f2*(x-u)+a*(y-v),?_⟩⟩
     · grind
     · grind
 refine⟨hr,fun b' hb=>?_,fun ζ=>?_⟩
 · rw[m.ker b' hb,hl]
   have k:=key (dt n (mw M p) b') (dt n (mw M q) b') (dt n (mw M' p) b') (dt n (mw M' q) b') (hp2 b') (hq2 b')
   constructor
   · intro h i hi
     have:=k.mp ⟨by rw[←ea];exact h p hp,by rw[←eb];exact h q hq⟩
     by_cases i1:i=p
     · subst i1;rw[hp1];exact this.1
     · by_cases i2:i=q
       · subst i2;rw[hq1];exact this.2
       · rw[(ho i i1 i2).1,(ho i i1 i2).2];exact h i hi
   · intro h i hi
     have:=k.mpr ⟨by rw[←hp1];exact h p hp,by rw[←hq1];exact h q hq⟩
     by_cases i1:i=p
     · subst i1;rw[ea];exact this.1
     · by_cases i2:i=q
       · subst i2;rw[eb];exact this.2
       · have:=h i hi
         rw[(ho i i1 i2).1,(ho i i1 i2).2]at this;exact this
 · obtain⟨v,h1,h2⟩:=m.onto fun i=>if i=p then f1*a*ζ p-ζ q else if i=q then f2*b*ζ p+ζ q else ζ i
   refine⟨v,h1,fun i hi=>?_⟩
   have x1:=h2 p hp
   rw[if_pos rfl,ea]at x1
   have x2:=h2 q hq
   rw[if_neg (by omega),if_pos rfl,eb]at x2
   have k:=(key (dt n (mw M p) v-(f1*a*ζ p-ζ q)) (dt n (mw M q) v-(f2*b*ζ p+ζ q)) (dt n (mw M' p) v-ζ p) (dt n (mw M' q) v-ζ q)
     (by have:=hp2 v;rwa [show dt n (mw M' p) v-ζ p-(dt n (mw M p) v-(f1*a*ζ p-ζ q)+(dt n (mw M q) v-(f2*b*ζ p+ζ q)))=dt n (mw M' p) v-(dt n (mw M p) v+dt n (mw M q) v) by grind])
     (by have:=hq2 v;rwa [show dt n (mw M' q) v-ζ q-(-(f2*b)*(dt n (mw M p) v-(f1*a*ζ p-ζ q))+f1*a*(dt n (mw M q) v-(f2*b*ζ p+ζ q)))=dt n (mw M' q) v-(-(f2*b)*dt n (mw M p) v+f1*a*dt n (mw M q) v) by grind])).mp ⟨x1,x2⟩
   by_cases i1:i=p
   · subst i1;rw[hp1];exact k.1
   · by_cases i2:i=q
     · subst i2;rw[hq1];exact k.2
     · have:=h2 i (by omega)
       rw[if_neg i1,if_neg i2]at this
       rw[(ho i i1 i2).1,(ho i i1 i2).2];exact this
theorem zq6{g a b f1 f2 w:Int}(hg:g≠0)(e1:f1*a+f2*b=1)(h1:g*a∣w)(h2:g*b∣w):a*(g*b)∣w:=by
 obtain⟨s,hs⟩:=h1
 obtain⟨t,ht⟩:=h2
 exact⟨f1*t+f2*s,by grind⟩
theorem zq7{p:Int}{x y:Row}{q:Nat→Int}(e:∀ k,at0 x k=at0 y k-p*q k)(b:Vec):p∣dt n x b-dt n y b:=by
 refine⟨- sm n (fun k=>q k*b k),?_⟩
 unfold dt
 rw[←za4,z0s (g:=fun k=>(-p)*(q k*b k)) fun k _=>by rw[e k];grind,z2F];grind
theorem Mst.meas{r:Nat}{w:Int}{K A W:List Row}(m:Mst r n w G K A W)(hc:Clean r A)(kr:∀ x∈K,x.length=n)(M:Meas)(hl:M.length=r+K.length)(h1:∀ i,i<r→mw M i=W.getD i []∧mp M i=ent A i i)(h2:∀ j,j<K.length→mw M (r+j)=K.getD j []∧mp M (r+j)=0):Ms n G M:=by
 have sp:∀ y:Vec,(∀ k,r≤k→y k=0)→(Span (vecs (trn r A)) y↔∀ i,i<r→ent A i i∣y i):=fun y hy=>by
   rw[z2Z m.sq.rows]
   constructor
   · rintro⟨c,h⟩ i hi
     rw[h i,z2n hi fun k _ hn=>by rw[hc i hi k hn];simp]
     exact⟨c i,Int.mul_comm _ _⟩
   · intro h
     refine⟨fun i=>y i / ent A i i,fun k=>?_⟩
     by_cases hk:k<r
     · rw[z2n hk fun j _ hn=>by rw[hc k hk j hn];simp]
       exact(Int.ediv_mul_cancel (h k hk)).symm
     · rw[hy k (by omega)]
       exact(z0E fun j _=>by rw[z0S (by rw[m.sq.len];omega)];simp).symm
 have wz:∀ b k,r≤k→wts n W b k=0:=fun b k hk=>z0E fun j _=>by rw[z0S (by rw[m.wl];exact hk)];simp
 have d1:∀ b i,i<r→dt n (mw M i) b=wts n W b i:=fun b i hi=>by rw[(h1 i hi).1];rfl
 have d2:∀ b j,j<K.length→dt n (mw M (r+j)) b=wts n K b j:=fun b j hj=>by rw[(h2 j hj).1];rfl
 refine⟨fun x hx=>?_,fun b hb=>?_,fun ζ=>?_⟩
 · obtain⟨i,hi,rfl⟩:=List.getElem_of_mem hx
   have e:M[i].1=mw M i:=by simp[mw,List.getD,List.getElem?_eq_getElem hi]
   rw[e]
   by_cases q:i<r
   · rw[(h1 i q).1];exact m.wr _ (z1f (by rw[m.wl];exact q))
   · rw[show i=r+(i-r) by omega,(h2 (i-r) (by omega)).1];exact kr _ (z1f (by omega))
 · rw[m.ker b hb,sp _ (wz b),hl]
   constructor
   · rintro⟨a1,a2⟩ i hi
     by_cases q:i<r
     · rw[(h1 i q).2,d1 b i q];exact a2 i q
     · rw[show i=r+(i-r) by omega,(h2 (i-r) (by omega)).2,d2 b _ (by omega),a1 _ (by omega)];exact Int.dvd_refl 0
   · intro h
     refine⟨fun j hj=>?_,fun i hi=>?_⟩
     · have:=h (r+j) (by omega)
       rw[(h2 j hj).2,d2 b j hj]at this
       exact Int.zero_dvd.mp this
     · have:=h i (by omega)
       rw[(h1 i hi).2,d1 b i hi]at this;exact this
 · obtain⟨b,b1,b2,b3⟩:=m.onto ζ (fun j=>ζ (r+j))
   rw[sp _ fun k hk=>by rw[wz b k hk,if_neg (by omega)];rfl]at b3
   refine⟨b,b1,fun i hi=>?_⟩
   by_cases q:i<r
   · have:=b3 i q
     rw[if_pos q]at this
     rw[(h1 i q).2,d1 b i q];exact this
   · have:=b2 (i-r) (by omega)
     rw[show i=r+(i-r) by omega,(h2 (i-r) (by omega)).2,d2 b _ (by omega),this]
     simp
end St

end
section
set_option linter.all false
set_option maxRecDepth 100000
namespace St
open Lat
theorem z5Z:∀{n:Nat} {f:Nat→Nat} {t:List Int},z1B ((List.range n).map f) t↔t.length=n∧∀ i,i<n→0≤at0 t i∧at0 t i<f i:=by
 have key:∀(ns:List Nat) (t:List Int),z1B ns t↔t.length=ns.length∧∀ i,i<ns.length→0≤at0 t i∧at0 t i<(ns.getD i 0:Int):=by
  intro ns
  induction ns with
  | nil =>
   intro t
   cases t with
   | nil=>simp[z1B]
   | cons x t=>simp[z1B]
  | cons a ns ih =>
   intro t
   cases t with
   | nil=>simp[z1B]
   | cons x t =>
    rw[z1B,ih]
    constructor
    · rintro⟨h0,h1,h2,h3⟩
      refine⟨by simp[h2],fun i hi=>?_⟩
      cases i with
      | zero=>exact⟨h0,h1⟩
      | succ i=>exact h3 i (by simpa using hi)
    · rintro⟨h2,h3⟩
      have a:=h3 0 (by simp)
      exact⟨a.1,a.2,by simpa using h2,fun i hi=>h3 (i+1) (by simpa using hi)⟩
 intro n f t
 rw[key]
 simp only[List.length_map,List.length_range]
 refine and_congr_right fun _=>forall_congr' fun i=>forall_congr' fun hi=>?_
 rw[show((List.range n).map f).getD i 0=f i by simp[List.getD,hi]]
def mkr(n:Nat)(f:Nat→Int):Row:=(List.range n).map f
theorem zjY(n:Nat)(f:Nat→Int):(mkr n f).length=n:=by simp[mkr]
theorem zjZ{n:Nat}{f:Nat→Int}{k:Nat}(h:k<n):at0 (mkr n f) k=f k:=by simp[at0,mkr,List.getD,h]
theorem zdY{n:Nat}{f:Nat→Int}(hf:∀ k,n≤k→f k=0)(k:Nat):at0 (mkr n f) k=f k:=by
 by_cases h:k<n
 · exact zjZ h
 · rw[hf k (by omega)];exact z0Y (by rw[zjY];omega)
variable {n:Nat}{G:List Row}{M:Meas}
end St

end
section
set_option linter.all false
set_option maxRecDepth 100000
namespace St
open Lat
theorem zdZ(l:List Nat)(x:Nat):prod (l++[x])=prod l*x:=by
 induction l with
 | nil=>simp[prod]
 | cons a l ih=>rw[List.cons_append,prod,prod,ih,Nat.mul_assoc]
theorem zk0{A:List Row}:∀{r:Nat},(∀ i,i<r→0<ent A i i)→pr A r=(prod ((List.range r).map fun i=>(ent A i i).toNat):Int)
 | 0,_=>rfl
 | r+1,h=>by
  have:=h r (by omega)
  rw[pr,zk0 fun i hi=>h i (by omega),List.range_succ,List.map_append,List.map_cons,List.map_nil,zdZ,Int.natCast_mul]
  congr 1;omega
theorem ze{f:Nat→Nat}{e:Nat}:∀{r:Nat},(∀ i,i<r→f i≤2 ^ e)→prod ((List.range r).map f)≤2 ^ (e*r)
 | 0,_=>by simp[prod]
 | r+1,h=>by
  rw[List.range_succ,List.map_append,List.map_cons,List.map_nil,zdZ,Nat.mul_succ,Nat.pow_add]
  exact Nat.mul_le_mul (ze fun i hi=>h i (by omega)) (h r (by omega))
variable {r:Nat}{A D:List Row}
theorem zl4(dl:D.length=r)(low:∀ i j,i<j→ent D i j=0)(pos:∀ i,i<r→0<ent D i i):∀ k,k≤r→∀ t:Vec,(∀ j,k≤j→t j=0) →
  ∃ x:Vec,(∀ j,j<k→0≤x j∧x j<ent D j j)∧(∀ j,k≤j→x j=0)∧Span (vecs D) (fun j=>t j-x j):=by
 intro k
 induction k with
 | zero=>intro _ t ht;exact⟨fun _=>0,fun j hj=>by omega,fun _ _=>rfl,Span.congr (fun j=>by rw[ht j (by omega)];rfl) Span.zero⟩
 | succ k ih =>
  intro hk t ht
  have p:=pos k (by omega)
  obtain⟨f0,f1⟩:=z7X (t k) p
  have sd:Span (vecs D) (fun j=>ent D k j):=z2o (by omega)
  obtain⟨x,x1,x2,x3⟩:=ih (by omega) (fun j=>if j<k then t j-(t k).fdiv (ent D k k)*ent D k j else 0) fun j hj=>if_neg (by omega)
  refine⟨fun j=>if j=k then t k-(t k).fdiv (ent D k k)*ent D k k else x j,fun j hj=>?_,fun j hj=>?_,?_⟩
  · dsimp only
    by_cases e:j=k
    · subst e;rw[if_pos rfl];exact⟨f0,f1⟩
    · rw[if_neg e];exact x1 j (by omega)
  · dsimp only;rw[if_neg (by omega)];exact x2 j (by omega)
  · refine Span.congr (fun j=>?_) (x3.add (sd.smul ((t k).fdiv (ent D k k))))
    dsimp only
    by_cases e:j=k
    · subst e;rw[if_neg (by omega),if_pos rfl,x2 j (by omega)];omega
    · rw[if_neg e]
      by_cases h:j<k
      · rw[if_pos h];omega
      · rw[if_neg h,low k j (by omega),ht j (by omega)];simp
theorem Sq.prod_bound(q:Sq r A)(dl:D.length=r)(low:∀ i j,i<j→ent D i j=0)(pos:∀ i,i<r→0<ent D i i)(sp:∀ x∈D,Span (vecs A) (fun k=>at0 x k)):
   Lat.prod ((List.range r).map fun i=>(ent A i i).toNat)≤Lat.prod ((List.range r).map fun i=>(ent D i i).toNat):=by
 have sub:∀ v,Span (vecs D) v→Span (vecs A) v:=fun v hv=>Span.trans (fun u hu=>by obtain⟨x,hx,rfl⟩:=List.mem_map.mp hu;exact sp x hx) hv
 have ch:∀ t:Row,t.length=r→∃ x:Vec,(∀ j,j<r→0≤x j∧x j<ent D j j)∧(∀ j,r≤j→x j=0)∧Span (vecs D) (fun j=>at0 t j-x j):=fun t ht=>zl4 dl low pos r (Nat.le_refl _) _ fun j hj=>z0Y (by omega)
 have ch':∀ t:Row,∃ x:Vec,t.length=r→(∀ j,j<r→0≤x j∧x j<ent D j j)∧(∀ j,r≤j→x j=0)∧Span (vecs D) (fun j=>at0 t j-x j):=fun t=>by
   by_cases h:t.length=r
   · obtain⟨x,hx⟩:=ch t h;exact⟨x,fun _=>hx⟩
   · exact⟨fun _=>0,fun h'=>absurd h' h⟩
 refine zjQ (fun t=>mkr r (Classical.choose (ch' t))) (fun s t hs ht e=>?_) fun s hs=>?_
 · obtain⟨sl,sb⟩:=z5Z.mp hs
   obtain⟨tl,tb⟩:=z5Z.mp ht
   obtain⟨s1,s2,s3⟩:=Classical.choose_spec (ch' s) sl
   obtain⟨t1,t2,t3⟩:=Classical.choose_spec (ch' t) tl
   generalize Classical.choose (ch' s)=b at e s1 s2 s3
   generalize Classical.choose (ch' t)=c at e t1 t2 t3
   have e:mkr r b=mkr r c:=e
   have bc:∀ k,b k=c k:=fun k=>by
     have:=congrArg (fun x=>at0 x k) e
     simp only[zdY s2,zdY t2]at this
     exact this
   have d:Span (vecs A) (fun k=>at0 s k-at0 t k):=sub _ (Span.congr (fun k=>by have:=bc k;omega) (s3.sub t3))
   refine ext0 (by omega) fun k=>?_
   have z:=Asc.small q.asc d (fun x hx=>by
     obtain⟨j,hj,rfl⟩:=List.getElem_of_mem hx
     have ej:A[j]=A.getD j []:=by simp[List.getD,List.getElem?_eq_getElem hj]
     rw[q.len]at hj
     unfold hd
     rw[ej,q.head hj]
     have a:=sb j hj
     have b:=tb j hj
     have p:=q.pos hj
     show -(ent A j j)<at0 s j-at0 t j∧at0 s j-at0 t j<ent A j j
     omega) k
   omega
 · obtain⟨sl,sb⟩:=z5Z.mp hs
   obtain⟨s1,s2,s3⟩:=Classical.choose_spec (ch' s) sl
   refine z5Z.mpr ⟨zjY _ _,fun i hi=>?_⟩
   rw[zjZ hi]
   have:=s1 i hi
   have p:=pos i hi
   omega
theorem ze0{n e:Nat}{G T:List Row}(Ag:Asc n 0 G)(gl:G.length=r)(q:Sq r T)(s:∀ x∈trn n G,Span (vecs T) (fun k=>at0 x k))(hb:∀ x∈G,hd x<2 ^ e):pr T r≤2 ^ (e*r):=by
 let D:List Row:=(List.range r).map fun i=>(trn n G).getD (z02 (G.getD i [])) []
 have gr:∀ x∈G,x.length=n:=fun x hx=>(Ag.mem hx).1
 have dl:D.length=r:=by simp[D]
 have de:∀ i j,i<r→ent D i j=ent G j (z02 (G.getD i [])):=fun i j hi=>by
  have:D.getD i []=(trn n G).getD (z02 (G.getD i [])) []:=by simp[D,List.getD,hi]
  rw[←z1v gr]
  unfold ent
  rw[this]
 have low:∀ i j,i<j→ent D i j=0:=fun i j h=>by
  by_cases hi:i<r
  · rw[de i j hi]
    by_cases hj:j<r
    · exact z0q _ _ (zfd Ag h (by rw[gl];exact hj))
    · exact z0S (by rw[gl];omega) _
  · exact z0S (by rw[dl];omega) _
 have pos:∀ i,i<r→0<ent D i i:=fun i hi=>by
  rw[de i i hi]
  exact(z7d Ag (k:=i) (by rw[gl];exact hi)).2.2.2
 have b:=q.prod_bound dl low pos fun x hx=>by
  obtain⟨j,hj,rfl⟩:=List.mem_map.mp hx
  have hj:=List.mem_range.mp hj
  exact s _ (z1f (by rw[z0Z];exact(z7d Ag (k:=j) (by rw[gl];exact hj)).2.2.1))
 have b2:=ze (f:=fun i=>(ent D i i).toNat) (e:=e) (r:=r) fun i hi=>by
  have h:ent D i i<2 ^ e:=by rw[de i i hi];exact hb _ (z1f (by rw[gl];exact hi))
  have p2:(0:Int)<2 ^ e:=Int.pow_pos (by decide)
  have:((2 ^ e:Nat):Int)=(2:Int) ^ e:=by norm_cast
  omega
 rw[zk0 fun i hi=>q.pos hi]
 have:((2 ^ (e*r):Nat):Int)=(2:Int) ^ (e*r):=by norm_cast
 omega
theorem Sq.entry(q:Sq r A){w:Int}(h:z2p r w A)(hw:0<w)(i j:Nat):0≤ent A i j∧ent A i j≤w:=by
 by_cases hj:j<r
 · have d:=Int.le_of_dvd hw (q.whole h hj)
   rcases Nat.lt_trichotomy i j with x|x|x
   · have:=q.red x hj;omega
   · subst x;have:=q.pos hj;omega
   · rw[q.low x];omega
 · rw[q.far (by omega)];omega
end St

end
section
set_option linter.all false
set_option maxRecDepth 100000
namespace St
open Lat
variable {n:Nat}{G:List Row}{M K0:Meas}
theorem z34{i:Nat}(h:i<M.length):mp (M++K0) i=mp M i∧mw (M++K0) i=mw M i:=by
 unfold mp mw;simp[List.getD,List.getElem?_append_left h]
theorem za6{p q i:Nat}{x y:Row×Int}(hpq:p≠q)(hp:p<M.length)(hq:q<M.length):((M.set p x).set q y).getD i ([],0)=if i=q then y else if i=p then x else M.getD i ([],0):=by
 by_cases h1:i=q
 · subst h1;simp[List.getD,hq]
 · rw[if_neg h1]
   by_cases h2:i=p
   · subst h2;simp[List.getD,List.getElem?_set,hp,Ne.symm h1,if_neg (Ne.symm h1)]
   · rw[if_neg h2];simp[List.getD,List.getElem?_set,Ne.symm h1,Ne.symm h2]
theorem z3M{i:Nat}:(M++K0).getD i ([],0)=if i<M.length then M.getD i ([],0) else K0.getD (i-M.length) ([],0):=by
 by_cases h:i<M.length
 · rw[if_pos h];simp[List.getD,List.getElem?_append_left h]
 · rw[if_neg h];simp[List.getD,List.getElem?_append_right (Nat.le_of_not_lt h)]
structure Bz(g f1 f2 a b a' b':Int):Prop where
 gp:0<g
 ea:a=g*a'
 eb:b=g*b'
 one:f1*a'+f2*b'=1
theorem Bz.of{g f1 f2 a b:Int}(gp:0<g)(ga:g∣a)(gb:g∣b)(h:f1*a+f2*b=g):Bz g f1 f2 a b (a / g) (b / g):=by
 obtain⟨a',rfl⟩:=ga
 obtain⟨b',rfl⟩:=gb
 rw[Int.mul_ediv_cancel_left _ (by omega),Int.mul_ediv_cancel_left _ (by omega)]
 refine⟨gp,rfl,rfl,?_⟩
 have:g*(f1*a'+f2*b')=g*1:=by grind
 exact Int.eq_of_mul_eq_mul_left (by omega) this
theorem zq8{p q:Nat}{g f1 f2 a' b' lc:Int}{u l:Row}{qu ql:Nat→Int}(m:Ms n G (M++K0))(hlc:lc=a'*mp M q)(hpq:p≠q)(hp:p<M.length)(hq:q<M.length)(z:Bz g f1 f2 (mp M p) (mp M q) a' b')(hu:u.length=n)(hl:l.length=n)
   (eu:∀ k,at0 u k=(at0 (mw M p) k+at0 (mw M q) k)-g*qu k) (el:∀ k,at0 l k=((-(f2*b'))*at0 (mw M p) k+(f1*a')*at0 (mw M q) k)-lc*ql k) :
   Ms n G ((M.set p (u,g)).set q (l,lc)++K0):=by
 have len:((M.set p (u,g)).set q (l,lc)).length=M.length:=by simp
 have get:∀ i,((M.set p (u,g)).set q (l,lc)++K0).getD i ([],0)=if i=q then(l,lc) else if i=p then(u,g) else(M++K0).getD i ([],0):=fun i=>by
   rw[z3M,len,za6 hpq hp hq]
   by_cases h1:i=q
   · subst h1;rw[if_pos hq,if_pos rfl,if_pos rfl]
   · by_cases h2:i=p
     · subst h2;rw[if_pos hp,if_neg h1,if_neg h1,if_pos rfl,if_pos rfl]
     · rw[if_neg h1,if_neg h2,if_neg h1,if_neg h2,z3M]
 obtain⟨x1,x2⟩:=z34 (K0:=K0) hp
 obtain⟨y1,y2⟩:=z34 (K0:=K0) hq
 have dl:∀(x y:Row) (c d:Int) (w:Row) (s:Int) (t:Nat→Int) (v:Vec),(∀ k,at0 w k=(c*at0 x k+d*at0 y k)-s*t k)→s∣dt n w v-(c*dt n x v+d*dt n y v):=fun x y c d w s t v h=>by
   refine⟨- sm n (fun k=>t k*v k),?_⟩
   unfold dt
   rw[←z2F,←z2F,←z80,←za4,z0s (g:=fun k=>(-s)*(t k*v k)) fun k _=>by rw[h k];grind,z2F];grind
 have hg:=z.gp
 refine m.link (p:=p) (q:=q) (g:=g) (f1:=f1) (f2:=f2) (a:=a') (b:=b') (by rw[List.length_append];omega) (by rw[List.length_append];omega) hpq (by rw[x1];exact z.ea) (by rw[y1];exact z.eb) (by omega) z.one ?_ ?_ ?_ ?_ ?_ ?_ ?_
 · intro x hx
   rcases List.mem_append.mp hx with hx|hx
   · rcases List.mem_or_eq_of_mem_set hx with hx|rfl
     · rcases List.mem_or_eq_of_mem_set hx with hx|rfl
       · exact m.rows x (List.mem_append.mpr (.inl hx))
       · exact hu
     · exact hl
   · exact m.rows x (List.mem_append.mpr (.inr hx))
 · rw[List.length_append,List.length_append,len]
 · intro i h1 h2
   unfold mp mw
   rw[get,if_neg h2,if_neg h1]
   exact⟨rfl,rfl⟩
 · unfold mp;rw[get,if_neg hpq,if_pos rfl]
 · have e:=z.eb;unfold mp;rw[get,if_pos rfl];show lc=_;rw[hlc,e]
 · intro v
   rw[x2,y2]
   have h:=dl (mw M p) (mw M q) 1 1 u g qu v fun k=>by rw[eu k];omega
   rw[show mw ((M.set p (u,g)).set q (l,lc)++K0) p=u by unfold mw;rw[get,if_neg hpq,if_pos rfl]]
   simpa using h
 · intro v
   have e:=z.eb
   rw[x2,y2,←e,←hlc]
   have h:=dl (mw M p) (mw M q) (-(f2*b')) (f1*a') l lc ql v el
   rw[show mw ((M.set p (u,g)).set q (l,lc)++K0) q=l by unfold mw;rw[get,if_pos rfl]]
   exact h
structure Chn(w:Int)(t s:Nat)(M:Meas):Prop where
 pos:∀ i,i<M.length→0<mp M i
 whole:∀ i,i<M.length→mp M i∣w
 all:∀ i j,i<t→i<j→j<M.length→mp M i∣mp M j
 here:∀ j,t<j→j<s→j<M.length→mp M t∣mp M j
theorem Chn.link{w g f1 f2 a' b' lc:Int}{t s:Nat}{u l:Row}(c:Chn w t s M)(hts:t<s)(hs:s<M.length)(z:Bz g f1 f2 (mp M t) (mp M s) a' b')(hlc:lc=a'*mp M s):Chn w t (s+1) ((M.set t (u,g)).set s (l,lc)):=by
 have len:((M.set t (u,g)).set s (l,lc)).length=M.length:=by simp
 have get:∀ i,mp ((M.set t (u,g)).set s (l,lc)) i=if i=s then lc else if i=t then g else mp M i:=fun i=>by
   unfold mp;rw[za6 (by omega) (by omega) hs];split
   · rfl
   · split<;>rfl
 have hg:=z.gp
 have pt:=c.pos t (by omega)
 have ps:=c.pos s hs
 have ap:0<a':=by
   have e:=z.ea
   rcases Int.lt_trichotomy a' 0 with h|h|h
   · have:=Int.mul_neg_of_pos_of_neg hg h;omega
   · rw[h]at e;omega
   · exact h
 refine⟨fun i hi=>?_,fun i hi=>?_,fun i j h1 h2 h3=>?_,fun j h1 h2 h3=>?_⟩
 · rw[len]at hi
   rw[get];split
   · rw[hlc];exact Int.mul_pos ap ps
   · split
     · exact hg
     · exact c.pos i hi
 · rw[len]at hi
   rw[get];split
   · have e:=z.eb
     rw[hlc,e]
     exact zq6 (by omega) z.one (by rw[←z.ea];exact c.whole t (by omega)) (by rw[←e];exact c.whole s hs)
   · split
     · exact Int.dvd_trans ⟨a',z.ea⟩ (c.whole t (by omega))
     · exact c.whole i hi
 · rw[len]at h3
   rw[get i,if_neg (by omega),if_neg (by omega),get j]
   split
   · rw[hlc];exact Int.dvd_trans (c.all i s h1 (by omega) hs) ⟨a',Int.mul_comm _ _⟩
   · split
     · have d1:=c.all i t h1 (by omega) (by omega)
       have d2:=c.all i s h1 (by omega) hs
       have e:g=f1*mp M t+f2*mp M s:=by
        rw[z.ea,z.eb]
        have:=z.one
        grind
       rw[e]
       exact Int.dvd_add (Int.dvd_trans d1 ⟨f1,Int.mul_comm _ _⟩) (Int.dvd_trans d2 ⟨f2,Int.mul_comm _ _⟩)
     · exact c.all i j h1 h2 h3
 · rw[len]at h3
   rw[get t,if_neg (by omega),if_pos rfl,get j]
   split
   · rw[hlc,z.eb];exact⟨a'*b',by grind⟩
   · rw[if_neg (by omega)]
     exact Int.dvd_trans ⟨a',z.ea⟩ (c.here j h1 (by omega) h3)
theorem Chn.next{w:Int}{t s:Nat}(c:Chn w t s M)(h:M.length≤s):Chn w (t+1) (t+2) M :=
 ⟨c.pos,c.whole,fun i j h1 h2 h3=>by
  by_cases e:i<t
  · exact c.all i j e h2 h3
  · have:i=t:=by omega
    subst this
    exact c.here j h2 (by omega) h3,fun j h1 h2=>by omega⟩
theorem Chn.first{w:Int}(hp:∀ i,i<M.length→0<mp M i)(hw:∀ i,i<M.length→mp M i∣w):Chn w 0 1 M:=⟨hp,hw,fun i j h=>by omega,fun j h1 h2=>by omega⟩
end St

end
section
set_option linter.all false
set_option maxRecDepth 100000
namespace St
open Lat
theorem Sq.whole_col{r:Nat}{A:List Row}{w:Int}(q:Sq r A)(h:z2p r w (trn r A)){i:Nat}(hi:i<r):ent A i i∣w:=by
 obtain⟨c,hc⟩:=z1g.mp (h i hi)
 rw[z0Z]at hc
 have B:=q.below h
 have z:=z7g (m:=r) (a:=i+1) (c:=c) (D:=fun l j=>ent (trn r A) l j) B.pos B.low fun j h1 h2=>by rw[←hc j];simp only[pt];rw[if_neg (by omega)]
 have e:=hc i
 rw[z2n hi fun k hk hn=>?_]at e
 · rw[z1v q.rows]at e
   simp only[pt,if_true]at e
   exact⟨c i,by rw[e];exact Int.mul_comm _ _⟩
 · rcases Nat.lt_or_gt_of_ne hn with x|x
   · rw[B.low k i x hi];simp
   · rw[z (r-k) k (by omega) (by omega) hk];simp
theorem Sq.entryC{r:Nat}{A:List Row}(q:Sq r A){w:Int}(h:z2p r w (trn r A))(hw:0<w)(i j:Nat):0≤ent A i j∧ent A i j≤w:=by
 by_cases hj:j<r
 · have d:=Int.le_of_dvd hw (q.whole_col h hj)
   rcases Nat.lt_trichotomy i j with x|x|x
   · have:=q.red x hj;omega
   · subst x;have:=q.pos hj;omega
   · rw[q.low x];omega
 · rw[q.far (by omega)];omega
theorem Good.sq{r N B:Nat}{w:Int}{P S:List Row}(G:Good N B P S)(b:Below r N w P):S.length=r∧∀ x∈S,z02 x<r:=by
 refine⟨by rw[G.full b.ind,b.len],fun x hx=>(b.full G.asc G.span x hx).1⟩
end St

end
section
local macro_rules|`(tactic| omega)=>`(tactic| first|lia|omega +splitDisjunctions)
set_option linter.all false
set_option maxRecDepth 100000
namespace L2
open PySem
theorem z4N{a b:List Int}(h:a.length=b.length)(k:Nat):St.at0 (addR a b) k=St.at0 a k+St.at0 b k:=by
 have e:addR a b=St.lin 1 a 1 b:=by unfold addR St.lin;congr 1;funext x y;omega
 rw[e,St.z9g h];omega
theorem z5i{a b:List Int}(h:a.length=b.length)(k:Nat):St.at0 (subR a b) k=St.at0 a k-St.at0 b k:=by
 have e:subR a b=St.sub a 1 b:=by unfold subR St.sub;congr 1;funext x y;omega
 rw[e,St.z1R h];omega
theorem z3c(q:Int)(a:List Int)(k:Nat):St.at0 (sclR q a) k=q*St.at0 a k:=by
 simp only[St.at0,sclR,List.getD,List.getElem?_map]
 cases a[k]?<;>simp
theorem ze1(n:Nat):z0w n=St.zjW n:=by unfold z0w St.zjW;simp
theorem z2d(n k:Nat):St.at0 (z0w n) k=0:=by rw[ze1];exact St.zkZ n k
theorem ze2{n:Nat}:∀(rows:List (List Int)) (cs:List Int) (t:List Int),t.length=n→(∀ r∈rows,r.length=n)→∀ k,St.at0 ((rows.zip cs).foldl (fun t p=>addR t (sclR p.2 p.1)) t) k=St.at0 t k+St.mix rows cs k
 | [],cs,t,_,_,k=>by simp[St.mix]
 | r::rows,[],t,_,_,k=>by simp[St.mix]
 | r::rows,c::cs,t,ht,hw,k=>by
  have hr:=hw r List.mem_cons_self
  rw[List.zip_cons_cons,List.foldl_cons,ze2 rows cs _ (by rw[z2m (by rw[z0B,ht,hr])];exact ht) (fun x hx=>hw x (List.mem_cons_of_mem _ hx)),z4N (by rw[z0B,ht,hr]),z3c]
  show St.at0 t k+c*St.at0 r k+St.mix rows cs k=St.at0 t k+(c*St.at0 r k+St.mix rows cs k)
  omega
theorem za7{n:Nat}{rows:List (List Int)}{cs:List Int}(hw:∀ r∈rows,r.length=n)(k:Nat):St.at0 (mixR n rows cs) k=St.mix rows cs k:=by
 unfold mixR
 rw[ze2 rows cs (z0w n) z1c hw,z2d];omega
theorem zk1(v:List Int):sclR 1 v=v:=by unfold sclR;simp
theorem ze3{r:List Int}{x:Int}(h:x∈r):∃ k,St.at0 r k=x:=by
 obtain⟨k,hk,e⟩:=List.mem_iff_getElem.mp h
 exact⟨k,by simp[St.at0,List.getD,List.getElem?_eq_getElem hk,e]⟩
theorem zmu{r:List Int}{B:Nat}(h:St.Lt B r):∀ x∈r,x.natAbs<B:=fun x hx=>by
 obtain⟨k,rfl⟩:=ze3 hx
 exact h k
end L2
namespace L2
open PySem
theorem zk2{n i:Nat}(h:i<n):ixN n (i:Int)=some i:=by
 unfold ixN
 rw[if_pos (by omega),if_pos (by omega)];simp
theorem z2G{i j:Int}(h:0<j):z3I i j=true:=by unfold z3I;rw[decide_eq_true (show j≠0 by omega)]
end L2
namespace L2
open PySem
theorem zbG{α γ:Type}{g:Tg}{F:FS}(e:α→Dt)(bad:α→Prop)(R:γ→Rho)(f:Fl)(d:Dt):∀(xs:List α) (j:γ),(∀ x∈xs,∀ j,bad x→(g.put (e x) (R j)).bind F=some (.rt f d))→(∀ x∈xs,∀ j,¬bad x→∃ j',(g.put (e x) (R j)).bind F=some (.nx (R j'))) →
  ((∃ x∈xs,bad x)→forF g F (xs.map e) (R j)=some (.rt f d))∧((∀ x∈xs,¬bad x)→∃ j',forF g F (xs.map e) (R j)=some (.nx (R j')))
 | [],j,_,_=>⟨fun⟨x,hx,_⟩=>(nomatch hx),fun _=>⟨j,rfl⟩⟩
 | x::xs,j,h1,h2=>by
  by_cases hb:bad x
  · have e1:=h1 x List.mem_cons_self j hb
    refine⟨fun _=>?_,fun h=>absurd hb (h x List.mem_cons_self)⟩
    rw[List.map_cons,z1b,e1];rfl
  · obtain⟨j1,e1⟩:=h2 x List.mem_cons_self j hb
    obtain⟨i1,i2⟩:=zbG e bad R f d xs j1 (fun y hy=>h1 y (List.mem_cons_of_mem _ hy)) (fun y hy=>h2 y (List.mem_cons_of_mem _ hy))
    rw[List.map_cons,z1b,e1]
    refine⟨fun⟨y,hy,by_⟩=>?_,fun h=>i2 fun y hy=>h y (List.mem_cons_of_mem _ hy)⟩
    rcases List.mem_cons.mp hy with rfl|hy
    · exact absurd by_ hb
    · exact i1 ⟨y,hy,by_⟩
theorem us0{P:List Value→Prop}(h:P []):∀ us:List Value,us.length=0→P us:=fun us hl=>(List.length_eq_zero_iff.mp hl).symm ▸ h
theorem usS{P:List Value→Prop}{n:Nat}(h:∀ a us,us.length=n→P (a::us)):∀ us:List Value,us.length=n+1→P us:=fun us hl=>by
 cases us with
 | nil=>cases hl
 | cons a us=>exact h a us (Nat.succ.inj hl)
theorem us1{P:List Value→Prop}(h:∀ a,P [a]):∀ us:List Value,us.length=1→P us:=usS fun a=>us0 (h a)
theorem us2{P:List Value→Prop}(h:∀ a b,P [a,b]):∀ us:List Value,us.length=2→P us:=usS fun a=>(usS fun b=>us0 (h a b))
theorem us3{P:List Value→Prop}(h:∀ a b c,P [a,b,c]):∀ us:List Value,us.length=3→P us:=usS fun a=>(usS fun b=>(usS fun c=>us0 (h a b c)))
theorem us4{P:List Value→Prop}(h:∀ a b c d,P [a,b,c,d]):∀ us:List Value,us.length=4→P us:=usS fun a=>(usS fun b=>(usS fun c=>(usS fun d=>us0 (h a b c d))))
end L2

end
section
set_option Elab.async false
set_option linter.all false
set_option maxRecDepth 100000
set_option maxHeartbeats 1000000
namespace K10
open PySem L2
noncomputable section
def z6B:FS:=(sRet (vAnd (fIsi "int" (fN 0)) (vNot (fIsi "bool" (fN 0)))))
def z2H:FC:=cOf 1 1 true z6B
def za8:FS:=(sSeq (sIf (fOr (fNot (fTru (fIsi "list" (fN 0)))) (z0n (fOp opNe (fBlt bLen (z01 (fN 0) fNil)) (fN 1)))) (sRet (fC (.bl false))) z0A)
 (sRet (fBlt bAll (z01 (z0e 1 [] (iSeq (fN 0)) (Tg.one 0) fYes (z06 true z2H (z01 (fN 0) fNil))) fNil))))
def z5j:FC:=cOf 2 2 true za8
def z82:FS:=(sRet (z0e 1 [] (z0l (fN 0)) (Tg.one 0) fYes (fC (.int 0))))
def z4d:FC:=cOf 1 1 true z82
def z6C:FS:=(sRet (z0e 1 [1] (z0l (fN 0)) (Tg.one 0) fYes (fIf (z0n (fOp opEq (fN 0) (fN 1))) (fC (.int 1)) (fC (.int 0)))))
def z26:FC:=cOf 2 2 true z6C
def zcQ:FS:=(sRet (z0e 2 [] (iZip (fN 0) (fN 1)) (Tg.many [0,1]) fYes (fOp z0y (fN 0) (fN 1))))
def z60:FC:=cOf 2 2 true zcQ
def zcR:FS:=(sRet (z0e 2 [] (iZip (fN 0) (fN 1)) (Tg.many [0,1]) fYes (fOp z8D (fN 0) (fN 1))))
def z4O:FC:=cOf 2 2 true zcR
def za9:FS:=(sRet (z0e 1 [1] (iSeq (fN 0)) (Tg.one 0) fYes (fOp z19 (fN 1) (fN 0))))
def z1p:FC:=cOf 2 2 true za9
def z83:FS:=(sRet (fBlt bSum (z01 (z0e 2 [] (iZip (fN 0) (fN 1)) (Tg.many [0,1]) fYes (fOp z19 (fN 0) (fN 1))) fNil)))
def z61:FC:=cOf 2 2 true z83
def z84:FS:=(sSeq (sFor [] (z3s (fN 0)) (Tg.many [1,2])
 (sIf (z0n (fOp opNe (fN 2) (fC (.int 0)))) (sRet (fN 1)) z0A))
 (sRet (fBlt bLen (z01 (fN 0) fNil))))
def z0k:FC:=cOf 1 3 true z84
def z5k:FS:=(sRet (vAnd (z06 true z2H (z01 (fN 0) fNil)) (z9A opLe opLe (fC (.int 1)) (fN 0) (fC (.int 6)))))
def z3N:FC:=cOf 1 1 true z5k
def z85:FS:=(sRet (vAnd (z06 true z5j (z01 (fN 0) (z01 (fN 1) fNil))) (fBlt bAll (z01 (z0e 1 [] (iSeq (fN 0)) (Tg.one 0) fYes (fOp opLt (fBlt bAbs (z01 (fN 0) fNil)) (fOp zbk (fC (.int 10)) (fC (.int 30))))) fNil))))
def z62:FC:=cOf 2 2 true z85
def z4P:FS:=(sIf (fNot (fTru (z06 true z3N (z01 (fN 0) fNil)))) z9G z0A)
def z3d:FC:=cOf 1 1 true z4P
def z5l:FS:=(sIf (fNot (fTru (z06 true z62 (z01 (fN 0) (z01 (fN 1) fNil))))) z9G z0A)
def z2e:FC:=cOf 2 2 true z5l
def z86:FS:=(sRet (fTup (z01 (fN 0) (z01 (fBlt bTup (z01 (z0e 1 [] (iSeq (fN 1)) (Tg.one 0) fYes (fBlt bTup (z01 (fN 0) fNil))) fNil)) fNil))))
def z63:FC:=cOf 2 2 true z86
def z87:FS:=(sSeq (z6m (z06 true z3d (z01 (fN 0) fNil)))
 (sSeq (sIf (fOr (fNot (fTru (fIsi "list" (fN 1)))) (z0n (fOp opGt (fBlt bLen (z01 (fN 1) fNil)) (fC (.int 8))))) z9G z0A)
 (sSeq (sFor [] (iSeq (fN 1)) (Tg.one 2)
 (z6m (z06 true z2e (z01 (fN 2) (z01 (fN 0) fNil)))))
 (sRet (z06 true z63 (z01 (fN 0) (z01 (fN 1) fNil)))))))
def z4e:FC:=cOf 2 3 true z87
def z2I:FS:=(sIf (fNot (fTru (z06 true z5j (z01 (fN 1) (z01 (fN 0) fNil))))) z9G z0A)
def z1S:FC:=cOf 2 2 true z2I
def z3Z:FS:=(z6m (z06 true z1S (z01 (fAt (fN 0) (fC (.int 0))) (z01 (fN 1) fNil))))
def z20:FC:=cOf 2 2 true z3Z
def zaa:FS:=(sRet (z06 true z4d (z01 (fAt (fN 0) (fC (.int 0))) fNil)))
def z7h:FC:=cOf 1 1 true zaa
def zcS:FS:=(sSeq (z6m (z06 true z20 (z01 (fN 0) (z01 (fN 1) fNil))))
 (sSeq (z6m (z06 true z20 (z01 (fN 0) (z01 (fN 2) fNil))))
 (sRet (z06 true z4O (z01 (fN 2) (z01 (fN 1) fNil))))))
def z64:FC:=cOf 3 3 true zcS
def zab:FS:=(sSeq (sSet [] 2 (fLst (z01 (fN 0) (z01 (fC (.int 1)) (z01 (fC (.int 0)) fNil)))))
 (sSeq (sSet [] 3 (fLst (z01 (fN 1) (z01 (fC (.int 0)) (z01 (fC (.int 1)) fNil)))))
 (sSeq (z3V (z0n (fOp opNe (fAt (fN 3) (fC (.int 0))) (fC (.int 0)))) (sSeq (sSet [] 4 (fOp z43 (fAt (fN 2) (fC (.int 0))) (fAt (fN 3) (fC (.int 0)))))
 (sSeq (sSet [] 5 (z0e 1 [2,4,3] (z0l (fC (.int 3))) (Tg.one 0) fYes (fOp z8D (fAt (fN 1) (fN 0)) (fOp z19 (fN 2) (fAt (fN 3) (fN 0))))))
 (sSeq (sSet [] 2 (fN 3))
 (sSet [] 3 (fN 5))))))
 (sSeq (sIf (z0n (fOp opLt (fAt (fN 2) (fC (.int 0))) (fC (.int 0)))) (sSet [] 2 (z0e 1 [] (iSeq (fN 2)) (Tg.one 0) fYes (fNeg (fN 0)))) z0A)
 (sRet (fBlt bTup (z01 (fN 2) fNil)))))))
def z5m:FC:=cOf 2 6 true zab
def zcT:FS:=(sSeq (sIf (z0n (fOp opEq (fN 1) (fC (.int 0)))) (sRet (fN 0)) z0A)
 (sRet (fOp z1n (fN 0) (fN 1))))
def z5n:FC:=cOf 2 2 true zcT
def z88:FS:=(sSeq (sSet [] 1 (fC (.int 1)))
 (sSeq (sFor [] (iSeq (fN 0)) (Tg.one 2)
 (sSet [] 1 (fOp z19 (fN 1) (fN 2))))
 (sRet (fN 1))))
def z65:FC:=cOf 1 3 true z88
def z6D:FS:=(sSeq (sSet [] 2 (fBlt bLst (z01 (fN 0) fNil)))
 (sSeq (sOwn 3 (fLst fNil))
 (sSeq (sFor [] (iSeq (fN 1)) (Tg.one 4)
 (sSeq (sSet [] 5 (z06 true z0k (z01 (fN 4) fNil)))
 (sSeq (sSet [] 6 (fOp z43 (fAt (fN 2) (fN 5)) (fAt (fN 4) (fN 5))))
 (sSeq (sIf (z0n (fOp opNe (fN 6) (fC (.int 0)))) (sSet [] 2 (z06 true z4O (z01 (fN 2) (z01 (z06 true z1p (z01 (fN 4) (z01 (fN 6) fNil))) fNil)))) z0A)
 (sWr wApp 3 (fN 6))))))
 (sRet (fTup (z01 (fN 3) (z01 (fN 2) fNil)))))))
def z4Q:FC:=cOf 2 7 true z6D
def z89:FS:=(sRet (fAt (z06 true z4Q (z01 (fN 0) (z01 (fN 1) fNil))) (fC (.int 1))))
def z10:FC:=cOf 2 2 true z89
def z8a:FS:=(sSeq (sSet [] 2 (z06 true z0k (z01 (fN 0) fNil)))
 (sSeq (sSet [] 3 (z06 true z5m (z01 (fAt (fN 0) (fN 2)) (z01 (fAt (fN 1) (fN 2)) fNil))))
 (sSeq (sSet [] 4 (z06 true z60 (z01 (z06 true z1p (z01 (fN 0) (z01 (fAt (fN 3) (fC (.int 1))) fNil))) (z01 (z06 true z1p (z01 (fN 1) (z01 (fAt (fN 3) (fC (.int 2))) fNil))) fNil))))
 (sSeq (sSet [] 5 (z06 true z4O (z01 (z06 true z1p (z01 (fN 1) (z01 (fOp z43 (fAt (fN 0) (fN 2)) (fAt (fN 3) (fC (.int 0)))) fNil))) (z01 (z06 true z1p (z01 (fN 0) (z01 (fOp z43 (fAt (fN 1) (fN 2)) (fAt (fN 3) (fC (.int 0)))) fNil))) fNil))))
 (sRet (fTup (z01 (fN 4) (z01 (fN 5) fNil))))))))
def z3h:FC:=cOf 2 6 true z8a
def z5o:FS:=(sRet (fIf (z0n (fOp opLt (fAt (fN 0) (z06 true z0k (z01 (fN 0) fNil))) (fC (.int 0)))) (z06 true z1p (z01 (fN 0) (z01 (fNeg (fC (.int 1))) fNil))) (fBlt bLst (z01 (fN 0) fNil))))
def z1h:FC:=cOf 1 1 true z5o
def z3y:FS:=(sSeq (sOwn 2 (fBlt bLst (z01 (fN 0) fNil)))
 (sSeq (z2U 3 (z06 true z10 (z01 (fN 1) (z01 (fN 2) fNil))))
 (sSeq (z3V (z0n (fOp opLt (z06 true z0k (z01 (fN 3) fNil)) (fBlt bLen (z01 (fN 3) fNil)))) (sSeq (z2U 4 (z0e 2 [3] (z3s (fN 2)) (Tg.many [0,1]) (z0n (fOp opEq (z06 true z0k (z01 (fN 1) fNil)) (z06 true z0k (z01 (fN 2) fNil)))) (fN 0)))
 (sSeq (sIf (z0n (fOp opEq (fBlt bLen (z01 (fN 4) fNil)) (fC (.int 0)))) (sRet (z6x z0k (fOp z0y (fN 2) (fLst (z01 (z06 true z1h (z01 (fN 3) fNil)) fNil))))) z0A)
 (sSeq (z2U 5 (z06 true z3h (z01 (fAt (fN 2) (fAt (fN 4) (fC (.int 0)))) (z01 (fN 3) fNil))))
 (sSeq (sPut 2 (fAt (fN 4) (fC (.int 0))) (fAt (fN 5) (fC (.int 0))))
 (z2U 3 (z06 true z10 (z01 (fAt (fN 5) (fC (.int 1))) (z01 (fN 2) fNil)))))))))
 (sRet (fN 2)))))
def z2J:FC:=cOf 2 6 false z3y
def zac:FS:=(sSeq (sOwn 1 (fLst fNil))
 (sSeq (sFor [] (iRev (fN 0)) (Tg.one 2)
 (sWrA z9K 1 (z06 true z10 (z01 (fN 2) (z01 (fN 1) fNil)))))
 (sRet (fN 1))))
def z5p:FC:=cOf 1 3 true zac
def z8b:FS:=(sSeq (sSet [] 1 (fLst fNil))
 (sSeq (sFor [] (iSeq (fN 0)) (Tg.one 2)
 (sSet [] 1 (z06 true z5p (z01 (z06 false z2J (z01 (fN 1) (z01 (fN 2) fNil))) fNil))))
 (sRet (fN 1))))
def z2f:FC:=cOf 1 3 true z8b
def z2r:FS:=(sRet (z06 true z2f (z01 (z0e 2 [] (iZip (fN 0) (fN 1)) (Tg.many [0,1]) fYes (fOp z0y (fBlt bLst (z01 (fN 0) fNil)) (fBlt bLst (z01 (fN 1) fNil)))) fNil)))
def z0N:FC:=cOf 2 2 true z2r
def z2K:FS:=(sRet (z0e 1 [1] (iSeq (fN 0)) (Tg.one 0) (z0n (fOp opGe (z06 true z0k (z01 (fN 0) fNil)) (fN 1))) (fSl (fN 0) (z1G (fN 1)) z0L)))
def z0U:FC:=cOf 2 2 true z2K
def zcU:FS:=(sRet (z06 true z2f (z01 (fAt (fN 0) (fC (.int 1))) fNil)))
def z66:FC:=cOf 1 1 true zcU
def z2s:FS:=(sSeq (sSet [] 1 (fBlt bLen (z01 (fAt (fN 0) (fC (.int 1))) fNil)))
 (sRet (z06 true z0N (z01 (fAt (fN 0) (fC (.int 1))) (z01 (z0e 1 [1] (z0l (fN 1)) (Tg.one 0) fYes (z06 true z26 (z01 (fN 1) (z01 (fN 0) fNil)))) fNil)))))
def z11:FC:=cOf 1 2 true z2s
def zad:FS:=(sRet (z0e 1 [0] (z0l (fN 1)) (Tg.one 0) fYes (z0e 1 [0] (iSeq (fN 1)) (Tg.one 0) fYes (fAt (fN 0) (fN 1)))))
def z30:FC:=cOf 2 2 true zad
def z4R:FS:=(sSeq (sFor [] (z3s (fN 0)) (Tg.many [1,2])
 (sIf (fOr (z0n (fOp opNe (z06 true z0k (z01 (fN 2) fNil)) (fN 1))) (fTru (fBlt bAny (z01 (z0e 1 [] (iSeq (fSl (fN 2) (z1G (fOp z0y (fN 1) (fC (.int 1)))) z0L)) (Tg.one 0) fYes (fOp opNe (fN 0) (fC (.int 0)))) fNil)))) (sRet (fC (.bl false))) z0A))
 (sRet (fC (.bl true))))
def z27:FC:=cOf 1 3 true z4R
def zcV:FS:=(sRet (z0e 1 [1] (iSeq (fN 0)) (Tg.one 0) fYes (z06 true z5n (z01 (fN 0) (z01 (fN 1) fNil)))))
def z2T:FC:=cOf 2 2 true zcV
def z4f:FS:=(sSeq (sSet [] 3 (fBlt bLen (z01 (fN 0) fNil)))
 (sSeq (sSet [] 4 (fN 0))
 (sSeq (sSet [] 5 (fN 1))
 (sSeq (z3V (fNot (fTru (z06 true z27 (z01 (fN 4) fNil)))) (sSeq (sSet [] 6 (z06 true z30 (z01 (z06 true z2f (z01 (z06 true z30 (z01 (fN 4) (z01 (fN 3) fNil))) fNil)) (z01 (fN 3) fNil))))
 (sSeq (sSet [] 7 (z06 true z0N (z01 (fN 6) (z01 (fN 5) fNil))))
 (sSeq (sSet [] 4 (z0e 1 [3] (iSeq (fN 7)) (Tg.one 0) fYes (fSl (fN 0) z0L (z1G (fN 1)))))
 (sSet [] 5 (z0e 1 [3,2] (iSeq (fN 7)) (Tg.one 0) fYes (z06 true z2T (z01 (fSl (fN 0) (z1G (fN 1)) z0L) (z01 (fN 2) fNil)))))))))
 (sRet (z0e 2 [4] (z3s (fN 5)) (Tg.many [0,1]) fYes (fTup (z01 (fN 1) (z01 (fAt (fAt (fN 2) (fN 0)) (fN 0)) fNil)))))))))
def z67:FC:=cOf 3 8 false z4f
def z5q:FS:=(sSeq (sSet [] 2 (z06 true z5m (z01 (fAt (fN 0) (fC (.int 1))) (z01 (fAt (fN 1) (fC (.int 1))) fNil))))
 (sSeq (sSet [] 3 (fAt (fN 2) (fC (.int 0))))
 (sSeq (sSet [] 4 (fOp z19 (fOp z43 (fAt (fN 0) (fC (.int 1))) (fN 3)) (fAt (fN 1) (fC (.int 1)))))
 (sSeq (sSet [] 5 (z06 true z60 (z01 (fAt (fN 0) (fC (.int 0))) (z01 (fAt (fN 1) (fC (.int 0))) fNil))))
 (sSeq (sSet [] 6 (z06 true z60 (z01 (z06 true z1p (z01 (fAt (fN 0) (fC (.int 0))) (z01 (fOp z19 (fNeg (fAt (fN 2) (fC (.int 2)))) (fOp z43 (fAt (fN 1) (fC (.int 1))) (fN 3))) fNil))) (z01 (z06 true z1p (z01 (fAt (fN 1) (fC (.int 0))) (z01 (fOp z19 (fAt (fN 2) (fC (.int 1))) (fOp z43 (fAt (fN 0) (fC (.int 1))) (fN 3))) fNil))) fNil))))
 (sRet (fTup (z01 (fTup (z01 (z06 true z2T (z01 (fN 5) (z01 (fN 3) fNil))) (z01 (fN 3) fNil))) (z01 (fTup (z01 (z06 true z2T (z01 (fN 6) (z01 (fN 4) fNil))) (z01 (fN 4) fNil))) fNil)))))))))
def z3z:FC:=cOf 2 7 true z5q
def z4g:FS:=(sSeq (sOwn 1 (fBlt bLst (z01 (fN 0) fNil)))
 (sSeq (z8I (z0l (fBlt bLen (z01 (fN 1) fNil))) (Tg.one 2)
 (z8I (z9d (fOp z0y (fN 2) (fC (.int 1))) (fBlt bLen (z01 (fN 1) fNil))) (Tg.one 3)
 (sSeq (z2U 4 (z06 true z3z (z01 (fAt (fN 1) (fN 2)) (z01 (fAt (fN 1) (fN 3)) fNil))))
 (sSeq (sPut 1 (fN 2) (fAt (fN 4) (fC (.int 0))))
 (sPut 1 (fN 3) (fAt (fN 4) (fC (.int 1))))))))
 (sRet (z0e 2 [] (iSeq (fN 1)) (Tg.many [0,1]) fYes (fTup (z01 (z06 true z2T (z01 (fN 0) (z01 (fN 1) fNil))) (z01 (fN 1) fNil)))))))
def z3i:FC:=cOf 1 5 true z4g
def z3A:FS:=(sSeq (sSet [] 1 (fAt (fN 0) (fC (.int 0))))
 (sSeq (sSet [] 2 (z06 true z66 (z01 (fN 0) fNil)))
 (sSeq (sSet [] 3 (fBlt bLen (z01 (fN 2) fNil)))
 (sSeq (sSet [] 4 (z06 true z0N (z01 (z06 true z30 (z01 (fN 2) (z01 (fN 1) fNil))) (z01 (z0e 1 [1] (z0l (fN 1)) (Tg.one 0) fYes (z06 true z26 (z01 (fN 1) (z01 (fN 0) fNil)))) fNil))))
 (sSeq (sSet [] 5 (z0e 1 [3] (iSeq (fSl (fN 4) z0L (z1G (fN 3)))) (Tg.one 0) fYes (fSl (fN 0) z0L (z1G (fN 1)))))
 (sSeq (sSet [] 6 (z06 true z65 (z01 (z0e 2 [] (z3s (fN 5)) (Tg.many [0,1]) fYes (fAt (fN 1) (fN 0))) fNil)))
 (sSeq (sSet [] 7 (z06 false z67 (z01 (fN 5) (z01 (z0e 1 [3] (iSeq (fSl (fN 4) z0L (z1G (fN 3)))) (Tg.one 0) fYes (fSl (fN 0) (z1G (fN 1)) z0L)) (z01 (fN 6) fNil)))))
 (sRet (fOp z0y (z06 true z3i (z01 (fN 7) fNil)) (z0e 1 [] (iSeq (z06 true z0U (z01 (fN 4) (z01 (fN 3) fNil)))) (Tg.one 0) fYes (fTup (z01 (fN 0) (z01 (fC (.int 0)) fNil)))))))))))))
def z28:FC:=cOf 1 8 false z3A
def z8c:FS:=(sSeq (sSet [] 3 (z06 true z1p (z01 (z06 true z64 (z01 (fN 0) (z01 (fN 1) (z01 (fN 2) fNil)))) (z01 (fNeg (fC (.int 1))) fNil))))
 (sSeq (sSet [] 4 (z06 true z10 (z01 (fOp z0y (fN 3) (z06 true z4d (z01 (fBlt bLen (z01 (fAt (fN 0) (fC (.int 1))) fNil)) fNil))) (z01 (z06 true z11 (z01 (fN 0) fNil)) fNil))))
 (sSeq (sIf (z0n (fOp opNe (fSl (fN 4) z0L (z1G (fAt (fN 0) (fC (.int 0))))) (z06 true z7h (z01 (fN 0) fNil)))) (sRet (fC .non)) z0A)
 (sRet (fSl (fN 4) (z1G (fAt (fN 0) (fC (.int 0)))) z0L)))))
def z68:FC:=cOf 3 5 true z8c
def zcW:FS:=(sRet (z06 true z68 (z01 (fN 0) (z01 (fN 1) (z01 (fN 2) fNil)))))
def z8d:FC:=cOf 3 3 true zcW
def z5r:FS:=(sRet (z0e 2 [] (iSeq (z06 false z28 (z01 (fN 0) fNil))) (Tg.many [0,1]) (z0n (fOp opNe (fN 1) (fC (.int 1)))) (fTup (z01 (fN 0) (z01 (fN 1) fNil)))))
def z2t:FC:=cOf 1 1 false z5r
def zfh:FS:=(sRet (z06 true z5n (z01 (z06 true z61 (z01 (fN 0) (z01 (fAt (fN 1) (fC (.int 0))) fNil))) (z01 (fAt (fN 1) (fC (.int 1))) fNil))))
def z5s:FC:=cOf 2 2 true zfh
def z2L:FS:=(sRet (fTup (z01 (fAt (fN 0) (fC (.int 0))) (z01 (fIf (z0n (fOp opEq (fAt (fN 0) (fC (.int 1))) (fC (.int 0)))) (fOp z0y (fBlt bAbs (z01 (fN 1) fNil)) (fC (.int 1))) (fAt (fN 0) (fC (.int 1)))) fNil))))
def z1q:FC:=cOf 2 2 false z2L
def z4h:FS:=(sSeq (sSet [] 3 (z06 true z64 (z01 (fN 0) (z01 (fN 1) (z01 (fN 2) fNil)))))
 (sSeq (sFor [] (iSeq (z06 false z2t (z01 (fN 0) fNil))) (Tg.one 4)
 (sSeq (sSet [] 5 (z06 true z5s (z01 (fN 3) (z01 (fN 4) fNil))))
 (sIf (z0n (fOp opNe (fN 5) (fC (.int 0)))) (sRet (z06 false z1q (z01 (fN 4) (z01 (fN 5) fNil)))) z0A)))
 (sRet (fC .non))))
def z4i:FC:=cOf 3 6 false z4h
def z7i:FS:=(sSeq (sSet [] 3 (z06 true z8d (z01 (fN 0) (z01 (fN 1) (z01 (fN 2) fNil)))))
 (sSeq (sIf (z0n (fOp zdy (fN 3) (fC .non))) (sRet (fTup (z01 (fC (.str "denial")) (z01 (z06 false z4i (z01 (fN 0) (z01 (fN 1) (z01 (fN 2) fNil)))) fNil)))) z0A)
 (sRet (fTup (z01 (fC (.str "plan")) (z01 (fN 3) fNil))))))
def z4j:FC:=cOf 3 4 false z7i
def z5t:FS:=(sSeq (sIf (z0n (fOp opLt (fN 1) (fBlt bLen (z01 (fN 0) fNil)))) (sRet (fAt (fN 0) (fN 1))) z0A)
 (sSeq (sIf (z0n (fOp opEq (fN 0) (fLst fNil))) (sRet (fC (.int 0))) z0A)
 (sRet (fOp z0y (fOp z19 (fAt (fN 0) (fOp z1n (fN 1) (fBlt bLen (z01 (fN 0) fNil)))) (fC (.int 31))) (fN 1)))))
def z0t:FC:=cOf 2 2 true z5t
def z69:FS:=(sRet (vAnd (fIsi "int" (fN 0)) (vNot (fIsi "bool" (fN 0)))))
def z1T:FC:=cOf 1 1 true z69
def z6E:FS:=(sSeq (sIf (fOr (fNot (fTru (fIsi "list" (fN 0)))) (z0n (fOp opNe (fBlt bLen (z01 (fN 0) fNil)) (fN 1)))) (sRet (fC (.bl false))) z0A)
 (sSeq (sFor [] (iSeq (fN 0)) (Tg.one 2)
 (sIf (fNot (fTru (z06 true z1T (z01 (fN 2) fNil)))) (sRet (fC (.bl false))) z0A))
 (sRet (fC (.bl true)))))
def z3B:FC:=cOf 2 3 true z6E
def z3C:FS:=(sSeq (sIf (z0n (fOp opEq (fN 1) (fC (.int 2)))) (sSeq (sSet [] 2 (fOp z1n (fN 0) (fOp zbk (fC (.int 10)) (fC (.int 30)))))
 (sSeq (sIf (z0n (fOp opEq (fOp z1n (fOp z43 (fN 0) (fOp zbk (fC (.int 10)) (fC (.int 30)))) (fC (.int 2))) (fC (.int 1)))) (sRet (fNeg (fN 2))) z0A)
 (sRet (fN 2)))) z0A)
 (sSeq (sSet [] 3 (fAt (fLst (z01 (fC (.int 9)) (z01 (fC (.int 61)) fNil))) (fN 1)))
 (sSeq (sSet [] 2 (fOp z1n (fN 0) (fN 3)))
 (sSeq (sIf (z0n (fOp opGt (fN 2) (fOp z43 (fN 3) (fC (.int 2))))) (sRet (fOp z8D (fN 2) (fN 3))) z0A)
 (sRet (fN 2))))))
def z2M:FC:=cOf 2 4 true z3C
def zcX:FS:=(sRet (z0e 1 [0,1,3] (z0l (fN 2)) (Tg.one 0) fYes (z06 true z2M (z01 (z06 true z0t (z01 (fN 1) (z01 (fOp z0y (fN 2) (fN 0)) fNil))) (z01 (fN 3) fNil)))))
def z2u:FC:=cOf 4 4 true zcX
def zbH:FS:=(sSeq (sSet [] 1 (fAt (fLst (z01 (fC (.int 0)) (z01 (fC (.int 0)) (z01 (fC (.int 0)) (z01 (fC (.int 1)) (z01 (fC (.int 2)) fNil)))))) (fOp z1n (z06 true z0t (z01 (fN 0) (z01 (fC (.int 2)) fNil))) (fC (.int 5)))))
 (sSeq (sSet [] 2 (fOp z0y (fC (.int 1)) (fOp z1n (z06 true z0t (z01 (fN 0) (z01 (fC (.int 0)) fNil))) (fC (.int 4)))))
 (sSeq (sSet [] 3 (fOp z1n (z06 true z0t (z01 (fN 0) (z01 (fC (.int 1)) fNil))) (fC (.int 5))))
 (sSeq (sIf (z0n (fOp opEq (fOp z1n (z06 true z0t (z01 (fN 0) (z01 (fC (.int 3)) fNil))) (fC (.int 7))) (fC (.int 6)))) (sSeq (sSet [] 2 (fC (.int 6)))
 (sSeq (sSet [] 3 (fC (.int 8)))
 (sSet [] 1 (fC (.int 0))))) z0A)
 (sSeq (sIf (z0n (fOp opEq (fN 1) (fC (.int 2)))) (sSeq (sSet [] 2 (fOp z0y (fC (.int 1)) (fOp z1n (fN 2) (fC (.int 2)))))
 (sSet [] 3 (fOp z1n (fN 3) (fC (.int 4))))) z0A)
 (sRet (fTup (z01 (fN 2) (z01 (z0e 1 [0,2,1] (z0l (fN 3)) (Tg.one 0) fYes (z06 true z2u (z01 (fN 1) (z01 (fOp z0y (fC (.int 8)) (fOp z19 (fN 2) (fN 0))) (z01 (fN 2) (z01 (fN 3) fNil)))))) fNil)))))))))
def z8e:FC:=cOf 1 4 true zbH
def zcY:FS:=(sSeq (sSet [] 3 (z0e 1 [] (z0l (fN 0)) (Tg.one 0) fYes (fC (.int 0))))
 (sSeq (sFor [] (z0l (fBlt bLen (z01 (fN 1) fNil))) (Tg.one 4)
 (sSet [] 3 (z0e 1 [3,2,4,1] (z0l (fN 0)) (Tg.one 0) fYes (fOp z0y (fAt (fN 1) (fN 0)) (fOp z19 (fAt (fN 2) (fN 3)) (fAt (fAt (fN 4) (fN 3)) (fN 0)))))))
 (sRet (fN 3))))
def z6a:FC:=cOf 3 5 true zcY
def zae:FS:=(sRet (z0e 1 [0,2,1] (z0l (fBlt bLen (z01 (fN 0) fNil))) (Tg.one 0) fYes (fOp z0y (fAt (fN 1) (fN 0)) (fOp z19 (fN 2) (fAt (fN 3) (fN 0))))))
def z3D:FC:=cOf 3 3 true zae
def z8f:FS:=(sSeq (sSet [] 2 (fC (.int 0)))
 (sSeq (sFor [] (z0l (fBlt bLen (z01 (fN 1) fNil))) (Tg.one 3)
 (sSet [] 2 (fOp z0y (fN 2) (fOp z19 (fAt (fN 0) (fN 3)) (fAt (fN 1) (fN 3))))))
 (sRet (fN 2))))
def z2N:FC:=cOf 2 4 true z8f
def z8g:FS:=(sSeq (sIf (fNot (fTru (z06 true z3B (z01 (fN 3) (z01 (fBlt bLen (z01 (fN 0) fNil)) fNil))))) (sRet (fC (.bl false))) z0A)
 (sRet (fOp opEq (z06 true z3D (z01 (fN 1) (z01 (z06 true z6a (z01 (fBlt bLen (z01 (fN 1) fNil)) (z01 (fN 0) (z01 (fN 3) fNil)))) (z01 (fC (.int 1)) fNil)))) (fN 2))))
def z4k:FC:=cOf 4 4 true z8g
def z6F:FS:=(sSeq (sIf (fOr (fNot (fTru (fIsi "tuple" (fN 3)))) (fOr (z0n (fOp opNe (fBlt bLen (z01 (fN 3) fNil)) (fC (.int 2)))) (fNot (fTru (z06 true z1T (z01 (fAt (fN 3) (fC (.int 1))) fNil)))))) (sRet (fC (.bl false))) z0A)
 (sSeq (sIf (fOr (fNot (fTru (z06 true z3B (z01 (fAt (fN 3) (fC (.int 0))) (z01 (fBlt bLen (z01 (fN 1) fNil)) fNil))))) (z0n (fOp opLt (fAt (fN 3) (fC (.int 1))) (fC (.int 2))))) (sRet (fC (.bl false))) z0A)
 (sSeq (sFor [] (iSeq (fN 0)) (Tg.one 4)
 (sIf (z0n (fOp opNe (fOp z1n (z06 true z2N (z01 (fAt (fN 3) (fC (.int 0))) (z01 (fN 4) fNil))) (fAt (fN 3) (fC (.int 1)))) (fC (.int 0)))) (sRet (fC (.bl false))) z0A))
 (sRet (fOp opNe (fOp z1n (z06 true z2N (z01 (fAt (fN 3) (fC (.int 0))) (z01 (z06 true z3D (z01 (fN 2) (z01 (fN 1) (z01 (fNeg (fC (.int 1))) fNil)))) fNil))) (fAt (fN 3) (fC (.int 1)))) (fC (.int 0)))))))
def z3E:FC:=cOf 4 5 true z6F
def z31:FS:=(sSeq (sSet [] 3 (z06 true z2u (z01 (fN 0) (z01 (fC (.int 40)) (z01 (fN 1) (z01 (fAt (fLst (z01 (fC (.int 0)) (z01 (fC (.int 1)) (z01 (fC (.int 2)) fNil)))) (fOp z1n (z06 true z0t (z01 (fN 0) (z01 (fC (.int 5)) fNil))) (fC (.int 3)))) fNil))))))
 (sSeq (sSet [] 4 (z06 true z2u (z01 (fN 0) (z01 (fC (.int 46)) (z01 (fN 1) (z01 (fAt (fLst (z01 (fC (.int 0)) (z01 (fC (.int 1)) (z01 (fC (.int 2)) fNil)))) (fOp z1n (z06 true z0t (z01 (fN 0) (z01 (fC (.int 6)) fNil))) (fC (.int 3)))) fNil))))))
 (sSeq (sIf (z0n (fOp opEq (fOp z1n (z06 true z0t (z01 (fN 0) (z01 (fC (.int 4)) fNil))) (fC (.int 2))) (fC (.int 1)))) (sSeq (sSet [] 5 (z06 true z2u (z01 (fN 0) (z01 (fC (.int 52)) (z01 (fBlt bLen (z01 (fN 2) fNil)) (z01 (fOp z1n (z06 true z0t (z01 (fN 0) (z01 (fC (.int 7)) fNil))) (fC (.int 2))) fNil))))))
 (sSet [] 4 (z06 true z3D (z01 (fN 3) (z01 (z06 true z6a (z01 (fN 1) (z01 (fN 2) (z01 (fN 5) fNil)))) (z01 (fC (.int 1)) fNil)))))) z0A)
 (sRet (fTup (z01 (fN 3) (z01 (fN 4) (z01 (fOp opEq (fOp z1n (z06 true z0t (z01 (fN 0) (z01 (fC (.int 4)) fNil))) (fC (.int 2))) (fC (.int 1))) fNil))))))))
def z5u:FC:=cOf 3 6 true z31
def zmv:FS:=(sSeq (sSet [] 1 (z06 true z8e (z01 (fN 0) fNil)))
 (sSeq (sSet [] 2 (fAt (fN 1) (fC (.int 0))))
 (sSeq (sSet [] 3 (fAt (fN 1) (fC (.int 1))))
 (sSeq (sSet [] 4 (z06 true z4e (z01 (fN 2) (z01 (z0e 1 [] (iSeq (fN 3)) (Tg.one 0) fYes (fBlt bLst (z01 (fN 0) fNil))) fNil))))
 (sSeq (sSet [] 5 (z06 true z5u (z01 (fN 0) (z01 (fN 2) (z01 (fN 3) fNil)))))
 (sSeq (sSet [] 6 (fLst (z01 (fBlt bLst (z01 (fAt (fN 5) (fC (.int 0))) fNil)) (z01 (fBlt bLst (z01 (fAt (fN 5) (fC (.int 1))) fNil)) fNil))))
 (sSeq (sSet [] 7 (z06 false z4j (z01 (fN 4) (z01 (fAt (fN 6) (fC (.int 0))) (z01 (fAt (fN 6) (fC (.int 1))) fNil)))))
 (sSeq (sIf (z0n (fOp opNe (fN 6) (fLst (z01 (fAt (fN 5) (fC (.int 0))) (z01 (fAt (fN 5) (fC (.int 1))) fNil))))) (sRet (fC (.bl false))) z0A)
 (sSeq (sIf (fOr (fNot (fTru (fIsi "tuple" (fN 7)))) (z0n (fOp opNe (fBlt bLen (z01 (fN 7) fNil)) (fC (.int 2))))) (sRet (fC (.bl false))) z0A)
 (sSeq (sIf (z0n (fOp opEq (fAt (fN 7) (fC (.int 0))) (fC (.str "plan")))) (sRet (z06 true z4k (z01 (fN 3) (z01 (fAt (fN 5) (fC (.int 0))) (z01 (fAt (fN 5) (fC (.int 1))) (z01 (fAt (fN 7) (fC (.int 1))) fNil)))))) z0A)
 (sSeq (sIf (fOr (z0n (fOp opNe (fAt (fN 7) (fC (.int 0))) (fC (.str "denial")))) (fTru (fAt (fN 5) (fC (.int 2))))) (sRet (fC (.bl false))) z0A)
 (sRet (z06 true z3E (z01 (fN 3) (z01 (fAt (fN 5) (fC (.int 0))) (z01 (fAt (fN 5) (fC (.int 1))) (z01 (fAt (fN 7) (fC (.int 1))) fNil)))))))))))))))))
def zk3:FC:=cOf 1 8 true zmv
theorem z14(ns:List Int)(k:Int)(h0:0≤k):z0t [.scr ns,.int k]=some (.int (z0i ns k)):=by
 unfold z0t z5t z0i
 by_cases h:k<ns.length
 · have e:atI ns k=some (ns.getD k.toNat 0):=by
     rw[zjP h0,List.getElem?_eq_getElem (by omega)];simp[List.getD,List.getElem?_eq_getElem (show k.toNat<ns.length by omega)]
   simp[cOf,h,e]
 · by_cases h2:ns=[]
   · subst h2
     simp[cOf,h,zdJ [] [],show ¬k<0 by omega]
     rfl
   · have hp:0<ns.length:=List.length_pos_iff.mpr h2
     obtain⟨f1,f2⟩:=z0T k (show(0:Int)<ns.length by omega)
     have e:atI ns (k.fmod ns.length)=some (ns.getD (k.fmod ns.length).toNat 0):=by
      rw[zjP f1,List.getElem?_eq_getElem (by omega)];simp[List.getD,List.getElem?_eq_getElem (show(k.fmod ns.length).toNat<ns.length by omega)]
     have e2:opEq (.scr ns) (.lst [])=some (.nw,.bl false):=by have:=zdJ ns [];rw[decide_eq_false h2]at this;exact this
     simp[cOf,h,h2,e,e2,z8K,z3I,show ¬((ns.length:Int)=0) by omega]
theorem ze4(c m:Int)(h0:0≤m)(h3:m<3):z2M [.int c,.int m]=some (.int (zbs c m)):=by
 unfold z2M zbs
 have hm:m=0∨m=1∨m=2:=by omega
 have d30:z2i c 1000000000000000000000000000000=true:=by unfold z2i;decide
 have d9:z2i 9 2=true:=by unfold z2i;decide
 have d61:z2i 61 2=true:=by unfold z2i;decide
 have p30:z9z 10 30=true:=by unfold z9z;decide
 have two:∀(m w v:Int),m≠2→atI [Dt.int 9,Dt.int 61] m=some (.int w)→0<w→z2i w 2=true→w.fdiv 2=v→cOf 2 4 true z3C [.int c,.int m]=some (.int (if v<c.fmod w then c.fmod w-w else c.fmod w)):=fun m w v hm2 ha hw hd hv=>by
   refine z3K (f := .nw) rfl (run (ρ':=[.sh false (.int c),.sh false (.int m),.no,.no]) (by simp[cOf,z0M,hm2]) (run (ρ':=[.sh false (.int c),.sh false (.int m),.no,.sh true (.int w)]) (by simp[cOf,ha]) (run (ρ':=[.sh false (.int c),.sh false (.int m),.sh true (.int (c.fmod w)),.sh true (.int w)]) (by simp[cOf,z3I,show ¬w=0 by omega]) ?_))) rfl
   by_cases h:v<c.fmod w
   · simp[cOf,hd,hv,h]
   · simp[cOf,hd,hv,h]
 rcases hm with rfl|rfl|rfl
 · exact(two 0 9 4 (by decide) rfl (by decide) d9 rfl).trans (by simp)
 · exact(two 1 61 30 (by decide) rfl (by decide) d61 rfl).trans (by simp)
 · by_cases h:(c.fdiv 1000000000000000000000000000000).fmod 2=1
   · simp[cOf,z3C,z0M,z3I,p30,d30,h]
   · simp[cOf,z3C,z0M,z3I,p30,d30,h]
theorem z7j(ns:List Int)(a:Int)(n:Nat)(m:Int)(ha:0≤a)(hn:n≤1000)(h0:0≤m)(h3:m<3):z2u [.scr ns,.int a,.int n,.int m]=some (L (z4a ns a n m)):=by
 unfold z2u zcX
 have q:z0e 1 [0,1,3] (z0l (fN 2)) (Tg.one 0) fYes (z06 true z2M (z01 (z06 true z0t (z01 (fN 1) (z01 (fOp z0y (fN 2) (fN 0)) fNil))) (z01 (fN 3) fNil))) (rho0 4 [.scr ns,.int a,.int n,.int m])=some (.nw,L (z4a ns a n m)):=by
  have:=z0j (nt:=1) (js:=[0,1,3]) (Fi:=z0l (fN 2)) (g:=Tg.one 0) (Fe:=z06 true z2M (z01 (z06 true z0t (z01 (fN 1) (z01 (fOp z0y (fN 2) (fN 0)) fNil))) (z01 (fN 3) fNil))) (ρ:=rho0 4 [.scr ns,.int a,.int n,.int m]) (e:=fun(k:Nat) => .int (0+(k:Int))) (h:=fun(k:Nat) => .int (zbs (z0i ns (a+(k:Int))) m)) (xs:=List.range n)
   (by simp[cOf,z0l,intD,z39,z0G,show(n:Int)≤1000000 by omega,show -1000000≤(n:Int) by omega])
   (fun k hk=>by simp[cOf,Tg.put,sigD,z58,z14 ns (a+(k:Int)) (by omega),ze4 _ m h0 h3])
  rw[this];simp[L,z4a]
 exact z3K rfl (f := .nw) (by unfold sRet;rw[q];rfl) rfl
theorem zcZ(ns:List Int)(m:Int)(k n:Nat)(f1 f2 f3:Bool)(h0:0≤m)(h3:m<3)(hk:k≤100)(hn:n≤100):
    (z0e 1 [0,2,1] (z0l (fN 3)) (Tg.one 0) fYes (z06 true z2u (z01 (fN 1) (z01 (fOp z0y (fC (.int 8)) (fOp z19 (fN 2) (fN 0))) (z01 (fN 2) (z01 (fN 3) fNil)))))) [.sh false (.scr ns),.sh f1 (.int m),.sh f2 (.int k),.sh f3 (.int n)] =
      some (.nw,LL ((List.range n).map fun(j:Nat)=>z4a ns (8+(k:Int)*(j:Int)) k m)):=by
  have:=z0j (nt:=1) (js:=[0,2,1]) (Fi:=z0l (fN 3)) (g:=Tg.one 0) (Fe:=z06 true z2u (z01 (fN 1) (z01 (fOp z0y (fC (.int 8)) (fOp z19 (fN 2) (fN 0))) (z01 (fN 2) (z01 (fN 3) fNil))))) (ρ:=[.sh false (.scr ns),.sh f1 (.int m),.sh f2 (.int k),.sh f3 (.int n)]) (e:=fun(j:Nat) => .int (0+(j:Int))) (h:=fun(j:Nat)=>L (z4a ns (8+(k:Int)*(j:Int)) k m)) (xs:=List.range n)
    (by simp[cOf,z0l,intD,z39,z0G,show(n:Int)≤1000000 by omega,show -1000000≤(n:Int) by omega])
    (fun j hj=>by
      have hj:=List.mem_range.mp hj
      have hm:z18 (k:Int) (j:Int)=true:=z8K (by                     have:(j:Int).natAbs=j:=by omega
                                                                    omega)
      have hp:(0:Int)≤8+(k:Int)*(j:Int):=by have:=Int.mul_nonneg (show(0:Int)≤k by omega) (show(0:Int)≤j by omega);omega
      have e:=z7j ns (8+(k:Int)*(j:Int)) k m hp (by omega) h0 h3
      simp[cOf,Tg.put,sigD,z58,hm,e])
  rw[this]
  simp[LL]
theorem zfi(ns:List Int):z8e [.scr ns]=some (.tup [.int (z1k ns),LL (z2l ns)]):=by
 have c0:=z14 ns 0 (by decide)
 have c1:=z14 ns 1 (by decide)
 have c2:=z14 ns 2 (by decide)
 have c3:=z14 ns 3 (by decide)
 have r0:=z0T (z0i ns 0) (show(0:Int)<4 by decide)
 have r1:=z0T (z0i ns 1) (show(0:Int)<5 by decide)
 have r2:=z0T (z0i ns 2) (show(0:Int)<5 by decide)
 have kl:=z6z ns
 have ml:=zbt ns
 have mc:=zcK ns
 have tl:=fun f1 f2 f3=>zcZ ns (z17 ns) (z1k ns) (z3W ns) f1 f2 f3 (by omega) (by omega) (by omega) (by omega)
 have fin:∀(m k n:Int) (f1 f2 f3:Bool),m=z17 ns→k=z1k ns→n=z3W ns→sRet (fTup (z01 (fN 2) (z01 (z0e 1 [0,2,1] (z0l (fN 3)) (Tg.one 0) fYes (z06 true z2u (z01 (fN 1) (z01 (fOp z0y (fC (.int 8)) (fOp z19 (fN 2) (fN 0))) (z01 (fN 2) (z01 (fN 3) fNil)))))) fNil))) [.sh false (.scr ns),.sh f1 (.int m),.sh f2 (.int k),.sh f3 (.int n)]=some (.rt .nw (.tup [.int (z1k ns),LL (z2l ns)])):=by
   rintro m k n f1 f2 f3 rfl rfl rfl
   simp[sRet,fTup,z01,fNil,fN,zbj,Cell.val,zq2,z0p,tl f1 f2 f3,z45,Fl.isNw,sndL,z2l]
 have lk:∃ m0:Int,atI [Dt.int 0,Dt.int 0,Dt.int 0,Dt.int 1,Dt.int 2] ((z0i ns 2).fmod 5)=some (.int m0)∧(¬(z0i ns 3).fmod 7=6→m0=z17 ns)∧(m0=2↔(z0i ns 2).fmod 5=4):=by
   have hr2:(z0i ns 2).fmod 5=0∨(z0i ns 2).fmod 5=1∨(z0i ns 2).fmod 5=2∨(z0i ns 2).fmod 5=3∨(z0i ns 2).fmod 5=4:=by omega +splitDisjunctions
   rcases hr2 with h2|h2|h2|h2|h2<;>rw[h2]
   · exact⟨0,rfl,fun h=>by simp[z17,h,h2],by decide⟩
   · exact⟨0,rfl,fun h=>by simp[z17,h,h2],by decide⟩
   · exact⟨0,rfl,fun h=>by simp[z17,h,h2],by decide⟩
   · exact⟨1,rfl,fun h=>by simp[z17,h,h2],by decide⟩
   · exact⟨2,rfl,fun h=>by simp[z17,h,h2],by decide⟩
 obtain⟨m0,lk,lm,l2⟩:=lk
 have mo:∀(c:Int) (k:Nat),z3I c ((k+1:Nat):Int)=true:=fun c k=>by unfold z3I;exact decide_eq_true (by omega)
 have mo2:=fun c=>mo c 1
 have mo4:=fun c=>mo c 3
 have mo5:=fun c=>mo c 4
 have mo7:=fun c=>mo c 6
 simp only[Nat.reduceAdd,Int.cast_ofNat_Int]at mo2 mo4 mo5 mo7
 have t3:∀(m k n:Int),m=z17 ns→k=z1k ns→n=z3W ns→m≠2→_:=fun m k n a b c d=>run (F:=sIf (z0n (fOp opEq (fN 1) (fC (.int 2)))) (sSeq (sSet [] 2 (fOp z0y (fC (.int 1)) (fOp z1n (fN 2) (fC (.int 2))))) (sSet [] 3 (fOp z1n (fN 3) (fC (.int 4))))) z0A) (ρ:=[.sh false (.scr ns),.sh true (.int m),.sh true (.int k),.sh true (.int n)]) (ρ':=[.sh false (.scr ns),.sh true (.int m),.sh true (.int k),.sh true (.int n)]) (by simp[cOf,z0M,d]) (fin m k n true true true a b c)
 refine z3K (f := .nw) rfl (run (ρ':=[.sh false (.scr ns),.sh true (.int m0),.no,.no]) (by simp[cOf,c2,lk,mo5]) (run (ρ':=[.sh false (.scr ns),.sh true (.int m0),.sh true (.int (1+(z0i ns 0).fmod 4)),.no]) (by simp[cOf,c0,mo4]) (run (ρ':=[.sh false (.scr ns),.sh true (.int m0),.sh true (.int (1+(z0i ns 0).fmod 4)),.sh true (.int ((z0i ns 1).fmod 5))]) (by simp[cOf,c1,mo5]) ?_))) rfl
 by_cases h3:(z0i ns 3).fmod 7=6
 · exact run (ρ':=[.sh false (.scr ns),.sh true (.int 0),.sh true (.int 6),.sh true (.int 8)]) (by simp[cOf,c3,h3,z0M,mo7]) (t3 0 6 8 (by simp[z17,h3]) (by simp[z1k,z17,z6y,h3]) (by simp[z3W,z17,z9Q,h3]) (by decide))
 · have lm:=lm h3
   refine run (ρ':=[.sh false (.scr ns),.sh true (.int m0),.sh true (.int (1+(z0i ns 0).fmod 4)),.sh true (.int ((z0i ns 1).fmod 5))]) (by simp[cOf,c3,h3,z0M,mo7]) ?_
   by_cases h2:m0=2
   · have h4:=l2.mp h2
     refine run (ρ':=[.sh false (.scr ns),.sh true (.int m0),.sh true (.int (1+(1+(z0i ns 0).fmod 4).fmod 2)),.sh true (.int (((z0i ns 1).fmod 5).fmod 4))]) (by simp[cOf,h2,z0M,mo2,mo4]) (fin m0 _ _ true true true lm ?_ ?_)
     · have:=z0T (1+(z0i ns 0).fmod 4) (show(0:Int)<2 by decide)
       simp[z1k,z17,z6y,h3,h4];omega +splitDisjunctions
     · have:=z0T ((z0i ns 1).fmod 5) (show(0:Int)<4 by decide)
       simp[z3W,z17,z9Q,h3,h4];omega +splitDisjunctions
   · have h4:¬(z0i ns 2).fmod 5=4:=fun h=>h2 (l2.mpr h)
     exact t3 m0 _ _ lm (by simp[z1k,z17,z6y,h3,h4];omega +splitDisjunctions) (by simp[z3W,z17,z9Q,h3,h4];omega +splitDisjunctions) h2
theorem z8O(d:Dt):z2H [d]=some (.bl (isWh d)):=by
 unfold z2H z6B
 cases d<;>simp[cOf,isWh,Dt.flat,nrm]
theorem zbI(a:List Int)(n:Int):z5j [L a,.int n]=some (.bl (decide ((a.length:Int)=n))):=by
 unfold z5j za8
 have q:z0e 1 [] (iSeq (fN 0)) (Tg.one 0) fYes (z06 true z2H (z01 (fN 0) fNil)) [.sh false (L a),.sh false (.int n)]=some (.nw,.lst (a.map fun _ => .bl true)) :=
   z0j (e:=Dt.int) (h:=fun _ => .bl true) (xs:=a) (by simp[cOf]) (fun x _=>by simp[cOf,Tg.put,sigD,z8O,isWh])
 by_cases h:(a.length:Int)=n
 · simp[cOf,z0H,h,q,bAll,z5S (fun _=>true) a]
 · simp[cOf,z0H,h]
theorem zaf(n:Nat)(h:n≤1000):z4d [.int n]=some (L (z0w n)):=by
 unfold z4d z82
 have q:z0e 1 [] (z0l (fN 0)) (Tg.one 0) fYes (fC (.int 0)) [.sh false (.int n)]=some (.nw,L (z0w n)):=by
  rw[z0j (e:=fun(k:Nat) => .int (0+(k:Int))) (h:=fun _ => .int 0) (xs:=List.range n) (by simp[cOf,z0l,intD,z39,z0G,show(n:Int)≤1000000 by omega,show -1000000≤(n:Int) by omega]) (fun x _=>by simp[cOf,Tg.put])]
  simp[L,z0w,List.map_const']
 simp[cOf,q]
theorem zag(a b:List Int)(h:a.length=b.length):z60 [L a,L b]=some (L (addR a b)):=by
 unfold z60 zcQ
 have q:z0e 2 [] (iZip (fN 0) (fN 1)) (Tg.many [0,1]) fYes (fOp z0y (fN 0) (fN 1)) [.sh false (L a),.sh false (L b)]=some (.nw,L (addR a b)):=by
  rw[z0j (e:=fun p:Int×Int => .tup [.int p.1,.int p.2]) (h:=fun p => .int (p.1+p.2)) (xs:=a.zip b) (by simp[cOf,iZip,h,z49]) (fun p _=>by simp[cOf,Tg.put,z2A,sigD]),zmf]
 simp[cOf,q]
theorem zah(a b:List Int)(h:a.length=b.length):z4O [L a,L b]=some (L (subR a b)):=by
 unfold z4O zcR
 have q:z0e 2 [] (iZip (fN 0) (fN 1)) (Tg.many [0,1]) fYes (fOp z8D (fN 0) (fN 1)) [.sh false (L a),.sh false (L b)]=some (.nw,L (subR a b)):=by
  rw[z0j (e:=fun p:Int×Int => .tup [.int p.1,.int p.2]) (h:=fun p => .int (p.1-p.2)) (xs:=a.zip b) (by simp[cOf,iZip,h,z49]) (fun p _=>by simp[cOf,Tg.put,z2A,sigD]),zkU]
 simp[cOf,q]
theorem z1U(a:List Int)(k:Int)(h:∀ x∈a,z18 k x=true):z1p [L a,.int k]=some (L (sclR k a)):=by
 unfold z1p za9
 have q:z0e 1 [1] (iSeq (fN 0)) (Tg.one 0) fYes (fOp z19 (fN 1) (fN 0)) [.sh false (L a),.sh false (.int k)]=some (.nw,L (sclR k a)):=by
  rw[z0j (e:=Dt.int) (h:=fun x => .int (k*x)) (xs:=a) (by simp[cOf]) (fun x hx=>by simp[cOf,Tg.put,sigD,z58,h x hx])]
  simp[L,sclR]
 simp[cOf,q]
theorem zd(n:Nat)(h1:1≤n)(h2:n≤6):z3N [.int n]=some (.bl true):=by
 unfold z3N z5k
 have e:=z8O (.int n)
 simp[cOf,e,isWh,z9A,show(1:Int)≤n by omega,show(n:Int)≤6 by omega]
theorem zb7(n:Nat)(h1:1≤n)(h2:n≤6):z3d [.int n]=some .non:=by
 unfold z3d z4P
 simp[cOf,zd n h1 h2]
theorem zfj(a:List Int)(n:Nat)(hl:a.length=n)(h:∀ x∈a,x.natAbs<10 ^ 30):z62 [L a,.int n]=some (.bl true):=by
 unfold z62 z85
 have e:=zbI a n
 have p30:z9z 10 30=true:=by unfold z9z;decide
 have q:z0e 1 [] (iSeq (fN 0)) (Tg.one 0) fYes (fOp opLt (fBlt bAbs (z01 (fN 0) fNil)) (fOp zbk (fC (.int 10)) (fC (.int 30)))) [.sh false (L a),.sh false (.int n)]=some (.nw,.lst (a.map fun _ => .bl true)) :=
  z0j (e:=Dt.int) (h:=fun _ => .bl true) (xs:=a) (by simp[cOf]) (fun x hx=>by
   have:=h x hx
   have:(if x<0 then -x else x)<1000000000000000000000000000000:=by split<;>omega
   simp[cOf,Tg.put,sigD,bAbs,p30,this])
 simp[cOf,e,hl,q,bAll,z5S (fun _=>true) a]
theorem zd0(a:List Int)(n:Nat)(hl:a.length=n)(h:∀ x∈a,x.natAbs<10 ^ 30):z2e [L a,.int n]=some .non:=by
 unfold z2e z5l
 simp[cOf,zfj a n hl h]
theorem zfk(k:Int)(rows:List (List Int)):z63 [.int k,LL rows]=some (z0o k rows):=by
 unfold z63 z86
 have q:z0e 1 [] (iSeq (fN 1)) (Tg.one 0) fYes (fBlt bTup (z01 (fN 0) fNil)) [.sh false (.int k),.sh false (LL rows)]=some (.nw,.lst (rows.map T)) :=
  z0j (e:=L) (h:=T) (xs:=rows) (by simp[cOf]) (fun x hx=>by simp[cOf,Tg.put,sigD,bTup,z3t])
 simp[cOf,q,bTup,zbr]
theorem zfl(n:Nat)(bills:List (List Int))(h1:1≤n)(h2:n≤6)(hm:bills.length≤8)(hw:Wide n bills)(hb:∀ r∈bills,∀ x∈r,x.natAbs<10 ^ 30):z4e [.int n,LL bills]=some (z0o n bills):=by
 unfold z4e z87
 obtain⟨j,q⟩:=z5R (g:=Tg.one 2) (F:=z6m (z06 true z2e (z01 (fN 2) (z01 (fN 0) fNil)))) (e:=L) (R:=fun(_:Unit) (c:Cell)=>[.sh false (.int n),.sh false (LL bills),c]) (step:=fun _ _=>()) bills () .no
  (fun b x j hx=>⟨.sh false (L x),by simp[cOf,Tg.put,zd0 x n (hw x hx) (hb x hx)]⟩)
 have q:forF (Tg.one 2) (z6m (z06 true z2e (z01 (fN 2) (z01 (fN 0) fNil)))) (bills.map L) [.sh false (.int n),.sh false (LL bills),.no]=some (.nx [.sh false (.int n),.sh false (LL bills),j]):=q
 simp[cOf,zb7 n h1 h2,show ¬(8<(bills.length:Int)) by omega,q,zfk]
theorem z5v(n:Nat)(bills:List (List Int))(b:List Int)(h:b.length=n):z20 [z0o n bills,L b]=some .non:=by
 have e:z1S [.int n,L b]=some .non:=by
  unfold z1S z2I
  simp[cOf,zbI,h]
 unfold z20 z3Z
 simp[cOf,atI,ixN,e]
theorem zl5(n:Nat)(bills:List (List Int))(h:n≤1000):z7h [z0o n bills]=some (L (z0w n)):=by
 unfold z7h zaa
 simp[cOf,atI,ixN,zaf n h]
theorem ze5(n:Nat)(bills:List (List Int))(a b:List Int)(ha:a.length=n)(hb:b.length=n):z64 [z0o n bills,L a,L b]=some (L (subR b a)):=by
 unfold z64 zcS
 have e:=zah b a (by rw[ha,hb])
 simp[cOf,z5v n bills a ha,z5v n bills b hb,e]
abbrev HF:FS:=sIf (z0n (fOp opNe (fN 2) (fC (.int 0)))) (sRet (fN 1)) z0A
theorem zbJ(c0:Cell):∀(r:List Int) (j:Nat) (c1 c2:Cell),(St.z02 r<r.length→forF (Tg.many [1,2]) HF (z3a j (r.map .int)) [c0,c1,c2]=some (.rt .nw (.int ((j+St.z02 r:Nat):Int)))) ∧
  (¬St.z02 r<r.length→∃ c1' c2',forF (Tg.many [1,2]) HF (z3a j (r.map .int)) [c0,c1,c2]=some (.nx [c0,c1',c2']))
 | [],j,c1,c2=>⟨fun h=>by simp[St.z02]at h,fun _=>⟨c1,c2,rfl⟩⟩
 | x::r,j,c1,c2=>by
  obtain⟨i1,i2⟩:=zbJ c0 r (j+1) (.sh false (.int j)) (.sh false (.int x))
  rw[List.map_cons,z3a,z1b]
  by_cases hx:x=0
  · have e:(Tg.put (Tg.many [1,2]) (.tup [.int j,.int x]) [c0,c1,c2]).bind HF=some (.nx [c0,.sh false (.int j),.sh false (.int x)]):=by simp[cOf,z0H,hx]
    have eh:St.z02 (x::r)=St.z02 r+1:=by simp[St.z02,hx]
    rw[e,eh,List.length_cons]
    refine⟨fun h=>?_,fun h=>i2 (by omega)⟩
    have:=i1 (by omega)
    rw[show j+(St.z02 r+1)=j+1+St.z02 r by omega]
    exact this
  · have e:(Tg.put (Tg.many [1,2]) (.tup [.int j,.int x]) [c0,c1,c2]).bind HF=some (.rt .nw (.int j)):=by simp[cOf,z0H,hx]
    have eh:St.z02 (x::r)=0:=by simp[St.z02,hx]
    rw[e,eh,List.length_cons]
    exact⟨fun _=>rfl,fun h=>absurd (Nat.succ_pos _) h⟩
theorem z12(r:List Int):z0k [L r]=some (.int (St.z02 r)):=by
 unfold z0k z84
 obtain⟨h1,h2⟩:=zbJ (.sh false (L r)) r 0 .no .no
 have hl:=St.z7W r
 by_cases h:St.z02 r<r.length
 · have h1:=h1 h
   simp only[Nat.zero_add]at h1
   simp[cOf,h1]
 · obtain⟨c1,c2,h2⟩:=h2 h
   simp[cOf,h2,show St.z02 r=r.length by omega]
theorem zai{r:List Int}{k:Nat}(h:k<r.length):atI (r.map Dt.int) (k:Int)=some (.int (St.at0 r k)):=by
 rw[z3v,zmg h];simp[St.at0,List.getD,List.getElem?_eq_getElem h]
theorem zq9(a b:List Int)(q:Int):subR a (sclR q b)=St.sub a q b:=by
 unfold subR sclR St.sub
 rw[List.zipWith_map_right]
theorem zk4{r:List Int}{x:Int}(h:x∈r):∃ k,St.at0 r k=x:=by
 obtain⟨k,hk,e⟩:=List.mem_iff_getElem.mp h
 exact⟨k,by simp[St.at0,List.getD,List.getElem?_eq_getElem hk,e]⟩
theorem zk5{x:Int}{m:Nat}(h:x.natAbs<2 ^ m):Builtin.Int.intBits x≤m:=zcE h
theorem z3j{i j:Int}{m k:Nat}(h1:i.natAbs<2 ^ m)(h2:j.natAbs<2 ^ k)(h:m+k≤134217728):z18 i j=true:=by
 unfold z18
 rw[decide_eq_true (show Builtin.Int.intBits i+Builtin.Int.intBits j≤134217728 from by have:=zk5 h1;have:=zk5 h2;omega)]
 rfl
theorem z4l{i j:Int}(h0:0<j)(h:j<2 ^ 9000):z2i i j=true:=by
 unfold z2i
 rw[decide_eq_true (show j≠0 by omega),decide_eq_true (show j.natAbs.log2<9000 from ?_)]
 · rfl
 · rw[Nat.log2_lt (by omega)]
   have:((2 ^ 9000:Nat):Int)=(2:Int) ^ 9000:=by norm_cast
   omega
abbrev LF:FS:=(sSeq (sSet [] 5 (z06 true z0k (z01 (fN 4) fNil)))
 (sSeq (sSet [] 6 (fOp z43 (fAt (fN 2) (fN 5)) (fAt (fN 4) (fN 5))))
 (sSeq (sIf (z0n (fOp opNe (fN 6) (fC (.int 0)))) (sSet [] 2 (z06 true z4O (z01 (fN 2) (z01 (z06 true z1p (z01 (fN 4) (z01 (fN 6) fNil))) fNil)))) z0A)
 (sWr wApp 3 (fN 6)))))
theorem zaj{n m:Nat}(hm:2*m≤134217728)(c0 c1:Cell):∀(S:List (List Int)) (left:List Int) (cs:List Int) (c4 c5 c6:Cell),(∀ r∈S,r.length=n∧St.z02 r<n∧0<St.hd r∧St.hd r<2 ^ 9000)→left.length=n→St.LowB m left S→cs.length+S.length≤1000 →
  ∃ c4' c5' c6',forF (Tg.one 4) LF (S.map L) [c0,c1,.sh true (L left),.ow true (cs.map .int),c4,c5,c6]=some (.nx [c0,c1,.sh true (L (St.z0f left S)),.ow true ((cs++St.z9V left S).map .int),c4',c5',c6'])
 | [],left,cs,c4,c5,c6,_,_,_,_=>⟨c4,c5,c6,by simp[zmb,St.z0f,St.z9V]⟩
 | r::S,left,cs,c4,c5,c6,hr,hl,hb,hc=>by
  obtain⟨r1,r2,r3,r4⟩:=hr r List.mem_cons_self
  have hs:(St.sub left (St.z0Q left r) r).length=n:=by rw[St.z23 (by omega)];exact hl
  obtain⟨d4,d5,d6,ih⟩:=zaj hm c0 c1 S (St.sub left (St.z0Q left r) r) (cs++[St.z0Q left r]) (.sh false (L r)) (.sh true (.int (St.z02 r))) (.sh true (.int (St.z0Q left r))) (fun x hx=>hr x (List.mem_cons_of_mem _ hx)) hs hb.2 (by simp at hc ⊢;omega)
  refine⟨d4,d5,d6,?_⟩
  rw[List.map_cons,z1b]
  have a1:=zai (r:=left) (k:=St.z02 r) (by omega)
  have a2:=zai (r:=r) (k:=St.z02 r) (by omega)
  have dv:z2i (St.at0 left (St.z02 r)) (St.at0 r (St.z02 r))=true:=z4l r3 r4
  have ef:(St.at0 left (St.z02 r)).fdiv (St.at0 r (St.z02 r))=St.z0Q left r:=rfl
  have hcs:cs.length<1000000:=by simp at hc;omega
  have e:(Tg.put (Tg.one 4) (L r) [c0,c1,.sh true (L left),.ow true (cs.map .int),c4,c5,c6]).bind LF=some (.nx [c0,c1,.sh true (L (St.sub left (St.z0Q left r) r)),.ow true ((cs++[St.z0Q left r]).map .int),.sh false (L r),.sh true (.int (St.z02 r)),.sh true (.int (St.z0Q left r))]):=by
   refine(show LF [c0,c1,.sh true (L left),.ow true (cs.map .int),.sh false (L r),c5,c6]=_ from run (ρ':=[c0,c1,.sh true (L left),.ow true (cs.map .int),.sh false (L r),.sh true (.int (St.z02 r)),c6]) (by simp[cOf,z12]) (run (ρ':=[c0,c1,.sh true (L left),.ow true (cs.map .int),.sh false (L r),.sh true (.int (St.z02 r)),.sh true (.int (St.z0Q left r))]) (by simp[cOf,a1,a2,dv,ef]) (run (ρ':=[c0,c1,.sh true (L (St.sub left (St.z0Q left r) r)),.ow true (cs.map .int),.sh false (L r),.sh true (.int (St.z02 r)),.sh true (.int (St.z0Q left r))]) ?_ (by simp[cOf,hcs]))))
   by_cases ho:St.z0Q left r=0
   · have es:St.sub left (St.z0Q left r) r=left:=by rw[ho];exact St.sub_zero (by omega)
     rw[es]
     simp[cOf,ho,z0H]
   · have mo:∀ x∈r,z18 (St.z0Q left r) x=true:=fun x hx=>by
      obtain⟨k,rfl⟩:=zk4 hx
      rcases hb.1 with h|⟨h1,h2⟩
      · exact absurd h ho
      · exact z3j h1 (h2 k) (by omega)
     have e1:=z1U r (St.z0Q left r) mo
     have e2:=zah left (sclR (St.z0Q left r) r) (by rw[z0B];omega)
     rw[zq9]at e2
     simp[cOf,ho,z0H,e1,e2]
  rw[e]
  show forF (Tg.one 4) LF (S.map L) _=_
  rw[ih,St.z0f,St.z9V]
  simp
def RowD(d:Dt)(v:List Int):Prop:=d=L v∨d=T v
theorem ze6{n m:Nat}(d:Dt)(v:List Int)(S:List (List Int))(hd:RowD d v)(hm:2*m≤134217728)(hr:∀ r∈S,r.length=n∧St.z02 r<n∧0<St.hd r∧St.hd r<2 ^ 9000)(hl:v.length=n)(hb:St.LowB m v S)(hc:S.length≤1000):
   z4Q [d,LL S]=some (.tup [L (St.z9V v S),L (St.z0f v S)]):=by
 unfold z4Q z6D
 rcases hd with rfl|rfl
 · obtain⟨d4,d5,d6,q⟩:=zaj hm (.sh false (L v)) (.sh false (LL S)) S v [] .no .no .no hr hl hb (by simpa using hc)
   simp[cOf]at q ⊢;simp[q]
 · obtain⟨d4,d5,d6,q⟩:=zaj hm (.sh false (T v)) (.sh false (LL S)) S v [] .no .no .no hr hl hb (by simpa using hc)
   simp[cOf]at q ⊢;simp[q]
theorem z4S{n m:Nat}(d:Dt)(v:List Int)(S:List (List Int))(hd:RowD d v)(hm:2*m≤134217728)(hr:∀ r∈S,r.length=n∧St.z02 r<n∧0<St.hd r∧St.hd r<2 ^ 9000)(hl:v.length=n)(hb:St.LowB m v S)(hc:S.length≤1000):
  z10 [d,LL S]=some (L (St.z0f v S)):=by
 have e:=ze6 d v S hd hm hr hl hb hc
 have hn:nrm (flOf false) d=(if d.flat then .nw else .sh,d):=rfl
 unfold z10 z89
 rcases hd with rfl|rfl<;>simp[cOf,e,zmh]
theorem zl6{i j:Int}(h0:j≠0)(h:j.natAbs<2 ^ 9000):z2i i j=true:=by
 unfold z2i
 rw[decide_eq_true h0,decide_eq_true (show j.natAbs.log2<9000 from(Nat.log2_lt (by omega)).mpr h)]
 rfl
abbrev BC:FT:=z0n (fOp opNe (fAt (fN 3) (fC (.int 0))) (fC (.int 0)))
abbrev BF:FS:=(sSeq (sSet [] 4 (fOp z43 (fAt (fN 2) (fC (.int 0))) (fAt (fN 3) (fC (.int 0)))))
 (sSeq (sSet [] 5 (z0e 1 [2,4,3] (z0l (fC (.int 3))) (Tg.one 0) fYes (fOp z8D (fAt (fN 1) (fN 0)) (fOp z19 (fN 2) (fAt (fN 3) (fN 0))))))
 (sSeq (sSet [] 2 (fN 3))
 (sSet [] 3 (fN 5)))))
theorem ze7(c0 c1 c4 c5:Cell)(u0 u1 u2 l0 l1 l2:Int)(hl:l0≠0)(h:l0.natAbs<2 ^ 9000)(m0:z18 (u0.fdiv l0) l0=true)(m1:z18 (u0.fdiv l0) l1=true)(m2:z18 (u0.fdiv l0) l2=true):
  BF [c0,c1,.sh true (L [u0,u1,u2]),.sh true (L [l0,l1,l2]),c4,c5]=some (.nx [c0,c1,.sh true (L [l0,l1,l2]),.sh true (L [u0-u0.fdiv l0*l0,u1-u0.fdiv l0*l1,u2-u0.fdiv l0*l2]),.sh true (.int (u0.fdiv l0)),.sh true (L [u0-u0.fdiv l0*l0,u1-u0.fdiv l0*l1,u2-u0.fdiv l0*l2])]):=by
 have dv:=zl6 (i:=u0) hl h
 have q:z0e 1 [2,4,3] (z0l (fC (.int 3))) (Tg.one 0) fYes (fOp z8D (fAt (fN 1) (fN 0)) (fOp z19 (fN 2) (fAt (fN 3) (fN 0)))) [z59 c0,z59 c1,.sh true (L [u0,u1,u2]),.sh true (L [l0,l1,l2]),.sh true (.int (u0.fdiv l0)),z59 c5]=some (.nw,L [u0-u0.fdiv l0*l0,u1-u0.fdiv l0*l1,u2-u0.fdiv l0*l2]):=by
  rw[z0j (e:=fun(k:Nat) => .int (0+(k:Int))) (h:=fun(k:Nat) => .int ([u0,u1,u2].getD k 0-u0.fdiv l0*[l0,l1,l2].getD k 0)) (xs:=List.range 3) (by simp[cOf,show z39 3=true from z4L (n:=3) (by decide),z0G]) (fun k hk=>by
   have hk:k<3:=List.mem_range.mp hk
   have a1:=z1I (xs:=[u0,u1,u2]) (i:=k) 0 hk
   have a2:=z1I (xs:=[l0,l1,l2]) (i:=k) 0 hk
   have mk:z18 (u0.fdiv l0) ([l0,l1,l2].getD k 0)=true:=by
    have:k=0∨k=1∨k=2:=by omega
    rcases this with rfl|rfl|rfl
    · exact m0
    · exact m1
    · exact m2
   generalize [u0,u1,u2].getD k 0=uk at *
   generalize [l0,l1,l2].getD k 0=lk at *
   generalize [u0,u1,u2]=us at *
   generalize [l0,l1,l2]=ls at *
   simp[cOf,z3v,a1,a2,mk])]
  rfl
 exact run (ρ':=[c0,c1,.sh true (L [u0,u1,u2]),.sh true (L [l0,l1,l2]),.sh true (.int (u0.fdiv l0)),c5]) (by simp[cOf,dv]) (run (ρ':=[c0,c1,.sh true (L [u0,u1,u2]),.sh true (L [l0,l1,l2]),.sh true (.int (u0.fdiv l0)),.sh true (L [u0-u0.fdiv l0*l0,u1-u0.fdiv l0*l1,u2-u0.fdiv l0*l2])]) (by simp[cOf,q]) (run (ρ':=[c0,c1,.sh true (L [l0,l1,l2]),.sh true (L [l0,l1,l2]),.sh true (.int (u0.fdiv l0)),.sh true (L [u0-u0.fdiv l0*l0,u1-u0.fdiv l0*l1,u2-u0.fdiv l0*l2])]) (by simp[cOf]) (by simp[cOf])))
theorem ze8{a b:Int}{e:Nat}(he:e≤9000)(ha:a.natAbs<2 ^ e)(hb:b.natAbs<2 ^ e)(c0 c1:Cell):∀(k:Nat) (u0 u1 u2 l0 l1 l2:Int) (c4 c5:Cell),Br.BI a b u0 u1 u2 l0 l1 l2→l0.natAbs≤k →
 ∃ v0 v1 v2 w1 w2 d4 d5,z1a BC BF (k+1) [c0,c1,.sh true (L [u0,u1,u2]),.sh true (L [l0,l1,l2]),c4,c5]=some (.nx [c0,c1,.sh true (L [v0,v1,v2]),.sh true (L [0,w1,w2]),d4,d5])∧Br.BI a b v0 v1 v2 0 w1 w2:=by
 intro k
 induction k using Nat.strongRecOn with
 | _ k IH =>
 intro u0 u1 u2 l0 l1 l2 c4 c5 B hk
 have hc:BC [c0,c1,.sh true (L [u0,u1,u2]),.sh true (L [l0,l1,l2]),c4,c5]=some (!decide (l0=0)):=by simp[cOf,z0H]
 rw[z1a,hc,z0p]
 by_cases hl:l0=0
 · subst hl
   exact⟨u0,u1,u2,l1,l2,c4,c5,by simp,B⟩
 · have p3:2 ^ (e+3)=8*2 ^ e:=by rw[Nat.pow_add];omega
   obtain⟨z1,z2,z3,z4⟩:=Br.zjR u0 l0 hl
   have c1':=B.c1
   have c2':=B.c2
   have b3:=B.b3
   have b4:=B.b4
   have hq:(u0.fdiv l0).natAbs<2 ^ (e+3):=by
    have:1*(u0.fdiv l0).natAbs≤l0.natAbs*(u0.fdiv l0).natAbs:=Nat.mul_le_mul_right _ (by omega)
    rw[Nat.mul_comm l0.natAbs]at this
    omega
   have h9:(2:Nat) ^ e≤2 ^ 9000:=Nat.pow_le_pow_right (by decide) he
   have st:=ze7 c0 c1 c4 c5 u0 u1 u2 l0 l1 l2 hl (by omega) (z3j hq (show l0.natAbs<2 ^ (e+3) by omega) (by omega)) (z3j hq (show l1.natAbs<2 ^ (e+3) by omega) (by omega)) (z3j hq (show l2.natAbs<2 ^ (e+3) by omega) (by omega))
   cases k with
   | zero=>omega
   | succ k =>
    obtain⟨v0,v1,v2,w1,w2,d4,d5,ih,B'⟩:=IH k (Nat.lt_succ_self k) _ _ _ _ _ _ (.sh true (.int (u0.fdiv l0))) (.sh true (L [u0-u0.fdiv l0*l0,u1-u0.fdiv l0*l1,u2-u0.fdiv l0*l2])) (B.turn hl) (by omega)
    refine⟨v0,v1,v2,w1,w2,d4,d5,?_,B'⟩
    rw[st]
    simp only[hl,decide_false,Bool.not_false,if_true,z0p]
    exact ih
theorem zbK(a b:Int)(e:Nat)(he:e≤9000)(ha:a.natAbs<2 ^ e)(hb:b.natAbs<2 ^ e):∃ x y,z5m [.int a,.int b]=some (T [(Int.gcd a b:Int),x,y])∧a*x+b*y=Int.gcd a b∧x.natAbs≤a.natAbs+2*b.natAbs+1∧y.natAbs≤a.natAbs+2*b.natAbs+1:=by
 obtain⟨v0,v1,v2,w1,w2,d4,d5,lp,B⟩:=ze8 he ha hb (.sh false (.int a)) (.sh false (.int b)) b.natAbs a 1 0 b 0 1 .no .no (Br.BI.start a b) (Nat.le_refl _)
 have lp:=z5P lp
 have fin:=B.fin
 have up:=B.up
 have b1:=B.b1
 have b2:=B.b2
 have pre:∀{r:Option Oc},(sSeq (sIf (z0n (fOp opLt (fAt (fN 2) (fC (.int 0))) (fC (.int 0)))) (sSet [] 2 (z0e 1 [] (iSeq (fN 2)) (Tg.one 0) fYes (fNeg (fN 0)))) z0A) (sRet (fBlt bTup (z01 (fN 2) fNil)))) [.sh false (.int a),.sh false (.int b),.sh true (L [v0,v1,v2]),.sh true (L [0,w1,w2]),d4,d5]=r→zab (rho0 6 [.int a,.int b])=r:=fun h=>run (ρ':=[.sh false (.int a),.sh false (.int b),.sh true (L [a,1,0]),.no,.no,.no]) (by simp[cOf,L]) (run (ρ':=[.sh false (.int a),.sh false (.int b),.sh true (L [a,1,0]),.sh true (L [b,0,1]),.no,.no]) (by simp[cOf,L]) (run lp h))
 have at0:atI ([v0,v1,v2].map Dt.int) 0=some (.int v0):=rfl
 by_cases h0:v0<0
 · refine⟨-v1,-v2,?_,by rw[Int.mul_neg,Int.mul_neg];omega,by omega,by omega⟩
   have q:z0e 1 [] (iSeq (fN 2)) (Tg.one 0) fYes (fNeg (fN 0)) [.sh false (.int a),.sh false (.int b),.sh true (L [v0,v1,v2]),.sh true (L [0,w1,w2]),z59 d4,z59 d5]=some (.nw,L [-v0,-v1,-v2]):=by
    rw[z0j (e:=Dt.int) (h:=fun x => .int (-x)) (xs:=[v0,v1,v2]) (by simp[cOf,L]) (fun x hx=>by simp[cOf])]
    rfl
   have e0:(Int.gcd a b:Int) = -v0:=by omega
   rw[e0]
   refine z3K (f := .nw) rfl (pre (run (ρ':=[.sh false (.int a),.sh false (.int b),.sh true (L [-v0,-v1,-v2]),.sh true (L [0,w1,w2]),d4,d5]) ?_ (by simp[cOf,T]))) rfl
   generalize [v0,v1,v2]=vs at *
   simp[cOf,at0,h0,q]
 · refine⟨v1,v2,?_,by omega,by omega,by omega⟩
   have e0:(Int.gcd a b:Int)=v0:=by omega
   rw[e0]
   refine z3K (f := .nw) rfl (pre (run (ρ':=[.sh false (.int a),.sh false (.int b),.sh true (L [v0,v1,v2]),.sh true (L [0,w1,w2]),d4,d5]) ?_ (by simp[cOf,T]))) rfl
   generalize [v0,v1,v2]=vs at *
   simp[cOf,at0,h0]
theorem zqa(a b:List Int)(x y:Int):addR (sclR x a) (sclR y b)=St.lin x a y b:=by
 unfold addR sclR St.lin
 rw[List.zipWith_map]
theorem zmw(a b:List Int)(x y:Int):subR (sclR x a) (sclR y b)=St.lin x a (-y) b:=by
 unfold subR sclR St.lin
 rw[List.zipWith_map]
 congr 1
 funext p q
 rw[Int.neg_mul];omega
theorem z6b{q:Int}{r:List Int}{m k:Nat}(h1:q.natAbs<2 ^ m)(h2:St.Lt (2 ^ k) r)(h:m+k≤134217728):∀ x∈r,z18 q x=true:=fun x hx=>by
 obtain⟨i,rfl⟩:=zk4 hx
 exact z3j h1 (h2 i) h
theorem zfm{n e q:Nat}(r left:List Int)(hr:r.length=n)(hl:left.length=n)(hh:St.z02 r<n)(hp:0<St.hd r)(h1:St.hd r<2 ^ e)(h2:0≤St.at0 left (St.z02 r))(h3:St.at0 left (St.z02 r)<St.hd r)(he:e≤8990)(s1:St.Lt (2 ^ q) r)(s2:St.Lt (2 ^ q) left)(hq:q≤100000000):
  ∃ g x y,z3h [L r,L left]=some (.tup [L (St.z0I r left x y),L (St.z1j r left g)])∧0<g∧g∣St.hd r∧g∣St.at0 left (St.z02 r)∧St.hd r*x+St.at0 left (St.z02 r)*y=g∧x.natAbs<2 ^ (e+2)∧y.natAbs<2 ^ (e+2):=by
 have cast:((2 ^ e:Nat):Int)=(2:Int) ^ e:=by norm_cast
 have a1:(St.hd r).natAbs<2 ^ e:=by omega
 have a2:(St.at0 left (St.z02 r)).natAbs<2 ^ e:=by omega
 obtain⟨x,y,eb,exy,bx,bY⟩:=zbK (St.hd r) (St.at0 left (St.z02 r)) e (by omega) a1 a2
 have g0:0<Int.gcd (St.hd r) (St.at0 left (St.z02 r)):=Int.gcd_pos_of_ne_zero_left _ (by omega)
 have d1:(Int.gcd (St.hd r) (St.at0 left (St.z02 r)):Int)∣St.hd r:=Int.gcd_dvd_left _ _
 have d2:(Int.gcd (St.hd r) (St.at0 left (St.z02 r)):Int)∣St.at0 left (St.z02 r):=Int.gcd_dvd_right _ _
 generalize eg:(Int.gcd (St.hd r) (St.at0 left (St.z02 r)):Int)=g at *
 have g0:0<g:=by omega
 have p2:2 ^ (e+2)=4*2 ^ e:=by rw[Nat.pow_add];omega
 have x1:x.natAbs<2 ^ (e+2):=by omega
 have y1:y.natAbs<2 ^ (e+2):=by omega
 refine⟨g,x,y,?_,g0,d1,d2,exy,x1,y1⟩
 have gle:g≤St.hd r:=Int.le_of_dvd hp d1
 have g9:g<2 ^ 9000:=by
  have h9:(2:Nat) ^ e≤2 ^ 9000:=Nat.pow_le_pow_right (by decide) (by omega)
  have:((2 ^ 9000:Nat):Int)=(2:Int) ^ 9000:=by norm_cast
  omega
 have dv1:z2i (St.hd r) g=true:=z4l g0 g9
 have dv2:z2i (St.at0 left (St.z02 r)) g=true:=z4l g0 g9
 have k1:((St.hd r).fdiv g).natAbs<2 ^ (e+2):=by have:=St.z4b (St.hd r) g0;omega
 have k2:((St.at0 left (St.z02 r)).fdiv g).natAbs<2 ^ (e+2):=by have:=St.z4b (St.at0 left (St.z02 r)) g0;omega
 have t1:=zai (r:=r) (k:=St.z02 r) (by omega)
 have t2:=zai (r:=left) (k:=St.z02 r) (by omega)
 have t1:atI (r.map Dt.int) (St.z02 r:Int)=some (.int (St.hd r)):=t1
 have e1:=z1U r x (z6b x1 s1 (by omega))
 have e2:=z1U left y (z6b y1 s2 (by omega))
 have e3:=z1U left ((St.hd r).fdiv g) (z6b k1 s2 (by omega))
 have e4:=z1U r ((St.at0 left (St.z02 r)).fdiv g) (z6b k2 s1 (by omega))
 have e5:=zag (sclR x r) (sclR y left) (by rw[z0B,z0B];omega)
 have e6:=zah (sclR ((St.hd r).fdiv g) left) (sclR ((St.at0 left (St.z02 r)).fdiv g) r) (by rw[z0B,z0B];omega)
 rw[zqa]at e5
 rw[zmw]at e6
 have hT:T [g,x,y] = .tup [.int g,.int x,.int y]:=rfl
 have nT:∀ f,nrm f (.tup [.int g,.int x,.int y])=(.nw,.tup [.int g,.int x,.int y]):=fun f=>nrm_T f [g,x,y]
 rw[hT]at eb
 unfold z3h z8a
 have eL:St.z1j r left g=St.lin ((St.hd r).fdiv g) left (-((St.at0 left (St.z02 r)).fdiv g)) r:=rfl
 simp[cOf,z12,t1,t2,eb,nT,dv1,dv2,e1,e2,e3,e4,e5,e6,St.z0I,eL]
theorem zd1{n q:Nat}(left:List Int)(hl:left.length=n)(hh:St.z02 left<n):z1h [L left]=some (L (if St.at0 left (St.z02 left)<0 then sclR (-1) left else left)):=by
 have t2:=zai (r:=left) (k:=St.z02 left) (by omega)
 have e1:=z1U left (-1) (fun x _=>z2k (by decide))
 unfold z1h z5o
 by_cases h:St.at0 left (St.z02 left)<0
 · simp[cOf,z12,t2,h,e1]
 · simp[cOf,z12,t2,h,z48]
def z1V(S:List (List Int)):List (List Int):=(z2W (S.map fun r=>((St.z02 r:Int),r))).map (·.2)
theorem z7k(S:List (List Int)):(z1V S).Perm S:=by
 have:=(z24 (S.map fun r=>((St.z02 r:Int),r))).map (·.2)
 rw[List.map_map]at this
 have e:S.map ((fun x:Int×List Int=>x.2)∘fun r=>((St.z02 r:Int),r))=S:=by
  have:((fun x:Int×List Int=>x.2)∘fun r:List Int=>((St.z02 r:Int),r))=id:=rfl
  rw[this,List.map_id]
 rw[e]at this
 exact this
theorem zak(S:List (List Int))(hn:(S.map St.z02).Nodup):((z1V S).map St.z02).Pairwise (·<·):=by
 have h1:((z1V S).map St.z02).Pairwise (·≤·):=by
  have q:=z4J (S.map fun r=>((St.z02 r:Int),r))
  have mem:∀ p∈z2W (S.map fun r=>((St.z02 r:Int),r)),p.1=(St.z02 p.2:Int):=fun p hp=>by
   obtain⟨r,_,rfl⟩:=List.mem_map.mp ((z24 _).mem_iff.mp hp)
   rfl
  unfold z1V
  rw[List.map_map,List.pairwise_map]
  refine List.Pairwise.imp_of_mem (fun{a b} ha hb hab=>?_) q
  have e1:=mem a ha
  have e2:=mem b hb
  show St.z02 a.2≤St.z02 b.2
  have hab:a.1≤b.1:=hab
  omega
 have h2:((z1V S).map St.z02).Nodup:=((z7k S).map St.z02).nodup_iff.mpr hn
 exact(List.pairwise_and_iff.mpr ⟨h1,h2⟩).imp fun{a b} ⟨p,q⟩=>by omega
theorem zal:∀ S:List (List Int),z2C z0k (S.map L)=some (S.map fun r=>(St.z02 r:Int))
 | []=>rfl
 | r::S=>by rw[List.map_cons,z2C,z12,zal S];rfl
theorem zl7(S:List (List Int)):(z2W ((S.map fun r=>(St.z02 r:Int)).zip (S.map L))).map (·.2)=(z1V S).map L:=by
 have e:(S.map fun r=>(St.z02 r:Int)).zip (S.map L)=(S.map fun r=>((St.z02 r:Int),r)).map fun q=>(q.1,L q.2):=by
  rw[List.zip_map,List.map_map]
  have:S.zip S=S.map fun r=>(r,r):=by
   induction S with
   | nil=>rfl
   | cons r S ih=>rw[List.zip_cons_cons,ih];rfl
  rw[this,List.map_map]
  rfl
 rw[e,z5Q]
 unfold z1V
 rw[List.map_map,List.map_map]
 rfl
def z1r:Nat→List (List Int)→List (Nat×List Int)
 | _,[]=>[]
 | j,r::S=>(j,r)::z1r (j+1) S
theorem z4m:∀(j:Nat) (S:List (List Int)),z3a j (S.map L)=(z1r j S).map fun p => .tup [.int p.1,L p.2]
 | j,[]=>rfl
 | j,r::S=>by rw[List.map_cons,z3a,z1r,List.map_cons,z4m (j+1) S]
theorem z6G(h:Nat):∀(j:Nat) (S:List (List Int)),(∀ r∈S,St.z02 r≠h)→(z1r j S).filter (fun p=>decide (St.z02 p.2=h))=[]
 | j,[],_=>rfl
 | j,r::S,q=>by
  rw[z1r,List.filter_cons,z6G h (j+1) S fun x hx=>q x (List.mem_cons_of_mem _ hx)]
  simp[q r List.mem_cons_self]
theorem zbL(h:Nat):∀(j:Nat) (S1:List (List Int)) (r:List Int) (S2:List (List Int)),St.z02 r=h→((S1++r::S2).map St.z02).Pairwise (·<·)→(z1r j (S1++r::S2)).filter (fun p=>decide (St.z02 p.2=h))=[(j+S1.length,r)]
 | j,[],r,S2,hr,pw=>by
  rw[List.nil_append]at pw ⊢
  rw[List.map_cons,List.pairwise_cons]at pw
  rw[z1r,List.filter_cons,z6G h (j+1) S2 fun x hx=>by have:=pw.1 _ (List.mem_map.mpr ⟨x,hx,rfl⟩);omega]
  simp[hr]
 | j,x::S1,r,S2,hr,pw=>by
  rw[List.cons_append]at pw ⊢
  rw[List.map_cons,List.pairwise_cons]at pw
  have hx:=pw.1 (St.z02 r) (List.mem_map.mpr ⟨r,by simp,rfl⟩)
  rw[z1r,List.filter_cons,zbL h (j+1) S1 r S2 hr pw.2]
  simp[show St.z02 x≠h by omega]
  omega
theorem zbM(S:List (List Int))(left:List Int)(c0 c1 c4 c5:Cell)(f:Bool):z0e 2 [3] (z3s (fN 2)) (Tg.many [0,1]) (z0n (fOp opEq (z06 true z0k (z01 (fN 1) fNil)) (z06 true z0k (z01 (fN 2) fNil)))) (fN 0) [c0,c1,.ow f (S.map L),.sh true (L left),c4,c5] =
   some (.nw,.lst (((z1r 0 S).filter fun p=>decide (St.z02 p.2=St.z02 left)).map fun p => .int (p.1:Int))):=by
 refine z73 (e:=fun p:Nat×List Int => .tup [.int p.1,L p.2]) (h:=fun p => .int (p.1:Int)) (p:=fun p=>decide (St.z02 p.2=St.z02 left)) (xs:=z1r 0 S) ?_ (fun x hx=>?_) (fun x hx _=>?_)
 · cases f<;>simp[cOf,z4m]
 · simp[cOf,z12,z0M]
   omega
 · simp[cOf]
abbrev WC:FT:=z0n (fOp opLt (z06 true z0k (z01 (fN 3) fNil)) (fBlt bLen (z01 (fN 3) fNil)))
abbrev WF:FS:=(sSeq (z2U 4 (z0e 2 [3] (z3s (fN 2)) (Tg.many [0,1]) (z0n (fOp opEq (z06 true z0k (z01 (fN 1) fNil)) (z06 true z0k (z01 (fN 2) fNil)))) (fN 0)))
 (sSeq (sIf (z0n (fOp opEq (fBlt bLen (z01 (fN 4) fNil)) (fC (.int 0)))) (sRet (z6x z0k (fOp z0y (fN 2) (fLst (z01 (z06 true z1h (z01 (fN 3) fNil)) fNil))))) z0A)
 (sSeq (z2U 5 (z06 true z3h (z01 (fAt (fN 2) (fAt (fN 4) (fC (.int 0)))) (z01 (fN 3) fNil))))
 (sSeq (sPut 2 (fAt (fN 4) (fC (.int 0))) (fAt (fN 5) (fC (.int 0))))
 (z2U 3 (z06 true z10 (z01 (fAt (fN 5) (fC (.int 1))) (z01 (fN 2) fNil))))))))
theorem zmx(S:List (List Int))(t:List Int)(h:S.length<60):z0y (.lst (S.map L)) (.lst [L t])=some (newL ((S++[t]).map L)):=by
 have:z0y (.lst (S.map L)) (.lst [L t])=z6W (.lst (S.map L)) (.lst [L t]):=rfl
 rw[this,z6W,if_pos (by simp;omega)]
 simp
theorem zmy(S:List (List Int))(left t:List Int)(c0 c1 c4 c5:Cell)(f:Bool)(hn:∀ r∈S,St.z02 r≠St.z02 left)(ht:z1h [L left]=some (L t))(hh:((S++[t]).map St.z02).Nodup)(h60:S.length<60):
  ∃ fl,WF [c0,c1,.ow f (S.map L),.sh true (L left),c4,c5]=some (.rt fl (LL (z1V (S++[t])))):=by
 have pl:=zbM S left c0 c1 c4 c5 f
 rw[z6G _ 0 S hn]at pl
 have st:z6x z0k (fOp z0y (fN 2) (fLst (z01 (z06 true z1h (z01 (fN 3) fNil)) fNil))) [c0,c1,.ow f (S.map L),.sh true (L left),.sh true (.lst []),c5]=some (newL ((z1V (S++[t])).map L)):=by
  have e1:fOp z0y (fN 2) (fLst (z01 (z06 true z1h (z01 (fN 3) fNil)) fNil)) [c0,c1,.ow f (S.map L),.sh true (L left),.sh true (.lst []),c5]=some (newL ((S++[t]).map L)):=by
   have:=zmx S t h60
   simp[cOf,ht,this]
  unfold z6x
  rw[e1]
  have k1:=zal (S++[t])
  have nd:((S++[t]).map fun r=>(St.z02 r:Int)).Nodup:=by
   have:((S++[t]).map fun r=>(St.z02 r:Int))=((S++[t]).map St.z02).map (fun n:Nat=>(n:Int)):=by rw[List.map_map];rfl
   rw[this]
   exact List.Pairwise.map _ (fun a b hab e=>hab (by omega)) hh
  show(z2C z0k ((S++[t]).map L)).bind _=_
  rw[k1,z0p,if_pos ⟨by simp;omega,nd⟩,zl7]
 refine⟨lfl ((z1V (S++[t])).map L),?_⟩
 have e1:z2U 4 (z0e 2 [3] (z3s (fN 2)) (Tg.many [0,1]) (z0n (fOp opEq (z06 true z0k (z01 (fN 1) fNil)) (z06 true z0k (z01 (fN 2) fNil)))) (fN 0)) [c0,c1,.ow f (S.map L),.sh true (L left),c4,c5]=some (.nx [c0,c1,.ow f (S.map L),.sh true (L left),.sh true (.lst []),c5]):=by
  unfold z2U
  rw[pl]
  rfl
 refine run e1 ?_
 have e2:sIf (z0n (fOp opEq (fBlt bLen (z01 (fN 4) fNil)) (fC (.int 0)))) (sRet (z6x z0k (fOp z0y (fN 2) (fLst (z01 (z06 true z1h (z01 (fN 3) fNil)) fNil))))) z0A [c0,c1,.ow f (S.map L),.sh true (L left),.sh true (.lst []),c5]=some (.rt (lfl ((z1V (S++[t])).map L)) (LL (z1V (S++[t])))):=by
  have c:z0n (fOp opEq (fBlt bLen (z01 (fN 4) fNil)) (fC (.int 0))) [c0,c1,.ow f (S.map L),.sh true (L left),.sh true (.lst []),c5]=some true:=by simp[cOf,z0M]
  unfold sIf
  rw[c,z0p,if_pos rfl,sRet,st]
  rfl
 unfold sSeq
 rw[e2]
 rfl
theorem zfn(S1 S2:List (List Int))(r left up lo:List Int)(c0 c1 c4 c5:Cell)(f:Bool)(hh:St.z02 r=St.z02 left)(pw:((S1++r::S2).map St.z02).Pairwise (·<·))(hc:z3h [L r,L left]=some (.tup [L up,L lo]))(res:List Int)(hl:z10 [L lo,LL (S1++up::S2)]=some (L res)):
   ∃ d4 d5,WF [c0,c1,.ow f ((S1++r::S2).map L),.sh true (L left),c4,c5]=some (.nx [c0,c1,.ow f ((S1++up::S2).map L),.sh true (L res),d4,d5]):=by
 have pl:=zbM (S1++r::S2) left c0 c1 c4 c5 f
 rw[zbL _ 0 S1 r S2 hh pw]at pl
 have pl:z0e 2 [3] (z3s (fN 2)) (Tg.many [0,1]) (z0n (fOp opEq (z06 true z0k (z01 (fN 1) fNil)) (z06 true z0k (z01 (fN 2) fNil)))) (fN 0) [c0,c1,.ow f ((S1++r::S2).map L),.sh true (L left),c4,c5]=some (.nw,.lst [.int (S1.length:Int)]):=by rw[pl];simp
 refine⟨.sh true (.lst [.int (S1.length:Int)]),.sh true (.tup [L up,L lo]),?_⟩
 have at1:atI ((S1++r::S2).map L) (S1.length:Int)=some (L r):=z4A (by simp)
 have ix:ixN ((S1++r::S2).map L).length (S1.length:Int)=some S1.length:=by
   unfold ixN
   rw[if_pos (by omega),if_pos (by simp;omega)];simp
 have set1:((S1++r::S2).map L).set S1.length (L up)=(S1++up::S2).map L:=by
   rw[List.map_append,List.map_append,List.set_append]
   simp
 have hl:z10 [L lo,.lst ((S1++up::S2).map L)]=some (L res):=hl
 generalize (S1++r::S2).map L=D at *
 generalize (S1++up::S2).map L=D' at *
 have e1:z2U 4 (z0e 2 [3] (z3s (fN 2)) (Tg.many [0,1]) (z0n (fOp opEq (z06 true z0k (z01 (fN 1) fNil)) (z06 true z0k (z01 (fN 2) fNil)))) (fN 0)) [c0,c1,.ow f D,.sh true (L left),c4,c5]=some (.nx [c0,c1,.ow f D,.sh true (L left),.sh true (.lst [.int (S1.length:Int)]),c5]):=by
   unfold z2U
   rw[pl]
   rfl
 refine run e1 (run (ρ':=[c0,c1,.ow f D,.sh true (L left),.sh true (.lst [.int (S1.length:Int)]),c5]) ?_ (run (ρ':=[c0,c1,.ow f D,.sh true (L left),.sh true (.lst [.int (S1.length:Int)]),.sh true (.tup [L up,L lo])]) ?_ (run (ρ':=[c0,c1,.ow f D',.sh true (L left),.sh true (.lst [.int (S1.length:Int)]),.sh true (.tup [L up,L lo])]) ?_ ?_)))
 · simp[cOf,z0M]
 · simp[cOf,at1,hc]
 · simp[cOf,ix,set1]
 · simp[cOf,hl]
theorem zl8(S:List (List Int))(h:Nat):(∀ r∈S,St.z02 r≠h)∨∃ S1 r S2,S=S1++r::S2∧St.z02 r=h:=by
 by_cases q:∃ r∈S,St.z02 r=h
 · obtain⟨r,hr,e⟩:=q
   obtain⟨S1,S2,rfl⟩:=List.append_of_mem hr
   exact .inr ⟨S1,r,S2,rfl,e⟩
 · exact .inl fun r hr e=>q ⟨r,hr,e⟩
theorem z7l{n e:Nat}{S:List (List Int)}(A:St.Asc n 0 S)(hd:∀ r∈S,St.hd r<2 ^ e)(he:e≤8990):∀ r∈S,r.length=n∧St.z02 r<n∧0<St.hd r∧St.hd r<2 ^ 9000:=fun r hr=>by
 have q:=A.mem hr
 refine⟨q.1,q.2.2.1,q.2.2.2,?_⟩
 have h1:=hd r hr
 have h9:(2:Nat) ^ e≤2 ^ 9000:=Nat.pow_le_pow_right (by decide) (by omega)
 have c1:((2 ^ 9000:Nat):Int)=(2:Int) ^ 9000:=by norm_cast
 have c2:((2 ^ e:Nat):Int)=(2:Int) ^ e:=by norm_cast
 omega
structure Sz(n e eh m0 kk:Nat):Prop where
 n20:n≤20
 e90:eh≤8990
 ehe:eh≤e
 e33:e≤33000
 m0e:m0=e+20*(e+1)
 kke:kk=2*e+3+20*(e+1)
theorem Sz.lim{n e eh m0 kk:Nat}(z:Sz n e eh m0 kk):m0+n*kk≤16000000:=by
 have h1:=z.n20
 have h2:=z.e33
 have h3:=z.m0e
 have h4:=z.kke
 have:n*kk≤20*kk:=Nat.mul_le_mul_right _ h1
 omega
theorem zqb{n e eh m0 kk:Nat}(z:Sz n e eh m0 kk)(S0:List (List Int))(v:List Int)(h20:S0.length≤20)(c0 c1:Cell)(f:Bool):∀(k:Nat) (S:List (List Int)) (left:List Int) (c4 c5:Cell),St.Wi n e eh m0 kk S0 v S left→n-St.z02 left≤k →
 (∃ S' left' c4' c5',z1a WC WF (k+1) [c0,c1,.ow f (S.map L),.sh true (L left),c4,c5]=some (.nx [c0,c1,.ow f (S'.map L),.sh true (L left'),c4',c5'])∧St.Post n (e+3+(m0+n*kk)) S0 v S') ∨
 (∃ S' fl,z1a WC WF (k+1) [c0,c1,.ow f (S.map L),.sh true (L left),c4,c5]=some (.rt fl (LL S'))∧St.Post n (e+3+(m0+n*kk)) S0 v S'):=by
 intro k
 induction k using Nat.strongRecOn with
 | _ k IH =>
 intro S left c4 c5 I hk
 have lim:=z.lim
 have hlen:S.length=S0.length:=by have:=congrArg List.length I.heads;simpa using this
 have hc:WC [c0,c1,.ow f (S.map L),.sh true (L left),c4,c5]=some (decide (St.z02 left<n)):=by
   have:(decide ((St.z02 left:Int)<(left.length:Int)))=decide (St.z02 left<n):=by
     have:=I.len
     by_cases h:St.z02 left<n
     · rw[decide_eq_true h,decide_eq_true (by omega)]
     · rw[decide_eq_false h,decide_eq_false (by omega)]
   simp[cOf,z12,this]
   have:=I.len
   omega
 rw[z1a,hc,z0p]
 by_cases hn:St.z02 left<n
 · rw[decide_eq_true hn,if_pos rfl]
   rcases zl8 S (St.z02 left)with no|⟨S1,r,S2,rfl,hr⟩
   · right
     have ht:=zd1 (n:=n) (q:=0) left I.len hn
     generalize et:(if St.at0 left (St.z02 left)<0 then sclR (-1) left else left)=t at ht
     have hne:St.at0 left (St.z02 left)≠0:=St.z78 left (by rw[I.len];exact hn)
     have tc:∃ c:Int,(c=1∨c = -1)∧(∀ k,St.at0 t k=c*St.at0 left k)∧0<St.at0 t (St.z02 left)∧t.length=n:=by
       by_cases h:St.at0 left (St.z02 left)<0
       · rw[if_pos h]at et
         subst et
         have e1:∀ k,St.at0 (sclR (-1) left) k = -1*St.at0 left k:=fun k=>by
          simp only[St.at0,sclR,List.getD,List.getElem?_map]
          cases left[k]?<;>simp
         exact⟨-1,.inr rfl,e1,by rw[e1];omega,by rw[z0B];exact I.len⟩
       · rw[if_neg h]at et
         subst et
         exact⟨1,.inl rfl,fun k=>by omega,by omega,I.len⟩
     obtain⟨c,hc1,hc2,hc3,hc4⟩:=tc
     have th:St.z02 t=St.z02 left:=St.z2E _ _ (fun k hk=>by rw[hc2,St.z0q left k hk];simp) (by omega)
     have nd:((S++[t]).map St.z02).Nodup:=by
       rw[List.map_append,List.nodup_append]
       refine⟨(St.Asc.iff.mp I.asc).2.imp fun{a b} h=>by omega,by simp,fun a ha b hb=>?_⟩
       obtain⟨x,hx,rfl⟩:=List.mem_map.mp ha
       have:=no x hx
       have hb:b=St.z02 t:=by simpa using hb
       omega
     obtain⟨fl,ew⟩:=zmy S left t c0 c1 c4 c5 f no ht nd (by omega)
     refine⟨z1V (S++[t]),fl,by rw[ew];rfl,?_⟩
     refine I.new hn no hc4 c hc1 hc2 hc3 ?_ (zak _ nd)
     exact(z7k _).trans (List.perm_append_comm)
   · have hm:r∈S1++r::S2:=by simp
     have q:=I.asc.mem hm
     have hcast:((2 ^ e:Nat):Int)=(2:Int) ^ e:=by norm_cast
     have hle:m0+St.z02 left*kk≤m0+n*kk:=by have:=Nat.mul_le_mul_right kk (Nat.le_of_lt hn);omega
     obtain⟨g,x,y,ec,hg,ga,gb,hxy,hx,hy⟩:=zfm (n:=n) (e:=eh) (q:=e+3+(m0+St.z02 left*kk)) r left q.1 I.len q.2.2.1 q.2.2.2 (I.hds r hm) (I.low r hm).1 (I.low r hm).2 z.e90 (I.all r hm) (I.size.mono (Nat.pow_le_pow_right (by decide) (by omega))) (by have:=z.e33;omega)
     have hl2:S1.length+S2.length+1≤20:=by simp at hlen;omega
     obtain⟨I',hlt,lb,hds'⟩:=I.step hr hn hg ga gb hxy (Nat.lt_of_lt_of_le hx (Nat.pow_le_pow_right (by decide) (by have:=z.ehe;omega))) (Nat.lt_of_lt_of_le hy (Nat.pow_le_pow_right (by decide) (by have:=z.ehe;omega))) (by have:=z.m0e;omega) (by
       have:=z.kke
       have:(S1.length+S2.length+1)*(e+1)≤20*(e+1):=Nat.mul_le_mul_right _ hl2
       omega)
     have el:=z4S (n:=n) (m:=m0+n*kk) (L (St.z1j r left g)) (St.z1j r left g) (S1++St.z0I r left x y::S2) (.inl rfl) (by omega) (z7l I'.asc hds' z.e90) (by
       unfold St.z1j;rw[St.z9f (by rw[I.len,q.1])];exact I.len) lb (by simp;omega)
     obtain⟨d4,d5,ew⟩:=zfn S1 S2 r left _ _ c0 c1 c4 c5 f hr (St.Asc.iff.mp I.asc).2 ec _ el
     cases k with
     | zero=>omega
     | succ k =>
       rcases IH k (Nat.lt_succ_self k) _ _ d4 d5 I' (by omega) with⟨S',l',d4',d5',h1,h2⟩|⟨S',fl,h1,h2⟩
       · exact .inl ⟨S',l',d4',d5',by rw[ew];exact h1,h2⟩
       · exact .inr ⟨S',fl,by rw[ew];exact h1,h2⟩
 · rw[decide_eq_false hn]
   exact .inl ⟨S,left,c4,c5,rfl,I.done hn⟩
theorem ze9{n e eh m0 kk:Nat}(z:Sz n e eh m0 kk)(S:List (List Int))(d:Dt)(v:List Int)(hd:RowD d v)(A:St.Asc n 0 S)(hv:v.length=n)(h0:∀ r∈S,St.Lt (2 ^ e) r)(hh:∀ r∈S,St.hd r<2 ^ eh)(hs:St.Lt (2 ^ e) v)(h20:S.length≤20):
   ∃ S',z2J [LL S,d]=some (LL S')∧St.Post n (e+3+(m0+n*kk)) S v S':=by
 have lim:=z.lim
 have hm0:=z.m0e
 have hml:e+S.length*(e+1)≤m0:=by have:S.length*(e+1)≤20*(e+1):=Nat.mul_le_mul_right _ h20;omega
 obtain⟨I,lb⟩:=St.Wi.start (n:=n) (e:=e) (eh:=eh) (s:=e) (m0:=m0) (kk:=kk) A hv h0 hh hs hml (by omega)
 have el:=z4S (n:=n) (m:=m0) d v S hd (by omega) (z7l A I.hds z.e90) hv lb (by omega)
 have el:z10 [d,.lst (S.map L)]=some (L (St.z0f v S)):=el
 have fl:∃ f:Bool,∀ d0:Dt,sOwn 2 (fBlt bLst (z01 (fN 0) fNil)) [.sh false (LL S),.sh false d0,.no,.no,.no,.no]=some (.nx [.sh false (LL S),.sh false d0,.ow f (S.map L),.no,.no,.no]):=by
   cases S with
   | nil=>exact⟨true,fun d0=>by simp[cOf]⟩
   | cons r S=>exact⟨false,fun d0=>by simp[cOf,newL,lfl]⟩
 obtain⟨f,hf⟩:=fl
 have hb:∀ o,z3V WC WF [.sh false (LL S),.sh false d,.ow f (S.map L),.sh true (L (St.z0f v S)),.no,.no]=some o→(∃ S' fl,seqO (sRet (fN 2)) o=some (.rt fl (LL S'))∧St.Post n (e+3+(m0+n*kk)) S v S')→∃ S',z2J [LL S,d]=some (LL S')∧St.Post n (e+3+(m0+n*kk)) S v S':=by
   rintro o ho ⟨S',fl,h1,h2⟩
   refine⟨S',?_,h2⟩
   have e2:z2U 3 (z06 true z10 (z01 (fN 1) (z01 (fN 2) fNil))) [.sh false (LL S),.sh false d,.ow f (S.map L),.no,.no,.no]=some (.nx [.sh false (LL S),.sh false d,.ow f (S.map L),.sh true (L (St.z0f v S)),.no,.no]):=by
    rcases hd with rfl|rfl<;>simp[cOf,el]
   have q:z3y [.sh false (LL S),.sh false d,.no,.no,.no,.no]=some (.rt fl (LL S')):=by
    unfold z3y
    refine run (hf d) (run e2 ?_)
    show(z3V WC WF _).bind (seqO (sRet (fN 2)))=_
    rw[ho]
    exact h1
   unfold z2J cOf
   rw[if_pos (show[LL S,d].length=2 from rfl)]
   show(z3y [.sh false (LL S),.sh false d,.no,.no,.no,.no]).bind _=_
   rw[q]
   rfl
 rcases zqb z S v h20 (.sh false (LL S)) (.sh false d) f (n-St.z02 (St.z0f v S)) S (St.z0f v S) .no .no I (Nat.le_refl _) with⟨S',l',d4',d5',h1,h2⟩|⟨S',fl,h1,h2⟩
 · exact hb _ (z5P h1) ⟨S',flOf f,rfl,h2⟩
 · exact hb _ (z5P h1) ⟨S',fl,rfl,h2⟩
theorem z8P:∀(A T:List (List Int)),∃ A',St.even (A++T)=A'++St.even T
 | [],T=>⟨[],rfl⟩
 | r::A,T=>by
  obtain⟨A',e⟩:=z8P A T
  exact⟨St.z0f r (St.even (A++T))::A',by rw[List.cons_append,St.even,e];rfl⟩
theorem zam{n:Nat}:∀{f:Nat} {A T:List (List Int)},St.Asc n f (A++T)→St.Asc n 0 T
 | f,[],T,h=>h.weak (Nat.zero_le _)
 | f,r::A,T,h=>zam (A:=A) h.2.2.2.2
abbrev EF:FS:=sWrA z9K 1 (z06 true z10 (z01 (fN 2) (z01 (fN 1) fNil)))
theorem zk6{n e eh u:Nat}(he:eh≤8990)(he3:e≤33000)(hu:u≤17000000)(c0:Cell)(S:List (List Int))(A:St.Asc n 0 S)(hs:∀ r∈S,St.Lt (2 ^ u) r)(hE:∀ r∈St.even S,St.Lt (2 ^ e) r)(hH:∀ r∈St.even S,St.hd r<2 ^ eh)(h20:S.length≤21)(heu:e≤u):
  ∀(R T:List (List Int)) (c2:Cell),S=R.reverse++T→∃ c2',forF (Tg.one 2) EF (R.map L) [c0,.ow true ((St.even T).map L),c2]=some (.nx [c0,.ow true ((St.even S).map L),c2'])
 | [],T,c2,h=>⟨c2,by rw[h];rfl⟩
 | r::R,T,c2,h=>by
  have h':S=R.reverse++(r::T):=by rw[h];simp
  obtain⟨c2',ih⟩:=zk6 he he3 hu c0 S A hs hE hH h20 heu R (r::T) (.sh false (L r)) h'
  refine⟨c2',?_⟩
  rw[List.map_cons,z1b]
  have hlen:T.length+1≤21:=by have:=congrArg List.length h';simp at this;omega
  have rm:r∈S:=by rw[h'];simp
  have AT:St.Asc n 0 T:=zam (A:=R.reverse++[r]) (by rw[List.append_assoc];show St.Asc n 0 (R.reverse++(r::T));rw[←h'];exact A)
  have AE:=(St.z3g AT).1
  obtain⟨A',ea⟩:=z8P (R.reverse++[r]) T
  have sub:∀ x∈St.even T,x∈St.even S:=fun x hx=>by
   rw[h',show R.reverse++(r::T)=(R.reverse++[r])++T by simp,ea]
   exact List.mem_append.mpr (.inr hx)
  have hE':∀ x∈St.even T,St.Lt (2 ^ e) x:=fun x hx=>hE x (sub x hx)
  have hel:(St.even T).length≤20:=by rw[St.z3x];omega
  have hmul:(St.even T).length*(e+1)≤20*(e+1):=Nat.mul_le_mul_right _ hel
  obtain⟨_,lb⟩:=St.z2b (n:=n) (t:=0) (s:=u) (e:=e) (m:=u+20*(e+1)) (S:=St.even T) (left:=r) (fun x hx=>⟨(AE.mem hx).1,(AE.mem hx).2.2.2⟩) (A.mem rm).1 (fun k hk=>by omega) (fun x hx _=>hE' x hx) (hs r rm) (by omega) (by omega)
  have el:=z4S (n:=n) (m:=u+20*(e+1)) (L r) r (St.even T) (.inl rfl) (by omega) (z7l AE (fun x hx=>hH x (sub x hx)) he) (A.mem rm).1 lb (by omega)
  have el:z10 [L r,.lst ((St.even T).map L)]=some (L (St.z0f r (St.even T))):=el
  have e1:(Tg.put (Tg.one 2) (L r) [c0,.ow true ((St.even T).map L),c2]).bind EF=some (.nx [c0,.ow true (L (St.z0f r (St.even T))::(St.even T).map L),.sh false (L r)]):=by
   simp[cOf,el,show(St.even T).length<1000000 by omega]
  rw[e1]
  exact ih
theorem zl9{n e eh u:Nat}(S:List (List Int))(he:eh≤8990)(he3:e≤33000)(hu:u≤17000000)(A:St.Asc n 0 S)(hs:∀ r∈S,St.Lt (2 ^ u) r)(hE:∀ r∈St.even S,St.Lt (2 ^ e) r)(hH:∀ r∈St.even S,St.hd r<2 ^ eh)(h20:S.length≤21)(heu:e≤u):z5p [LL S]=some (LL (St.even S)):=by
 obtain⟨c2,q⟩:=zk6 he he3 hu (.sh false (LL S)) S A hs hE hH h20 heu S.reverse [] .no (by simp)
 have q:forF (Tg.one 2) EF (S.map L).reverse [.sh false (LL S),.ow true [],.no]=some (.nx [.sh false (LL S),.ow true ((St.even S).map L),c2]):=by rw[←List.map_reverse];exact q
 unfold z5p zac
 simp[cOf,q]
abbrev CF:FS:=sSet [] 1 (z06 true z5p (z01 (z06 false z2J (z01 (fN 1) (z01 (fN 2) fNil))) fNil))
theorem zan{n e eh B:Nat}(ed:List Int→Dt)(hed:∀ r,RowD (ed r) r)(hn:n≤20)(he:eh≤8990)(hee:eh≤e)(he3:e≤33000)(all:List (List Int))(hl:∀ r∈all,r.length=n)(hb:∀ r∈all,St.Lt B r)(hB:0<B)(hBe:B≤2 ^ e)(hbn:∀ k,k≤all.length→St.bnd k B+1≤2 ^ e)(hH:∀ k S,k≤all.length→St.Good n B (all.take k) S→∀ r∈S,St.hd r<2 ^ eh)(h20:all.length≤20)(c0:Cell):
  ∀(todo done:List (List Int)) (S:List (List Int)) (c2:Cell),all=done++todo→St.Good n B done S→∃ S' c2',forF (Tg.one 2) CF (todo.map ed) [c0,.sh true (LL S),c2]=some (.nx [c0,.sh true (LL S'),c2'])∧St.Good n B all S'
 | [],done,S,c2,h,G=>⟨S,c2,rfl,by rw[h,List.append_nil];exact G⟩
 | v::todo,done,S,c2,h,G=>by
  have z:Sz n e eh (e+20*(e+1)) (2*e+3+20*(e+1)):=⟨hn,he,hee,he3,rfl,rfl⟩
  have hdn:all.take done.length=done:=by rw[h];simp
  have hdv:all.take (done.length+1)=done++[v]:=by rw[h,List.take_append,List.take_of_length_le (by omega)];simp
  have hld:done.length+1+todo.length=all.length:=by rw[h];simp;omega
  have hv:v∈all:=by rw[h];simp
  have sub:∀ r∈done,r∈all:=fun r hr=>by rw[h];exact List.mem_append.mpr (.inl hr)
  have small:=G.small (fun r hr=>hb r (sub r hr)) hB
  have len:=G.len
  have small:∀ r∈S,St.Lt (2 ^ e) r:=fun r hr=>(small r hr).mono (hbn _ (by omega))
  obtain⟨S1,e1,P⟩:=ze9 z S (ed v) v (hed v) G.asc (hl v hv) small (hH done.length S (by omega) (by rw[hdn];exact G)) ((hb v hv).mono hBe) (by omega)
  have G':=G.step P
  have small':=G'.small (fun r hr=>by
   rcases List.mem_append.mp hr with hr|hr
   · exact hb r (sub r hr)
   · rw[List.mem_singleton.mp hr];exact hb v hv) hB
  have len':=G'.len
  have len2:(done++[v]).length=done.length+1:=by simp
  have small':∀ r∈St.even S1,St.Lt (2 ^ e) r:=fun r hr=>(small' r hr).mono (hbn _ (by omega))
  have lim:=z.lim
  have e2:=zl9 (n:=n) (e:=e) (u:=e+3+(e+20*(e+1)+n*(2*e+3+20*(e+1)))) S1 he he3 (by omega) P.asc P.size small' (hH (done.length+1) _ (by omega) (by rw[hdv];exact G')) (by rw[←St.z3x];omega) (by omega)
  obtain⟨S',c2',ih,GG⟩:=zan ed hed hn he hee he3 all hl hb hB hBe hbn hH h20 c0 todo (done++[v]) (St.even S1) (.sh false (ed v)) (by rw[h];simp) G'
  refine⟨S',c2',?_,GG⟩
  rw[List.map_cons,z1b]
  have st:(Tg.put (Tg.one 2) (ed v) [c0,.sh true (LL S),c2]).bind CF=some (.nx [c0,.sh true (LL (St.even S1)),.sh false (ed v)]):=by
   have sn:∀ f,(nrm f (ed v)).2=ed v:=fun f=>rfl
   simp[cOf,sn,e1,e2]
  rw[st]
  exact ih
theorem z5w{n e eh B:Nat}(ed:List Int→Dt)(hed:∀ r,RowD (ed r) r)(hn:n≤20)(he:eh≤8990)(hee:eh≤e)(he3:e≤33000)(rows:List (List Int))(d:Dt)(hd:d = .lst (rows.map ed)∨d = .tup (rows.map ed))(hl:∀ r∈rows,r.length=n)(hb:∀ r∈rows,St.Lt B r)(hB:0<B)(hBe:B≤2 ^ e)(hbn:∀ k,k≤rows.length→St.bnd k B+1≤2 ^ e)(hH:∀ k S,k≤rows.length→St.Good n B (rows.take k) S→∀ r∈S,St.hd r<2 ^ eh)(h20:rows.length≤20):
   ∃ S,z2f [d]=some (LL S)∧St.Good n B rows S:=by
 obtain⟨S,c2,q,G⟩:=zan ed hed hn he hee he3 rows hl hb hB hBe hbn hH h20 (.sh false d) rows [] [] .no rfl St.Good.nil
 refine⟨S,?_,G⟩
 have q:forF (Tg.one 2) CF (rows.map ed) [.sh false d,.sh true (.lst []),.no]=some (.nx [.sh false d,.sh true (LL S),c2]):=q
 unfold z2f z8b
 rcases hd with rfl|rfl
 · simp[cOf,q]
 · simp[cOf,q]
theorem zao{n e B:Nat}(ed:List Int→Dt)(hed:∀ r,RowD (ed r) r)(hn:n≤20)(he:e≤8990)(rows:List (List Int))(d:Dt)(hd:d = .lst (rows.map ed)∨d = .tup (rows.map ed))(hl:∀ r∈rows,r.length=n)(hb:∀ r∈rows,St.Lt B r)(hB:0<B)(hBe:B≤2 ^ e)(hbn:∀ k,k≤rows.length→St.bnd k B+1≤2 ^ e)(h20:rows.length≤20):
 ∃ S,z2f [d]=some (LL S)∧St.Good n B rows S:=z5w (eh:=e) ed hed hn he (Nat.le_refl _) (by omega) rows d hd hl hb hB hBe hbn (fun k S hk G r hr=>by
 have q:=G.small (fun r hr=>hb r (List.mem_of_mem_take hr)) hB r hr (St.z02 r)
 have l:=G.len
 have b:=hbn S.length (by rw[List.length_take]at l;omega)
 have q:(St.hd r).natAbs<St.bnd S.length B+1:=q
 have c2:((2 ^ e:Nat):Int)=(2:Int) ^ e:=by norm_cast
 omega) h20
theorem zmz{n e B:Nat}(k:Int)(bills:List (List Int))(hn:n≤20)(he:e≤8990)(hl:∀ r∈bills,r.length=n)(hb:∀ r∈bills,St.Lt B r)(hB:0<B)(hBe:B≤2 ^ e)(hbn:∀ k,k≤bills.length→St.bnd k B+1≤2 ^ e)(h20:bills.length≤20):
  ∃ S,z66 [z0o k bills]=some (LL S)∧St.Good n B bills S:=by
 obtain⟨S,q,G⟩:=zao (n:=n) (e:=e) (B:=B) T (fun r => .inr rfl) hn he bills (TTu bills) (.inr rfl) hl hb hB hBe hbn h20
 refine⟨S,?_,G⟩
 unfold z66 zcU
 simp[cOf,q]
theorem zfo(d:Dt):z1T [d]=some (.bl (isWh d)):=by
 unfold z1T z69
 cases d<;>simp[cOf,isWh,Dt.flat,nrm]
theorem z8Q(a:List Int)(n:Int):z3B [L a,.int n]=some (.bl (decide ((a.length:Int)=n))):=by
 unfold z3B z6E
 obtain⟨j,q⟩:=z5R (g:=Tg.one 2) (F:=sIf (fNot (fTru (z06 true z1T (z01 (fN 2) fNil)))) (sRet (fC (.bl false))) z0A) (e:=Dt.int) (R:=fun(_:Unit) (c:Cell)=>[.sh false (L a),.sh false (.int n),c]) (step:=fun _ _=>()) a () .no
   (fun b x j hx=>⟨.sh false (.int x),by simp[cOf,Tg.put,zfo,isWh]⟩)
 have q:forF (Tg.one 2) (sIf (fNot (fTru (z06 true z1T (z01 (fN 2) fNil)))) (sRet (fC (.bl false))) z0A) (a.map Dt.int) [.sh false (L a),.sh false (.int n),.no]=some (.nx [.sh false (L a),.sh false (.int n),j]):=q
 by_cases h:(a.length:Int)=n
 · simp[cOf,z0H,h,q]
 · simp[cOf,z0H,h]
theorem z8h(a b:List Int)(k:Int)(hl:a.length=b.length)(hs:a.length≤1000)(h:∀ x∈b,z18 k x=true):z3D [L a,L b,.int k]=some (L (addR a (sclR k b))):=by
 unfold z3D zae
 have q:z0e 1 [0,2,1] (z0l (fBlt bLen (z01 (fN 0) fNil))) (Tg.one 0) fYes (fOp z0y (fAt (fN 1) (fN 0)) (fOp z19 (fN 2) (fAt (fN 3) (fN 0)))) [.sh false (L a),.sh false (L b),.sh false (.int k)]=some (.nw,L (addR a (sclR k b))):=by
  rw[z0j (e:=fun(j:Nat) => .int (0+(j:Int))) (h:=fun(j:Nat) => .int (a.getD j 0+k*b.getD j 0)) (xs:=List.range a.length) (by simp[cOf,z0l,intD,z4L (show a.length≤1000000 by omega),z0G]) (fun j hj=>by
   have hj:=List.mem_range.mp hj
   have e1:=z1I (xs:=a) 0 hj
   have e2:=z1I (xs:=b) (i:=j) 0 (by omega)
   have e3:=h _ (z76 0 (show j<b.length by omega))
   simp[cOf,Tg.put,sigD,z58,z3v,e1,e2,e3,-List.getD_eq_getElem?_getD]),zmj (fun j=>a.getD j 0+k*b.getD j 0),zmi a b k hl]
 simp[cOf,q]
theorem zea(n:Nat)(rows:List (List Int))(cs:List Int)(hn:n≤1000)(hm:rows.length≤1000)(hw:Wide n rows)(hl:rows.length=cs.length)(h:∀ r∈rows,∀ c∈cs,∀ x∈r,z18 c x=true):z6a [.int n,LL rows,L cs]=some (L (mixR n rows cs)):=by
 unfold z6a zcY
 have z:z0e 1 [] (z0l (fN 0)) (Tg.one 0) fYes (fC (.int 0)) [.sh false (.int n),.sh false (LL rows),.sh false (L cs),.no,.no]=some (.nw,L (z0w n)):=by
  rw[z0j (e:=fun(k:Nat) => .int (0+(k:Int))) (h:=fun _ => .int 0) (xs:=List.range n) (by simp[cOf,z0l,intD,z4L (show n≤1000000 by omega),z0G]) (fun x _=>by simp[cOf,Tg.put])]
  simp[L,z0w,List.map_const']
 obtain⟨hl2,j,q⟩:=z9P (g:=Tg.one 4) (F:=sSet [] 3 (z0e 1 [3,2,4,1] (z0l (fN 0)) (Tg.one 0) fYes (fOp z0y (fAt (fN 1) (fN 0)) (fOp z19 (fAt (fN 2) (fN 3)) (fAt (fAt (fN 4) (fN 3)) (fN 0))))))
  (e:=fun(j:Nat) => .int (0+(j:Int))) (R:=fun(t:List Int) (c:Cell)=>[.sh false (.int n),.sh false (LL rows),.sh false (L cs),.sh true (L t),c]) (step:=fun t j=>addR t (sclR (cs.getD j 0) (rows.getD j []))) (P:=fun t=>t.length=n) (List.range rows.length) (z0w n) .no z1c
  (fun t j c hj ht=>by
   have hj:=List.mem_range.mp hj
   have hr:=z76 [] hj
   have hlr:=hw _ hr
   refine⟨by rw[z2m (by rw[z0B,ht,hlr])];exact ht,.sh false (.int (0+(j:Int))),?_⟩
   have q:z0e 1 [3,2,4,1] (z0l (fN 0)) (Tg.one 0) fYes (fOp z0y (fAt (fN 1) (fN 0)) (fOp z19 (fAt (fN 2) (fN 3)) (fAt (fAt (fN 4) (fN 3)) (fN 0)))) [.sh false (.int n),.sh false (LL rows),.sh false (L cs),.sh true (L t),.sh false (.int (0+(j:Int)))]=some (.nw,L (addR t (sclR (cs.getD j 0) (rows.getD j [])))):=by
    rw[z0j (e:=fun(k:Nat) => .int (0+(k:Int))) (h:=fun(k:Nat) => .int (t.getD k 0+cs.getD j 0*(rows.getD j []).getD k 0)) (xs:=List.range n) (by simp[cOf,z0l,intD,z4L (show n≤1000000 by omega),z0G]) (fun k hk=>by
     have hk:=List.mem_range.mp hk
     have e1:=z1I (xs:=t) (i:=k) 0 (by omega)
     have e2:=z1I (xs:=cs) (i:=j) 0 (by omega)
     have e3:=z1I (xs:=rows) (i:=j) [] hj
     have e4:=z1I (xs:=rows.getD j []) (i:=k) 0 (by omega)
     have e5:=h _ hr _ (z76 0 (show j<cs.length by omega)) _ (z76 0 (show k<(rows.getD j []).length by omega))
     simp only[Int.zero_add]at *
     simp[cOf,Tg.put,sigD,z58,z3v,e1,e2,e3,e4,e5,-List.getD_eq_getElem?_getD]),zmj (fun k=>t.getD k 0+cs.getD j 0*(rows.getD j []).getD k 0),←ht,zmi t _ _ (by rw[ht,hlr])]
   simp only[Int.zero_add]at *
   simp[cOf,Tg.put,q,-List.getD_eq_getElem?_getD])
 have q:forF (Tg.one 4) (sSet [] 3 (z0e 1 [3,2,4,1] (z0l (fN 0)) (Tg.one 0) fYes (fOp z0y (fAt (fN 1) (fN 0)) (fOp z19 (fAt (fN 2) (fN 3)) (fAt (fAt (fN 4) (fN 3)) (fN 0)))))) (z1Y 0 rows.length) [.sh false (.int n),.sh false (LL rows),.sh false (L cs),.sh true (L (z0w n)),.no]=some (.nx [.sh false (.int n),.sh false (LL rows),.sh false (L cs),.sh true (L (mixR n rows cs)),j]):=by
  rw[z0G,←zf9 n rows cs hl];exact q
 simp[cOf,z,z0l,intD,z4L (show rows.length≤1000000 by omega),q]
theorem z8R(m j:Nat)(hm:m≤1000):z26 [.int m,.int j]=some (L (St.z1Z m j)):=by
 unfold z26 z6C
 have q:z0e 1 [1] (z0l (fN 0)) (Tg.one 0) fYes (fIf (z0n (fOp opEq (fN 0) (fN 1))) (fC (.int 1)) (fC (.int 0))) [.sh false (.int m),.sh false (.int j)]=some (.nw,L (St.z1Z m j)):=by
  rw[z0j (e:=fun(k:Nat) => .int (0+(k:Int))) (h:=fun k => .int (if k=j then 1 else 0)) (xs:=List.range m) (by simp[cOf,y13 m (by omega),z0G]) (fun k _=>by
   by_cases h:k=j
   · simp[cOf,z0M,h]
   · simp[cOf,z0M,h,show ¬(k:Int)=(j:Int) by omega])]
  rw[zmj (fun k=>if k=j then 1 else 0)]
  rfl
 simp[cOf,q]
theorem zd2(m:Nat):∀(s:Nat) (bs:List (List Int)),(bs.zip ((List.range' s bs.length).map (St.z1Z m))).map (fun p=>p.1++p.2)=St.tagF m s bs
 | s,[]=>rfl
 | s,b::bs=>by rw[List.length_cons,List.range'_succ,List.map_cons,List.zip_cons_cons,List.map_cons,zd2 m (s+1) bs,St.tagF]
theorem z9b{n e B:Nat}(hn:n≤20)(he:e≤8990)(bills tags:List (List Int))(hlt:bills.length=tags.length)(hl:∀ p∈bills.zip tags,(p.1++p.2).length=n)(hb:∀ p∈bills.zip tags,St.Lt B (p.1++p.2))(hB:0<B)(hBe:B≤2 ^ e)(hbn:∀ k,k≤bills.length→St.bnd k B+1≤2 ^ e)(h20:bills.length≤20):
  ∃ S,z0N [TTu bills,LL tags]=some (LL S)∧St.Good n B ((bills.zip tags).map fun p=>p.1++p.2) S:=by
 have hlz:((bills.zip tags).map fun p=>p.1++p.2).length=bills.length:=by simp;omega
 obtain⟨S,q,G⟩:=zao (n:=n) (e:=e) (B:=B) L (fun r => .inl rfl) hn he ((bills.zip tags).map fun p=>p.1++p.2) (LL ((bills.zip tags).map fun p=>p.1++p.2)) (.inl rfl) (fun r hr=>by
  obtain⟨p,hp,rfl⟩:=List.mem_map.mp hr;exact hl p hp) (fun r hr=>by
  obtain⟨p,hp,rfl⟩:=List.mem_map.mp hr;exact hb p hp) hB hBe (fun k hk=>hbn k (by omega)) (by omega)
 refine⟨S,?_,G⟩
 unfold z0N z2r
 have z:z0e 2 [] (iZip (fN 0) (fN 1)) (Tg.many [0,1]) fYes (fOp z0y (fBlt bLst (z01 (fN 0) fNil)) (fBlt bLst (z01 (fN 1) fNil))) [.sh false (TTu bills),.sh false (LL tags)]=some (.nw,LL ((bills.zip tags).map fun p=>p.1++p.2)):=by
  rw[z0j (e:=fun p:List Int×List Int => .tup [T p.1,L p.2]) (h:=fun p=>L (p.1++p.2)) (xs:=bills.zip tags) (by simp[cOf,hlt,z49]) (fun p hp=>by
   have h1:=hl p hp
   have c:=z9T p.1 p.2 (by simp at h1;omega)
   simp[cOf,c])]
  simp[LL]
 simp[cOf,z,q]
theorem z6H{n e B:Nat}(k:Int)(bills:List (List Int))(hn:n+bills.length≤20)(he:e≤8990)(hl:∀ r∈bills,r.length=n)(hb:∀ r∈bills,St.Lt B r)(hB:1<B)(hBe:B≤2 ^ e)(hbn:∀ k,k≤bills.length→St.bnd k B+1≤2 ^ e):
  ∃ S,z11 [z0o k bills]=some (LL S)∧St.Good (n+bills.length) B (St.z5d bills) S:=by
 have ht:((List.range bills.length).map (St.z1Z bills.length)).length=bills.length:=by simp
 have hz:∀ p∈bills.zip ((List.range bills.length).map (St.z1Z bills.length)),p.1∈bills∧∃ j,p.2=St.z1Z bills.length j:=fun p hp=>by
  refine⟨(List.of_mem_zip hp).1,?_⟩
  obtain⟨j,_,e⟩:=List.mem_map.mp (List.of_mem_zip hp).2
  exact⟨j,e.symm⟩
 obtain⟨S,q,G⟩:=z9b (n:=n+bills.length) (e:=e) (B:=B) hn he bills ((List.range bills.length).map (St.z1Z bills.length)) ht.symm (fun p hp=>by
  obtain⟨h1,j,h2⟩:=hz p hp
  rw[List.length_append,h2,St.zbA,hl _ h1]) (fun p hp=>by
  obtain⟨h1,j,h2⟩:=hz p hp
  intro i
  rw[St.z5W (hl _ h1),h2,St.z7e]
  split
  · exact hb _ h1 i
  · split<;>simp<;>omega) (by omega) hBe hbn (by omega)
 have e0:=zd2 bills.length 0 bills
 rw[←List.range_eq_range']at e0
 rw[e0]at G
 refine⟨S,?_,G⟩
 have z:z0e 1 [1] (z0l (fN 1)) (Tg.one 0) fYes (z06 true z26 (z01 (fN 1) (z01 (fN 0) fNil))) [.sh false (z0o k bills),.sh true (.int bills.length)]=some (.nw,LL ((List.range bills.length).map (St.z1Z bills.length))):=by
  rw[z0j (e:=fun(k:Nat) => .int (0+(k:Int))) (h:=fun k=>L (St.z1Z bills.length k)) (xs:=List.range bills.length) (by simp[cOf,y13 bills.length (by omega),z0G]) (fun j _=>by
    have u:=z8R bills.length j (by omega)
    simp[cOf,u])]
  simp[LL]
 unfold z11 z2s
 simp[cOf,z,q]
theorem z7m(S:List (List Int))(n:Nat):z0U [LL S,.int n]=some (LL (St.bots n S)):=by
 have q:z0e 1 [1] (iSeq (fN 0)) (Tg.one 0) (z0n (fOp opGe (z06 true z0k (z01 (fN 0) fNil)) (fN 1))) (fSl (fN 0) (z1G (fN 1)) z0L) [.sh false (LL S),.sh false (.int n)]=some (.nw,.lst ((S.filter fun r=>!decide (St.z02 r<n)).map fun r=>L (r.drop n))) :=
  z73 (e:=L) (h:=fun r=>L (r.drop n)) (p:=fun r=>!decide (St.z02 r<n)) (xs:=S) (by simp[cOf]) (fun r hr=>by
   by_cases h:St.z02 r<n
   · simp[cOf,z12,h]
   · simp[cOf,z12,h];omega) (fun r hr _=>by
   simp[cOf,z5b,z1J])
 unfold z0U z2K
 simp[cOf,q,St.bots]
structure Hall(n:Nat)(bills:List (List Int)):Prop where
 n1:1≤n
 n6:n≤6
 m8:bills.length≤8
 wide:∀ r∈bills,r.length=n
 small:∀ r∈bills,∀ x∈r,x.natAbs<10 ^ 30
theorem Hall.lt{n:Nat}{bills:List (List Int)}(H:Hall n bills):∀ r∈bills,St.Lt (10 ^ 30) r:=fun r hr=>St.z4c (by decide) (H.small r hr)
theorem zfp{n:Nat}{bills:List (List Int)}(H:Hall n bills):∃ S,z66 [z0o n bills]=some (LL S)∧St.Good n (10 ^ 30) bills S∧∀ r∈S,St.Lt (2 ^ 900) r:=by
 have m8:=H.m8
 have n6:=H.n6
 obtain⟨S,es,G⟩:=zmz (n:=n) (e:=900) (B:=10 ^ 30) n bills (by omega) (by omega) H.wide H.lt (by decide) (by decide) (fun k hk=>St.zjV k (by omega)) (by omega)
 have:=G.len
 exact⟨S,es,G,fun r hr=>(G.small H.lt (by decide) r hr).mono (St.zjV _ (by omega))⟩
theorem tag_lt{n:Nat}{bills:List (List Int)}(H:Hall n bills):∀ r∈St.z5d bills,St.Lt (10 ^ 30) r:=fun r hr=>by
 obtain⟨b,hb,j,rfl⟩:=St.zdR _ hr
 intro i
 rw[St.z5W (H.wide b hb),St.z7e]
 split
 · exact H.lt b hb i
 · split<;>simp
theorem zla{n:Nat}{bills:List (List Int)}(H:Hall n bills):∃ S,z11 [z0o n bills]=some (LL S)∧St.Tag n bills S∧∀ r∈S,St.Lt (2 ^ 900) r:=by
 have m8:=H.m8
 have n6:=H.n6
 obtain⟨S,es,G⟩:=z6H (n:=n) (e:=900) (B:=10 ^ 30) n bills (by omega) (by omega) H.wide H.lt (by decide) (by decide) (fun k hk=>St.zjV k (by omega))
 have:=G.len
 rw[St.z5e]at this
 exact⟨S,es,G.tag H.wide,fun r hr=>(G.small (tag_lt H) (by decide) r hr).mono (St.zjV _ (by omega))⟩
theorem hd_lt{n e:Nat}{S:List (List Int)}(A:St.Asc n 0 S)(h:∀ r∈S,St.Lt (2 ^ e) r):∀ r∈S,St.hd r<2 ^ e:=fun r hr=>by
 have h1:=h r hr (St.z02 r)
 have h3:(St.hd r).natAbs<2 ^ e:=h1
 have:((2 ^ e:Nat):Int)=(2:Int) ^ e:=by norm_cast
 omega
theorem zmA{n e s:Nat}{S:List (List Int)}{v:List Int}(A:St.Asc n 0 S)(h:∀ r∈S,St.Lt (2 ^ e) r)(he:e≤8990)(hv:v.length=n)(hs:St.Lt (2 ^ s) v)(h20:S.length≤20)(hsl:s≤1000000):
  (∀ r∈S,r.length=n∧St.z02 r<n∧0<St.hd r∧St.hd r<2 ^ 9000)∧St.LowB (s+20*(e+1)) v S∧2*(s+20*(e+1))≤134217728∧S.length≤1000∧St.Lt (2 ^ (s+20*(e+1))) (St.z0f v S):=by
 have hm:S.length*(e+1)≤20*(e+1):=Nat.mul_le_mul_right _ h20
 obtain⟨z1,z2⟩:=St.z2b (n:=n) (t:=0) (s:=s) (e:=e) (m:=s+20*(e+1)) (S:=S) (left:=v) (fun r hr=>⟨(A.mem hr).1,(A.mem hr).2.2.2⟩) hv (fun k hk=>by omega) (fun r hr _=>h r hr) hs (by omega) (by omega)
 exact⟨z7l A (hd_lt A h) he,z2,by omega,by omega,z1.mono (Nat.pow_le_pow_right (by decide) (by omega))⟩
theorem zfq(n:Nat)(bills:List (List Int))(one other uses:List Int)(hn:n≤1000)(hm:bills.length≤1000)(h1:one.length=n)(hw:Wide n bills)(hl:bills.length=uses.length)(h:∀ r∈bills,∀ c∈uses,∀ x∈r,z18 c x=true):z4k [LL bills,L one,L other,L uses]=some (.bl (decide (addR one (mixR n bills uses)=other))):=by
 have e1:=z8Q uses uses.length
 have e2:=zea n bills uses hn hm hw hl h
 have hml:(mixR n bills uses).length=n:=z75 hw
 have e3:=z8h one (mixR n bills uses) 1 (by omega) (by omega) (fun x _=>z2k (by decide))
 rw[zk1]at e3
 have e4:=zkS (addR one (mixR n bills uses)) other
 unfold z4k z8g
 simp[cOf,e1,hl,h1,e2,e3,e4]
theorem copies(bills:List (List Int))(ρ:Rho)(F:FE)(f:Fl)(h:F ρ=some (f,LL bills)):z0e 1 [] (iSeq F) (Tg.one 0) fYes (fBlt bLst (z01 (fN 0) fNil)) ρ=some (.nw,LL bills) :=
 z0j (e:=L) (h:=L) (xs:=bills) (by unfold iSeq;rw[h];rfl) (fun x hx=>by simp[cOf])
theorem zfr(ns:List Int):Hall (z1k ns) (z2l ns):=⟨(z6z ns).1,(z6z ns).2,by rw[zdL];exact zbt ns,zcL ns,zfa ns⟩
theorem Hall.made{n:Nat}{bills:List (List Int)}(H:Hall n bills):z4e [.int n,LL bills]=some (z0o n bills):=zfl n bills H.n1 H.n6 H.m8 H.wide H.small
structure Bask(n:Nat)(bills:List (List Int))(one other:List Int)(b:Bool):Prop where
 l1:one.length=n
 l2:other.length=n
 s1:St.Lt (2 ^ 100) one
 s2:St.Lt (2 ^ 210) other
 sp:b=true→∃ uses:List Int,uses.length=bills.length∧(∀ x∈uses,x.natAbs<10 ^ 30)∧other=addR one (mixR n bills uses)
theorem zmB{a b:List Int}{s:Nat}(h:a.length=b.length)(ha:St.Lt (2 ^ s) a)(hb:St.Lt (2 ^ s) b):St.Lt (2 ^ (s+1)) (addR a b):=fun k=>by
 rw[z4N h,Nat.pow_succ]
 have:=ha k
 have:=hb k
 omega +splitDisjunctions
theorem mix_lt{n:Nat}{bills:List (List Int)}{uses:List Int}(H:Hall n bills)(hu:∀ x∈uses,x.natAbs<10 ^ 30):St.Lt (2 ^ 205) (mixR n bills uses):=fun k=>by
 rw[za7 H.wide]
 have q:=St.z9h (N:=10 ^ 30) (B:=10 ^ 30) (R:=bills) (cs:=uses) H.lt (fun c hc=>Nat.le_of_lt (hu c hc)) k
 have m8:=H.m8
 have:bills.length*(10 ^ 30*10 ^ 30)≤8*(10 ^ 30*10 ^ 30):=Nat.mul_le_mul_right _ m8
 have:8*(10 ^ 30*10 ^ 30)<2 ^ 205:=by decide
 omega
theorem zmC{k:Int}(h0:0≤k)(h3:k<3):atI [Dt.int 0,Dt.int 1,Dt.int 2] k=some (.int k):=by
 have:k=0∨k=1∨k=2:=by omega
 rcases this with rfl|rfl|rfl<;>rfl
abbrev BkT:FT:=z0n (fOp opEq (fOp z1n (z06 true z0t (z01 (fN 0) (z01 (fC (.int 4)) fNil))) (fC (.int 2))) (fC (.int 1)))
abbrev BkI:FS:=(sSeq (sSet [] 5 (z06 true z2u (z01 (fN 0) (z01 (fC (.int 52)) (z01 (fBlt bLen (z01 (fN 2) fNil)) (z01 (fOp z1n (z06 true z0t (z01 (fN 0) (z01 (fC (.int 7)) fNil))) (fC (.int 2))) fNil))))))
 (sSet [] 4 (z06 true z3D (z01 (fN 3) (z01 (z06 true z6a (z01 (fN 1) (z01 (fN 2) (z01 (fN 5) fNil)))) (z01 (fC (.int 1)) fNil))))))
abbrev BkR:FS:=(sRet (fTup (z01 (fN 3) (z01 (fN 4) (z01 (fOp opEq (fOp z1n (z06 true z0t (z01 (fN 0) (z01 (fC (.int 4)) fNil))) (fC (.int 2))) (fC (.int 1))) fNil)))))
theorem zd3(ns:List Int){n:Nat}{bills:List (List Int)}(H:Hall n bills):∃ one other b,z5u [.scr ns,.int n,LL bills]=some (.tup [L one,L other,.bl b])∧Bask n bills one other b:=by
 have n6:=H.n6
 have m8:=H.m8
 have c4:=z14 ns 4 (by decide)
 have c5:=z14 ns 5 (by decide)
 have c6:=z14 ns 6 (by decide)
 have c7:=z14 ns 7 (by decide)
 have r5:=z0T (z0i ns 5) (show(0:Int)<3 by decide)
 have r6:=z0T (z0i ns 6) (show(0:Int)<3 by decide)
 have r7:=z0T (z0i ns 7) (show(0:Int)<2 by decide)
 have e1:=z7j ns 40 n ((z0i ns 5).fmod 3) (by decide) (by omega) r5.1 r5.2
 have e2:=z7j ns 46 n ((z0i ns 6).fmod 3) (by decide) (by omega) r6.1 r6.2
 have e3:=z7j ns 52 bills.length ((z0i ns 7).fmod 2) (by decide) (by omega) (by omega) (by omega)
 have l1:=z5T ns 40 n ((z0i ns 5).fmod 3)
 have l2:=z5T ns 46 n ((z0i ns 6).fmod 3)
 have l3:=z5T ns 52 bills.length ((z0i ns 7).fmod 2)
 have b1:=z77 ns 40 n ((z0i ns 5).fmod 3)
 have b2:=z77 ns 46 n ((z0i ns 6).fmod 3)
 have b3:=z77 ns 52 bills.length ((z0i ns 7).fmod 2)
 generalize z4a ns 40 n ((z0i ns 5).fmod 3)=one at *
 generalize z4a ns 46 n ((z0i ns 6).fmod 3)=other at *
 generalize z4a ns 52 bills.length ((z0i ns 7).fmod 2)=uses at *
 have a5:=zmC r5.1 r5.2
 have a6:=zmC r6.1 r6.2
 have m5:z3I (z0i ns 5) 3=true:=z2G (by decide)
 have m6:z3I (z0i ns 6) 3=true:=z2G (by decide)
 have m7:z3I (z0i ns 7) 2=true:=z2G (by decide)
 have m4:z3I (z0i ns 4) 2=true:=z2G (by decide)
 have s1:St.Lt (2 ^ 100) one:=(St.z4c (by decide) b1).mono (by decide)
 have s2:St.Lt (2 ^ 210) other:=(St.z4c (by decide) b2).mono (by decide)
 have pre:∀{r:Option Oc},sSeq (sIf BkT BkI z0A) BkR [.sh false (.scr ns),.sh false (.int n),.sh false (LL bills),.sh true (L one),.sh true (L other),.no]=r→z31 (rho0 6 [.scr ns,.int n,LL bills])=r:=fun h=>run (ρ':=[.sh false (.scr ns),.sh false (.int n),.sh false (LL bills),.sh true (L one),.no,.no]) (by simp[cOf,c5,m5,a5,e1]) (run (ρ':=[.sh false (.scr ns),.sh false (.int n),.sh false (LL bills),.sh true (L one),.sh true (L other),.no]) (by simp[cOf,c6,m6,a6,e2]) h)
 have tst:BkT [.sh false (.scr ns),.sh false (.int n),.sh false (LL bills),.sh true (L one),.sh true (L other),.no]=some (decide ((z0i ns 4).fmod 2=1)):=by simp[cOf,c4,m4,z0M]
 by_cases h4:(z0i ns 4).fmod 2=1
 · have sm:=zea n bills uses (by omega) (by omega) H.wide (by omega) (fun r hr c hc x hx=>mul30 (b3 c hc) (H.small r hr x hx))
   have hml:(mixR n bills uses).length=n:=z75 H.wide
   have pl:=z8h one (mixR n bills uses) 1 (by omega) (by omega) (fun x _=>z2k (by decide))
   rw[zk1]at pl
   rw[decide_eq_true h4]at tst
   refine⟨one,addR one (mixR n bills uses),true,?_,l1,by rw[z2m (by omega)];exact l1,s1,?_,fun _=>⟨uses,l3,b3,rfl⟩⟩
   · have st:sIf BkT BkI z0A [.sh false (.scr ns),.sh false (.int n),.sh false (LL bills),.sh true (L one),.sh true (L other),.no]=some (.nx [.sh false (.scr ns),.sh false (.int n),.sh false (LL bills),.sh true (L one),.sh true (L (addR one (mixR n bills uses))),.sh true (L uses)]):=by
      unfold sIf
      rw[tst]
      exact run (ρ':=[.sh false (.scr ns),.sh false (.int n),.sh false (LL bills),.sh true (L one),.sh true (L other),.sh true (L uses)]) (by simp[cOf,c7,m7,e3]) (by simp[cOf,sm,pl])
     have q:∃ f,z31 (rho0 6 [.scr ns,.int n,LL bills])=some (.rt f (.tup [L one,L (addR one (mixR n bills uses)),.bl true]))∧(f.isFr||(Dt.tup [L one,L (addR one (mixR n bills uses)),.bl true]).flat)=true:=⟨.fr,pre (run st (by simp[cOf,c4,m4,z0M,h4])),rfl⟩
     obtain⟨f,q1,q2⟩:=q
     exact z3K rfl q1 q2
   · exact(zmB (by omega) (s1.mono (by decide:2 ^ 100≤2 ^ 205)) (mix_lt H b3)).mono (by decide)
 · rw[decide_eq_false h4]at tst
   refine⟨one,other,false,?_,l1,l2,s1,s2,fun h=>(nomatch h)⟩
   have st:sIf BkT BkI z0A [.sh false (.scr ns),.sh false (.int n),.sh false (LL bills),.sh true (L one),.sh true (L other),.no]=some (.nx [.sh false (.scr ns),.sh false (.int n),.sh false (LL bills),.sh true (L one),.sh true (L other),.no]):=by
     unfold sIf
     rw[tst]
     rfl
   have q:∃ f,z31 (rho0 6 [.scr ns,.int n,LL bills])=some (.rt f (.tup [L one,L other,.bl false]))∧(f.isFr||(Dt.tup [L one,L other,.bl false]).flat)=true:=⟨.fr,pre (run st (by simp[cOf,c4,m4,z0M,h4])),rfl⟩
   obtain⟨f,q1,q2⟩:=q
   exact z3K rfl q1 q2
theorem Bask.span{n:Nat}{bills:List (List Int)}{one other:List Int}{b:Bool}(q:Bask n bills one other b)(H:Hall n bills)(hb:b=true):Lat.Span (St.vecs bills) (fun k=>St.at0 other k-St.at0 one k):=by
 obtain⟨uses,h1,_,h2⟩:=q.sp hb
 refine Lat.Span.congr (fun k=>?_) (St.zfe (R:=bills) uses)
 have hml:(mixR n bills uses).length=n:=z75 H.wide
 rw[h2,z4N (by rw[hml];exact q.l1),za7 H.wide]
 omega
theorem zd4:∀(R:List (List Int)) (c:List Int) (k:Nat),St.mix R (sclR (-1) c) k = -(St.mix R c k)
 | [],c,k=>by simp[St.mix]
 | r::R,[],k=>by simp[St.mix,sclR]
 | r::R,x::c,k=>by
  have ih:=zd4 R c k
  show(-1*x)*St.at0 r k+St.mix R (sclR (-1) c) k = -(x*St.at0 r k+St.mix R c k)
  rw[ih,Int.neg_mul,Int.one_mul,Int.neg_mul];omega
theorem z4T{n:Nat}{a b:List Int}(h:a.length=n)(k:Nat):St.at0 (a++b) k=if k<n then St.at0 a k else St.at0 b (k-n):=St.z5W h k
theorem zmD{n:Nat}{bills U:List (List Int)}(t:St.Tag n bills U){u c:List Int}(hu:u.length=n+bills.length)(hc:u.drop n=sclR (-1) c):Lat.Span (St.vecs U) (fun k=>St.at0 u k)↔∀ k,k<n→St.at0 u k = -(St.mix bills c k):=by
 rw[t.span.iff,St.zmn t.wide hu,hc]
 constructor
 · intro h k hk;rw[h k hk,zd4]
 · intro h k hk;rw[h k hk,zd4]
theorem zeb{n m:Nat}{back w:List Int}(hb:back.length=n)(hw:w.length=n+m):(St.sub (back++z0w m) 1 w).drop n=sclR (-1) (w.drop n):=by
 have hv:(back++z0w m).length=n+m:=by rw[List.length_append,hb,z1c]
 refine St.ext0 (by rw[List.length_drop,St.z23 (by omega),z0B,List.length_drop];omega) fun k=>?_
 rw[St.z2Y,St.z1R (by omega),z3c,St.z2Y,z4T hb,if_neg (by omega),z2d]
 omega
theorem zlb{n:Nat}{bills U:List (List Int)}(t:St.Tag n bills U){back:List Int}(hb:back.length=n)(hz:(St.z0f (back++z0w bills.length) U).take n=z0w n):∀ k,k<n→St.at0 back k = -(St.mix bills ((St.z0f (back++z0w bills.length) U).drop n) k):=by
 have hv:(back++z0w bills.length).length=n+bills.length:=by rw[List.length_append,hb,z1c]
 have hw:=St.z1K t.asc hv
 have sp:=St.z1t t.asc hv
 generalize St.z0f (back++z0w bills.length) U=w at *
 have hs:(St.sub (back++z0w bills.length) 1 w).length=n+bills.length:=by rw[St.z23 (by omega)];exact hv
 have q:=(zmD t hs (zeb hb hw)).mp (Lat.Span.congr (fun k=>by rw[St.z1R (by omega)];omega) sp)
 intro k hk
 have h1:=q k hk
 have h2:St.at0 w k=0:=by
  have:=congrArg (fun r=>St.at0 r k) hz
  simp only[St.z1C,if_pos hk,z2d]at this
  exact this
 rw[St.z1R (by omega),z4T hb,if_pos hk,h2]at h1
 omega
theorem zmE{n:Nat}{bills U:List (List Int)}(t:St.Tag n bills U){back:List Int}(hb:back.length=n)(hs:Lat.Span (St.vecs bills) (fun k => -(St.at0 back k))):(St.z0f (back++z0w bills.length) U).take n=z0w n:=by
 have hv:(back++z0w bills.length).length=n+bills.length:=by rw[List.length_append,hb,z1c]
 obtain⟨c,hc,ec⟩:=St.z3L hs
 have hzl:(z0w n:List Int).length=n:=z1c
 have hz:(z0w n++c).length=n+bills.length:=by rw[List.length_append,hzl,hc]
 have hd:(St.sub (back++z0w bills.length) 1 (z0w n++c)).drop n=sclR (-1) c:=by
   rw[zeb hb hz]
   congr 1
   rw[List.drop_append,hzl];simp[List.drop_eq_nil_of_le (show(z0w n).length≤n by rw[z1c];exact Nat.le_refl n)]
 have hl:(St.sub (back++z0w bills.length) 1 (z0w n++c)).length=n+bills.length:=by rw[St.z23 (by omega)];exact hv
 have sp:=(zmD t hl hd).mpr (fun k hk=>by
   have:=ec k
   rw[St.z1R (by omega),z4T hb,if_pos hk,z4T hzl,if_pos hk,z2d]
   omega)
 have e:=St.zdS t.asc hv hz (Lat.Span.congr (fun k=>by rw[St.z1R (by omega)];omega) sp)
 have z:=(St.z5c (n:=n+bills.length) (t:=n) (S:=U) (left:=z0w n++c) (fun r hr=>(t.asc.mem hr).1) hz (fun k hk=>by rw[z4T hzl,if_pos hk,z2d])).1
 rw[e]
 refine St.ext0 (by rw[List.length_take,St.z1K t.asc hz,z1c];omega) fun k=>?_
 rw[St.z1C,z2d]
 split
 · exact z k ‹_›
 · rfl
theorem zfs{n s:Nat}{bills U:List (List Int)}(H:Hall n bills)(eu:z11 [z0o n bills]=some (LL U))(t:St.Tag n bills U)(sU:∀ r∈U,St.Lt (2 ^ 900) r)(one other:List Int)(h1:one.length=n)(h2:other.length=n)(s1:St.Lt (2 ^ s) one)(s2:St.Lt (2 ^ s) other)(hs:s≤100000):
   z68 [z0o n bills,L one,L other]=some (if(St.z0f (sclR (-1) (subR other one)++z0w bills.length) U).take n=z0w n then L ((St.z0f (sclR (-1) (subR other one)++z0w bills.length) U).drop n) else .non):=by
 have n6:=H.n6
 have m8:=H.m8
 have hsb:(subR other one).length=n:=by rw[z74 (by omega)];exact h2
 have ap:=ze5 n bills one other h1 h2
 have sc:=z1U (subR other one) (-1) (fun x _=>z2k (by decide))
 have hb:(sclR (-1) (subR other one)).length=n:=by rw[z0B];exact hsb
 have sb:St.Lt (2 ^ (s+1)) (sclR (-1) (subR other one)):=fun k=>by
   rw[z3c,z5i (by omega),Nat.pow_succ]
   have:=s1 k
   have:=s2 k
   omega
 generalize sclR (-1) (subR other one)=back at *
 have hv:(back++z0w bills.length).length=n+bills.length:=by rw[List.length_append,hb,z1c]
 have sv:St.Lt (2 ^ (s+1)) (back++z0w bills.length):=fun k=>by
   rw[z4T hb]
   split
   · exact sb k
   · rw[z2d];exact Nat.pow_pos (by decide)
 have full:=t.full
 obtain⟨o1,o2,o3,o4,_⟩:=zmA t.asc sU (by decide) hv sv (by omega) (by omega)
 have lw:=z4S (L (back++z0w bills.length)) (back++z0w bills.length) U (.inl rfl) o3 o1 hv o2 o4
 have no:=zaf bills.length (by omega)
 have nt:=zl5 n bills (by omega)
 have cat:z0y (L back) (L (z0w bills.length))=some (.nw,L (back++z0w bills.length)):=z9T back (z0w bills.length) (by rw[hb,z1c];omega)
 generalize St.z0f (back++z0w bills.length) U=w at *
 have ct:=z9S (w.map Dt.int) n
 have cf:=z5b (w.map Dt.int) n
 have ne:=zkT (w.take n) (z0w n)
 have t1:newL ((w.map Dt.int).take n)=(.nw,L (w.take n)):=z3w w n
 have t2:newL ((w.map Dt.int).drop n)=(.nw,L (w.drop n)):=z1J w n
 unfold z68 z8c
 by_cases h:w.take n=z0w n
 · rw[h]at ne t1
   simp[cOf,ap,sc,no,cat,eu,lw,nt,ct,cf,t1,t2,ne,h]
 · rw[decide_eq_false h]at ne
   simp[cOf,ap,sc,no,cat,eu,lw,nt,ct,cf,t1,t2,ne,h]
theorem zft{n:Nat}{bills:List (List Int)}{one other:List Int}{bb:Bool}(H:Hall n bills)(K:Bask n bills one other bb):
   (∃ us,z8d [z0o n bills,L one,L other]=some (L us)∧z4k [LL bills,L one,L other,L us]=some (.bl true)∧Lat.Span (St.vecs bills) (fun k=>St.at0 other k-St.at0 one k)) ∨
   (z8d [z0o n bills,L one,L other]=some .non∧¬Lat.Span (St.vecs bills) (fun k=>St.at0 other k-St.at0 one k)):=by
 have n6:=H.n6
 have m8:=H.m8
 obtain⟨U,eu,t,sU⟩:=zla H
 have l1:=K.l1
 have l2:=K.l2
 have se:=zfs (s:=210) H eu t sU one other l1 l2 (K.s1.mono (by decide)) K.s2 (by decide)
 have hsb:(subR other one).length=n:=by rw[z74 (by omega)];exact l2
 have hb:(sclR (-1) (subR other one)).length=n:=by rw[z0B];exact hsb
 have hv:(sclR (-1) (subR other one)++z0w bills.length).length=n+bills.length:=by rw[List.length_append,hb,z1c]
 have hw:=St.z1K t.asc hv
 have full:=t.full
 have sv:St.Lt (2 ^ 211) (sclR (-1) (subR other one)++z0w bills.length):=fun k=>by
   rw[z4T hb]
   split
   · rw[z3c,z5i (by omega),show 211=210+1 from rfl,Nat.pow_succ]
     have:=K.s1.mono (show 2 ^ 100≤2 ^ 210 by decide) k
     have:=K.s2 k
     omega
   · rw[z2d];exact Nat.pow_pos (by decide)
 obtain⟨_,_,_,_,o5⟩:=zmA t.asc sU (by decide) hv sv (by omega) (by decide)
 have ld0:=fun hz=>zlb t hb hz
 have so:=fun hs=>zmE t hb hs
 have hk:∀ k,St.at0 (sclR (-1) (subR other one)) k = -(St.at0 other k-St.at0 one k):=fun k=>by rw[z3c,z5i (by omega)];omega
 generalize sclR (-1) (subR other one)=back at *
 generalize St.z0f (back++z0w bills.length) U=w at *
 by_cases hz:w.take n=z0w n
 · rw[if_pos hz]at se
   have lu:(w.drop n).length=bills.length:=by rw[List.length_drop];omega
   have su:St.Lt (2 ^ (211+20*(900+1))) (w.drop n):=fun k=>by rw[St.z2Y];exact o5 _
   have ld:=zfq n bills one other (w.drop n) (by omega) (by omega) l1 H.wide lu.symm (fun r hr c hc x hx=>z3j (zmu su c hc) (lt30 (H.small r hr x hx)) (by decide))
   have hml:(mixR n bills (w.drop n)).length=n:=z75 H.wide
   have sp:∀ k,k<n→St.at0 other k-St.at0 one k=St.mix bills (w.drop n) k:=fun k hkn=>by
     have:=ld0 hz k hkn
     rw[hk]at this
     omega
   have ho:addR one (mixR n bills (w.drop n))=other:=St.ext0 (by rw[z2m (by omega)];omega) fun k=>by
     rw[z4N (by omega),za7 H.wide]
     by_cases hkn:k<n
     · have:=sp k hkn;omega
     · rw[St.zcM H.wide k (by omega),St.z0Y (by omega),St.z0Y (by omega)];rfl
   rw[decide_eq_true ho]at ld
   refine .inl ⟨w.drop n,?_,ld,Lat.Span.congr (fun k=>?_) (St.zfe (w.drop n))⟩
   · generalize w.drop n=us at *
     unfold z8d zcW
     simp[cOf,se]
   · by_cases hkn:k<n
     · exact(sp k hkn).symm
     · rw[St.zcM H.wide k (by omega),St.z0Y (by omega),St.z0Y (by omega)];rfl
 · rw[if_neg hz]at se
   refine .inr ⟨?_,fun hs=>hz (so (Lat.Span.congr (fun k=>by rw[hk];omega) hs))⟩
   unfold z8d zcW
   simp[cOf,se]
theorem zk7(a p:Int)(hp:0<p):z5n [.int a,.int p]=some (.int (a.fmod p)):=by
 unfold z5n zcT
 simp[cOf,z0M,show ¬p=0 by omega,z2G hp]
def rstR(p:Int)(r:List Int):List Int:=r.map (·.fmod p)
theorem z7n(p:Int)(r:List Int):(rstR p r).length=r.length:=by simp[rstR]
theorem z9k(p:Int)(r:List Int)(k:Nat):St.at0 (rstR p r) k=St.at0 r k-p*(St.at0 r k).fdiv p:=by
 have e:St.at0 (rstR p r) k=(St.at0 r k).fmod p:=by
  unfold St.at0 rstR
  by_cases h:k<r.length
  · simp[List.getD,List.getElem?_eq_getElem h]
  · simp[List.getD,List.getElem?_eq_none (Nat.le_of_not_lt h)]
 rw[e,Int.fmod_def]
theorem zfu{p:Int}(hp:0<p){r:List Int}:∀ x∈rstR p r,0≤x∧x<p:=fun x hx=>by
 obtain⟨y,_,rfl⟩:=List.mem_map.mp hx
 exact⟨Int.fmod_nonneg_of_pos y hp,Int.fmod_lt_of_pos y hp⟩
theorem z7o(r:List Int)(p:Int)(hp:0<p):z2T [L r,.int p]=some (L (rstR p r)):=by
 unfold z2T zcV
 have q:z0e 1 [1] (iSeq (fN 0)) (Tg.one 0) fYes (z06 true z5n (z01 (fN 0) (z01 (fN 1) fNil))) [.sh false (L r),.sh false (.int p)]=some (.nw,L (rstR p r)):=by
  rw[z0j (e:=Dt.int) (h:=fun x => .int (x.fmod p)) (xs:=r) (by simp[cOf]) (fun x _=>by
   have:=zk7 x p hp
   simp[cOf,this])]
  simp[rstR,L]
 simp[cOf,q]
theorem z8i(A:List (List Int))(m:Nat)(h:∀ r∈A,r.length=m)(hm:m≤1000):z30 [LL A,.int m]=some (LL (St.trn m A)):=by
 unfold z30 zad
 have q:z0e 1 [0] (z0l (fN 1)) (Tg.one 0) fYes (z0e 1 [0] (iSeq (fN 1)) (Tg.one 0) fYes (fAt (fN 0) (fN 1))) [.sh false (LL A),.sh false (.int m)]=some (.nw,LL (St.trn m A)):=by
  rw[z0j (e:=fun(k:Nat) => .int (0+(k:Int))) (h:=fun k=>L (A.map fun r=>St.at0 r k)) (xs:=List.range m) (by simp[cOf,y13 m (by omega),z0G]) (fun k hk=>by
   have hk:=List.mem_range.mp hk
   have i:z0e 1 [0] (iSeq (fN 1)) (Tg.one 0) fYes (fAt (fN 0) (fN 1)) [.sh false (.int (k:Int)),.sh false (LL A)]=some (.nw,L (A.map fun r=>St.at0 r k)):=by
    rw[z0j (e:=L) (h:=fun r => .int (St.at0 r k)) (xs:=A) (by simp[cOf]) (fun r hr=>by
     have e:atI (r.map Dt.int) ((k:Nat):Int)=some (.int (St.at0 r k)):=by
      rw[z3v,z1I 0 (by rw[h r hr];exact hk)];rfl
     simp[cOf,e])]
    simp[L]
   simp[cOf,i])]
  simp[St.trn,LL]
 simp[cOf,q]
abbrev SF:FS:=(sIf (fOr (z0n (fOp opNe (z06 true z0k (z01 (fN 2) fNil)) (fN 1))) (fTru (fBlt bAny (z01 (z0e 1 [] (iSeq (fSl (fN 2) (z1G (fOp z0y (fN 1) (fC (.int 1)))) z0L)) (Tg.one 0) fYes (fOp opNe (fN 0) (fC (.int 0)))) fNil)))) (sRet (fC (.bl false))) z0A)
def z6o(p:Nat×List Int):Prop:=St.z02 p.2=p.1∧∀ x∈p.2.drop (p.1+1),x=0
theorem cut1{α:Type}(xs:List α)(j:Nat):cutD xs (some ((j:Int)+1)) none=xs.drop (j+1):=by
 have:=z5b xs (j+1)
 rwa [show(((j+1:Nat)):Int)=(j:Int)+1 by omega]at this
theorem zap(c0 c1 c2:Cell)(p:Nat×List Int):(¬z6o p→(Tg.put (Tg.many [1,2]) (.tup [.int p.1,L p.2]) [c0,c1,c2]).bind SF=some (.rt .nw (.bl false)))∧(z6o p→(Tg.put (Tg.many [1,2]) (.tup [.int p.1,L p.2]) [c0,c1,c2]).bind SF=some (.nx [c0,.sh false (.int p.1),.sh false (L p.2)])):=by
 obtain⟨j,r⟩:=p
 have cm:z0e 1 [] (iSeq (fSl (fN 2) (z1G (fOp z0y (fN 1) (fC (.int 1)))) z0L)) (Tg.one 0) fYes (fOp opNe (fN 0) (fC (.int 0))) [c0,.sh false (.int j),.sh false (L r)]=some (.nw,.lst ((r.drop (j+1)).map fun x => .bl (!decide (x=0)))):=by
   rw[z0j (e:=Dt.int) (h:=fun x => .bl (!decide (x=0))) (xs:=r.drop (j+1)) (by
    simp[cOf,cut1,z1J,List.map_drop]) (fun x _=>by simp[cOf,z0H])]
 have e:=z5S (fun x:Int=>!decide (x=0)) (r.drop (j+1))
 have q:z6o (j,r)↔St.z02 r=j∧((r.drop (j+1)).map fun x=>!decide (x=0)).any id=false:=by
   unfold z6o
   refine and_congr_right fun _=>?_
   rw[List.any_map,List.any_eq_false]
   simp
 generalize (r.drop (j+1)).map (fun x=>Dt.bl (!decide (x=0)))=D at cm e
 generalize (r.drop (j+1)).map (fun x=>!decide (x=0))=bs at e q
 rw[q]
 by_cases hh:St.z02 r=j
 · cases hb:bs.any id with
   | true=>exact⟨fun _=>by simp[cOf,z12,z0H,hh,cm,bAny,e,hb],fun h=>by cases h.2⟩
   | false=>exact⟨fun h=>absurd ⟨hh,rfl⟩ h,fun _=>by simp[cOf,z12,z0H,hh,cm,bAny,e,hb]⟩
 · exact⟨fun _=>by simp[cOf,z12,z0H,show ¬((St.z02 r:Int)=(j:Int)) by omega],fun h=>absurd h.1 hh⟩
theorem z5x(A:List (List Int)):((∀ p∈z1r 0 A,z6o p)→z27 [LL A]=some (.bl true))∧((∃ p∈z1r 0 A,¬z6o p)→z27 [LL A]=some (.bl false)):=by
 have key:=zbG (g:=Tg.many [1,2]) (F:=SF) (fun p:Nat×List Int => .tup [.int p.1,L p.2]) (fun p=>¬z6o p) (fun j:Cell×Cell=>[.sh false (LL A),j.1,j.2]) .nw (.bl false) (z1r 0 A) (.no,.no)
   (fun p _ j hb=>(zap _ _ _ p).1 hb) (fun p _ j hb=>⟨(.sh false (.int p.1),.sh false (L p.2)),(zap _ _ _ p).2 (Classical.not_not.mp hb)⟩)
 rw[←z4m]at key
 constructor
 · intro h
   obtain⟨j,e⟩:=key.2 fun p hp (k:¬z6o p)=>k (h p hp)
   unfold z27 z4R
   simp[cOf,e]
 · intro h
   have e:=key.1 h
   unfold z27 z4R
   simp[cOf,e]
theorem zaq(A W:List (List Int)):St.pair A W=(A.zip W).map fun p=>p.1++p.2:=by
 unfold St.pair
 induction A generalizing W with
 | nil=>rfl
 | cons a A ih =>
  cases W with
  | nil=>rfl
  | cons b W=>rw[List.zipWith_cons_cons,List.zip_cons_cons,List.map_cons,ih]
theorem zar{n e eh B:Nat}(hn:n≤20)(he:eh≤8990)(hee:eh≤e)(he3:e≤33000)(A W:List (List Int))(hlt:A.length=W.length)(hl:∀ x∈St.pair A W,x.length=n)(hb:∀ x∈St.pair A W,St.Lt B x)(hB:0<B)(hBe:B≤2 ^ e)(hbn:∀ k,k≤A.length→St.bnd k B+1≤2 ^ e)
  (hH:∀ k S,k≤A.length→St.Good n B ((St.pair A W).take k) S→∀ r∈S,St.hd r<2 ^ eh) (h20:A.length≤20):∃ S,z0N [LL A,LL W]=some (LL S)∧St.Good n B (St.pair A W) S:=by
 have hlz:(St.pair A W).length=A.length:=St.z2q hlt
 obtain⟨S,q,G⟩:=z5w (n:=n) (e:=e) (eh:=eh) (B:=B) L (fun r => .inl rfl) hn he hee he3 (St.pair A W) (LL (St.pair A W)) (.inl rfl) hl hb hB hBe (fun k hk=>hbn k (by omega)) (fun k S hk=>hH k S (by omega)) (by omega)
 refine⟨S,?_,G⟩
 unfold z0N z2r
 have z:z0e 2 [] (iZip (fN 0) (fN 1)) (Tg.many [0,1]) fYes (fOp z0y (fBlt bLst (z01 (fN 0) fNil)) (fBlt bLst (z01 (fN 1) fNil))) [.sh false (LL A),.sh false (LL W)]=some (.nw,LL (St.pair A W)):=by
  rw[z0j (e:=fun p:List Int×List Int => .tup [L p.1,L p.2]) (h:=fun p=>L (p.1++p.2)) (xs:=A.zip W) (by simp[cOf,hlt,z49]) (fun p hp=>by
   have h1:=hl (p.1++p.2) (by rw[zaq];exact List.mem_map.mpr ⟨p,hp,rfl⟩)
   have c:=z9T p.1 p.2 (by simp at h1;omega)
   simp[cOf,c])]
  rw[zaq]
  simp[LL]
 simp[cOf,z,q]
theorem z3k:∀{j:Nat} {A:List (List Int)} {p:Nat×List Int},p∈z1r j A↔∃ i,i<A.length∧p=(j+i,A.getD i [])
 | j,[],p=>by simp[z1r]
 | j,r::A,p=>by
  rw[z1r,List.mem_cons,z3k]
  constructor
  · rintro(rfl|⟨i,hi,rfl⟩)
    · exact⟨0,by simp,rfl⟩
    · exact⟨i+1,by simpa using hi,by rw[show j+1+i=j+(i+1) by omega];rfl⟩
  · rintro⟨i,hi,rfl⟩
    cases i with
    | zero=>exact .inl rfl
    | succ i=>exact .inr ⟨i,by simpa using hi,by rw[show j+1+i=j+(i+1) by omega];rfl⟩
theorem z8j{r:Nat}{A:List (List Int)}(q:St.Sq r A):(∀ p∈z1r 0 A,z6o p)↔St.Clean r A:=by
 constructor
 · intro h i hi k hn
   have:=(h (0+i,A.getD i []) (z3k.mpr ⟨i,by rw[q.len];exact hi,rfl⟩)).2
   rcases Nat.lt_or_gt_of_ne hn with x|x
   · exact q.low x
   · by_cases hk:k<r
     · have hl:(A.getD i []).length=r:=q.rows _ (St.z1f (by rw[q.len];exact hi))
       refine this (St.ent A i k) (List.mem_of_getElem? (i:=k-(0+i+1)) ?_)
       show((A.getD i []).drop (0+i+1))[k-(0+i+1)]?=_
       rw[List.getElem?_drop,show 0+i+1+(k-(0+i+1))=k by omega,List.getElem?_eq_getElem (show k<(A.getD i []).length by rw[hl];exact hk)]
       have e:St.ent A i k=(A.getD i []).getD k 0:=rfl
       rw[e]
       simp[List.getD,List.getElem?_eq_getElem (show k<((A[i]?).getD []).length by have:=hl;simp only[List.getD]at this;rw[this];exact hk)]
     · exact q.far (by omega)
 · intro c p hp
   obtain⟨i,hi,rfl⟩:=z3k.mp hp
   rw[q.len]at hi
   refine⟨by show St.z02 (A.getD i [])=0+i;rw[q.head hi];omega,fun x hx=>?_⟩
   obtain⟨j,hj,rfl⟩:=List.getElem_of_mem hx
   rw[List.getElem_drop]
   have:=c i hi (0+i+1+j) (by omega)
   unfold St.ent St.at0 at this
   rw[List.length_drop]at hj
   have hj:0+i+1+j<(A.getD i []).length:=by have hj:j<(A.getD i []).length-(0+i+1):=hj;omega
   rw[List.getD,List.getElem?_eq_getElem hj]at this
   exact this
theorem bnd6(k:Nat)(h:k≤6):St.bnd k (2 ^ 5461)+1≤2 ^ 32900:=by
 have h1:=St.z7b (r:=k) (s:=6) (B:=2 ^ 5461) h (Nat.two_pow_pos _) (by decide)
 have h2:St.bnd 6 (2 ^ 5461)≤2 ^ 32826:=by
  unfold St.bnd
  have a:2*6*2 ^ 5461≤2 ^ 5465:=by
   rw[show(5465:Nat)=4+5461 from rfl,Nat.pow_add]
   exact Nat.mul_le_mul_right _ (by decide)
  have b:=Nat.pow_le_pow_left a 6
  rw[←Nat.pow_mul]at b
  have c:(2:Nat) ^ 32826=2 ^ (5465*6)*2 ^ (6*6):=by rw[←Nat.pow_add]
  rw[c]
  exact Nat.mul_le_mul_right _ b
 have h3:(2:Nat) ^ 32826<2 ^ 32900:=Nat.pow_lt_pow_right (by decide) (by decide)
 omega
structure Mb(r n:Nat)(w:Int):Prop where
 r6:r≤6
 n6:n≤6
 wp:0<w
 wb:w<2 ^ 5400
theorem Mb.lt{r n:Nat}{w x:Int}(b:Mb r n w)(h0:0≤x)(h1:x≤w):x.natAbs<2 ^ 5461:=by
 have:=b.wb
 have h:(2:Nat) ^ 5400≤2 ^ 5461:=Nat.pow_le_pow_right (by decide) (by decide)
 have c:((2 ^ 5400:Nat):Int)=(2:Int) ^ 5400:=by norm_cast
 omega
theorem Mb.hd{r n:Nat}{w x:Int}(b:Mb r n w)(h:x∣w):x<2 ^ 5400:=by
 have:=Int.le_of_dvd b.wp h
 have:=b.wb
 omega
abbrev GC:FT:=fNot (fTru (z06 true z27 (z01 (fN 4) fNil)))
abbrev GF:FS:=(sSeq (sSet [] 6 (z06 true z30 (z01 (z06 true z2f (z01 (z06 true z30 (z01 (fN 4) (z01 (fN 3) fNil))) fNil)) (z01 (fN 3) fNil))))
 (sSeq (sSet [] 7 (z06 true z0N (z01 (fN 6) (z01 (fN 5) fNil))))
 (sSeq (sSet [] 4 (z0e 1 [3] (iSeq (fN 7)) (Tg.one 0) fYes (fSl (fN 0) z0L (z1G (fN 1)))))
 (sSet [] 5 (z0e 1 [3,2] (iSeq (fN 7)) (Tg.one 0) fYes (z06 true z2T (z01 (fSl (fN 0) (z1G (fN 1)) z0L) (z01 (fN 2) fNil))))))))
structure Mw(r n:Nat)(w:Int)(G K A W:List (List Int)):Prop where
 m:St.Mst r n w G K A W
 wb:∀ x∈W,St.Lt (2 ^ 5461) x
theorem zfv{r n:Nat}{w:Int}{G K A W:List (List Int)}(b:Mb r n w)(I:Mw r n w G K A W)(c0 c1 c6 c7:Cell)(f2 f3 f4 f5:Bool):
   ∃ T A' W' f4' f5' c6' c7',GF [c0,c1,.sh f2 (.int w),.sh f3 (.int r),.sh f4 (LL A),.sh f5 (LL W),c6,c7]=some (.nx [c0,c1,.sh f2 (.int w),.sh f3 (.int r),.sh f4' (LL A'),.sh f5' (LL W'),c6',c7'])∧Mw r n w G K A' W'∧St.Sq r T∧Lat.SameSpan (St.vecs T) (St.vecs (St.trn r A))∧Lat.SameSpan (St.vecs A') (St.vecs (St.trn r T)):=by
 have r6:=b.r6
 have n6:=b.n6
 have q:=I.m.sq
 have wC:=I.m.whole
 have eA:=fun i k=>q.entryC wC b.wp i k
 have tl:(St.trn r A).length=r:=St.z0Z _ _
 have tr:∀ x∈St.trn r A,x.length=r:=fun x hx=>by rw[St.z3b hx,q.len]
 have B1:=q.below wC
 have mem_lt:∀{P:List (List Int)} {E:Nat},(∀ i k,(St.ent P i k).natAbs<E)→∀ x∈P,St.Lt E x:=fun{P E} h x hx k=>by
   obtain⟨i,hi,rfl⟩:=List.getElem_of_mem hx
   have:=h i k
   unfold St.ent at this
   rwa [show P.getD i []=P[i] by simp[List.getD,List.getElem?_eq_getElem hi]]at this
 have t1:=z8i A r q.rows (by omega)
 obtain⟨T,e1,G1⟩:=z5w (n:=r) (e:=32900) (eh:=5400) (B:=2 ^ 5461) L (fun r => .inl rfl) (by omega) (by decide) (by decide) (by decide) (St.trn r A) (LL (St.trn r A)) (.inl rfl) tr
   (mem_lt fun i k=>by rw[St.z1v q.rows];exact b.lt (eA k i).1 (eA k i).2) (Nat.two_pow_pos _) (Nat.pow_le_pow_right (by decide) (by decide)) (fun k hk=>bnd6 k (by omega))
   (fun k S hk G x hx=>b.hd (B1.heads (by omega) G.asc G.span hx).2) (by omega)
 obtain⟨l1,_⟩:=G1.sq B1
 have sT:St.Sq r T:=⟨G1.asc,G1.form,l1⟩
 have wT:St.z2p r w T:=fun i hi=>G1.span.iff.mpr (wC i hi)
 have eT:=fun i k=>sT.entry wT b.wp i k
 have t2:=z8i T r sT.rows (by omega)
 have wT2:=sT.comm wT
 have B2:=sT.below_pair wT2 I.m.wl I.m.wr
 obtain⟨S,e2,G2⟩:=zar (n:=r+n) (e:=32900) (eh:=5400) (B:=2 ^ 5461) (by omega) (by decide) (by decide) (by decide) (St.trn r T) W (by rw[St.z0Z,I.m.wl]) B2.rows
   (fun x hx k=>by
     obtain⟨i,hi,rfl⟩:=List.getElem_of_mem hx
     have hi':i<r:=by rw[B2.len]at hi;exact hi
     have e:St.at0 ((St.pair (St.trn r T) W)[i]) k=St.ent (St.pair (St.trn r T) W) i k:=by unfold St.ent;simp[List.getD,List.getElem?_eq_getElem hi]
     rw[e,St.z5g (n:=n) (r:=r) (fun x hx=>by rw[St.z3b hx,sT.len]) (by rw[St.z0Z];exact hi') (by rw[I.m.wl];exact hi')]
     split
     · rw[St.z1v sT.rows];exact b.lt (eT k i).1 (eT k i).2
     · exact I.wb _ (St.z1f (by rw[I.m.wl];exact hi')) _)
   (Nat.two_pow_pos _) (Nat.pow_le_pow_right (by decide) (by decide)) (fun k hk=>bnd6 k (by rw[St.z0Z]at hk;omega))
   (fun k S hk G x hx=>b.hd (B2.heads (by rw[St.z0Z]at hk;omega) G.asc G.span hx).2) (by rw[St.z0Z];omega)
 obtain⟨l2,h2⟩:=G2.sq B2
 have M':=I.m.step sT G1.span G2.asc G2.form l2 h2 G2.span
 have hs:=St.z5X (r:=r) G2.span
 rw[St.z5Y (fun x hx=>by rw[St.z3b hx,sT.len]) (by rw[St.z0Z,I.m.wl])]at hs
 have len:∀ x∈S,x.length=r+n:=fun x hx=>(G2.asc.mem hx).1
 have k3:∀ d0 d1:Cell,z0e 1 [3] (iSeq (fN 7)) (Tg.one 0) fYes (fSl (fN 0) z0L (z1G (fN 1))) [d0,d1,.sh f2 (.int w),.sh f3 (.int r),.sh f4 (LL A),.sh f5 (LL W),.sh true (LL (St.trn r T)),.sh true (LL S)]=some (.nw,LL (S.map (·.take r))):=fun d0 d1=>by
   rw[z0j (e:=L) (h:=fun x=>L (x.take r)) (xs:=S) (by simp[cOf]) (fun x hx=>by simp[cOf,z9S,z3w])]
   simp[LL]
 have k4:∀ d0 d1:Cell,z0e 1 [3,2] (iSeq (fN 7)) (Tg.one 0) fYes (z06 true z2T (z01 (fSl (fN 0) (z1G (fN 1)) z0L) (z01 (fN 2) fNil))) [d0,d1,.sh f2 (.int w),.sh f3 (.int r),.sh true (LL (S.map (·.take r))),.sh f5 (LL W),.sh true (LL (St.trn r T)),.sh true (LL S)]=some (.nw,LL (S.map fun x=>rstR w (x.drop r))):=fun d0 d1=>by
   rw[z0j (e:=L) (h:=fun x=>L (rstR w (x.drop r))) (xs:=S) (by simp[cOf]) (fun x hx=>by
     have:=z7o (x.drop r) w b.wp
     simp[cOf,z5b,z1J,this])]
   simp[LL]
 refine⟨T,S.map (·.take r),S.map fun x=>rstR w (x.drop r),true,true,.sh true (LL (St.trn r T)),.sh true (LL S),?_,⟨?_,?_⟩,sT,G1.span,hs⟩
 · refine run (ρ':=[c0,c1,.sh f2 (.int w),.sh f3 (.int r),.sh f4 (LL A),.sh f5 (LL W),.sh true (LL (St.trn r T)),c7]) ?_ (run (ρ':=[c0,c1,.sh f2 (.int w),.sh f3 (.int r),.sh f4 (LL A),.sh f5 (LL W),.sh true (LL (St.trn r T)),.sh true (LL S)]) ?_ (run (ρ':=[c0,c1,.sh f2 (.int w),.sh f3 (.int r),.sh true (LL (S.map (·.take r))),.sh f5 (LL W),.sh true (LL (St.trn r T)),.sh true (LL S)]) ?_ ?_))
   · simp[cOf,t1,e1,t2]
   · simp[cOf,e2]
   · simp[cOf,k3]
   · simp[cOf,k4]
 · refine M'.rest (W':=S.map fun x=>rstR w (x.drop r)) (by rw[List.length_map,l2]) (fun x hx=>?_) (fun i k=>(St.ent (S.map (·.drop r)) i k).fdiv w) fun i k hi=>?_
   · obtain⟨y,hy,rfl⟩:=List.mem_map.mp hx
     rw[z7n,List.length_drop,len y hy];omega
   · have hi:i<S.length:=by omega
     have x1:St.ent (S.map fun x=>rstR w (x.drop r)) i k=St.at0 (rstR w ((S.getD i []).drop r)) k:=by unfold St.ent;simp[List.getD,List.getElem?_eq_getElem hi]
     have x2:St.ent (S.map (·.drop r)) i k=St.at0 ((S.getD i []).drop r) k:=by unfold St.ent;simp[List.getD,List.getElem?_eq_getElem hi]
     rw[x1,x2,z9k]
 · intro x hx k
   obtain⟨y,hy,rfl⟩:=List.mem_map.mp hx
   by_cases hk:k<(rstR w (y.drop r)).length
   · have:=zfu b.wp (r:=y.drop r) (St.at0 (rstR w (y.drop r)) k) (by unfold St.at0;rw[List.getD,List.getElem?_eq_getElem hk];exact List.getElem_mem _)
     exact b.lt this.1 (by omega)
   · rw[St.z0Y (by omega)];exact Nat.two_pow_pos _
theorem zfw{r n:Nat}{w:Int}{G K:List (List Int)}(b:Mb r n w)(c0 c1:Cell)(f2 f3:Bool):∀(d t:Nat),t+d=r→∀(a:Nat) (A W:List (List Int)) (f4 f5:Bool) (c6 c7:Cell),Mw r n w G K A W→St.Clean t A→(t<r→St.ent A t t=(a:Int)) →
  ∃ k A' W' f4' f5' c6' c7',z1a GC GF k [c0,c1,.sh f2 (.int w),.sh f3 (.int r),.sh f4 (LL A),.sh f5 (LL W),c6,c7]=some (.nx [c0,c1,.sh f2 (.int w),.sh f3 (.int r),.sh f4' (LL A'),.sh f5' (LL W'),c6',c7'])∧Mw r n w G K A' W'∧St.Clean r A':=by
 intro d
 induction d with
 | zero =>
  intro t ht a A W f4 f5 c6 c7 I c _
  have hc:St.Clean r A:=by rw[←ht];exact c
  have:=(z5x A).1 ((z8j I.m.sq).mpr hc)
  refine⟨1,A,W,f4,f5,c6,c7,?_,I,hc⟩
  have hc:GC [c0,c1,.sh f2 (.int w),.sh f3 (.int r),.sh f4 (LL A),.sh f5 (LL W),c6,c7]=some false:=by simp[cOf,this]
  rw[z1a,hc];rfl
 | succ d ihd =>
  intro t ht a
  induction a using Nat.strongRecOn with
  | ind a iha =>
   intro A W f4 f5 c6 c7 I c ha
   have htr:t<r:=by omega
   by_cases hc:St.Clean r A
   · have:=(z5x A).1 ((z8j I.m.sq).mpr hc)
     refine⟨1,A,W,f4,f5,c6,c7,?_,I,hc⟩
     have hc:GC [c0,c1,.sh f2 (.int w),.sh f3 (.int r),.sh f4 (LL A),.sh f5 (LL W),c6,c7]=some false:=by simp[cOf,this]
     rw[z1a,hc];rfl
   · have no:∃ p∈z1r 0 A,¬z6o p:=Classical.byContradiction fun k=>hc ((z8j I.m.sq).mp fun p hp=>Classical.byContradiction fun q=>k ⟨p,hp,q⟩)
     have:=(z5x A).2 no
     have hl:GC [c0,c1,.sh f2 (.int w),.sh f3 (.int r),.sh f4 (LL A),.sh f5 (LL W),c6,c7]=some true:=by simp[cOf,this]
     obtain⟨T,A',W',f4',f5',c6',c7',e,I',sT,s1,s2⟩:=zfv b I c0 c1 c6 c7 f2 f3 f4 f5
     obtain⟨cl,alt⟩:=St.zdU I.m.sq sT I'.m.sq s1 s2 c htr
     have fin:(∃ k A'' W'' f4'' f5'' c6'' c7'',z1a GC GF k [c0,c1,.sh f2 (.int w),.sh f3 (.int r),.sh f4' (LL A'),.sh f5' (LL W'),c6',c7']=some (.nx [c0,c1,.sh f2 (.int w),.sh f3 (.int r),.sh f4'' (LL A''),.sh f5'' (LL W''),c6'',c7''])∧Mw r n w G K A'' W''∧St.Clean r A''):=by
      rcases alt with h|h
      · by_cases ht2:t+1<r
        · have p:=I'.m.sq.pos ht2
          exact ihd (t+1) (by omega) (St.ent A' (t+1) (t+1)).toNat A' W' f4' f5' c6' c7' I' h fun _=>by omega
        · exact ihd (t+1) (by omega) 0 A' W' f4' f5' c6' c7' I' h fun h=>absurd h ht2
      · have p:=I'.m.sq.pos htr
        have ha:=ha htr
        exact iha (St.ent A' t t).toNat (by omega) A' W' f4' f5' c6' c7' I' cl fun _=>by omega
     obtain⟨k,A2,W2,f42,f52,c62,c72,e2,I2,h2⟩:=fin
     refine⟨k+1,A2,W2,f42,f52,c62,c72,?_,I2,h2⟩
     rw[z1a,hl,z0p,if_pos rfl,e]
     exact e2
def MD(M:St.Meas):Dt := .lst (M.map fun x => .tup [L x.1,.int x.2])
def z21(A W:List (List Int)):St.Meas:=(z1r 0 W).map fun p=>(p.2,St.ent A p.1 p.1)
theorem z8k:∀(j:Nat) (A:List (List Int)),(z1r j A).length=A.length
 | j,[]=>rfl
 | j,r::A=>by rw[z1r,List.length_cons,List.length_cons,z8k]
theorem z8l:∀(j:Nat) (A:List (List Int)) (i:Nat),i<A.length→(z1r j A)[i]?=some (j+i,A.getD i [])
 | j,r::A,0,_=>rfl
 | j,r::A,i+1,h=>by
  rw[z1r,List.getElem?_cons_succ,z8l (j+1) A i (by simpa using h),show j+1+i=j+(i+1) by omega];rfl
theorem zas(A W:List (List Int)){i:Nat}(h:i<W.length):St.mw (z21 A W) i=W.getD i []∧St.mp (z21 A W) i=St.ent A i i:=by
 unfold St.mw St.mp z21
 rw[List.getD,List.getElem?_map,z8l 0 W i h,Nat.zero_add]
 exact⟨rfl,rfl⟩
theorem zd5{r:List Int}{k:Nat}(h:k<r.length):atI (r.map Dt.int) (k:Int)=some (.int (St.at0 r k)):=by
 rw[z3v,z1I 0 h];rfl
theorem zfx{r n:Nat}{w:Int}{G K A W:List (List Int)}(b:Mb r n w)(I:Mw r n w G K A W):∃ A' W',z67 [LL A,LL W,.int w]=some (MD (z21 A' W'))∧Mw r n w G K A' W'∧St.Clean r A':=by
 have al:=I.m.sq.len
 obtain⟨k,A',W',f4,f5,c6,c7,e,I',hc⟩:=zfw b (.sh false (LL A)) (.sh false (LL W)) false true r 0 (by omega) (St.ent A 0 0).toNat A W false false .no .no I (fun i hi=>by omega) fun h=>by have:=I.m.sq.pos h;omega
 have e:=z5P e
 refine⟨A',W',?_,I',hc⟩
 have cm:∀ d0 d1 d2 d3 d6 d7:Cell,∃ f,z0e 2 [4] (z3s (fN 5)) (Tg.many [0,1]) fYes (fTup (z01 (fN 1) (z01 (fAt (fAt (fN 2) (fN 0)) (fN 0)) fNil))) [d0,d1,d2,d3,.sh f4 (LL A'),.sh f5 (LL W'),d6,d7]=some (f,MD (z21 A' W')):=fun d0 d1 d2 d3 d6 d7=>by
  have key:=z9O (nt:=2) (js:=[4]) (Fi:=z3s (fN 5)) (g:=Tg.many [0,1]) (Fe:=fTup (z01 (fN 1) (z01 (fAt (fAt (fN 2) (fN 0)) (fN 0)) fNil))) (ρ:=[d0,d1,d2,d3,.sh f4 (LL A'),.sh f5 (LL W'),d6,d7]) (e:=fun p:Nat×List Int => .tup [.int p.1,L p.2]) (h:=fun p=>(.sh,.tup [L p.2,.int (St.ent A' p.1 p.1)])) (xs:=z1r 0 W') (by simp[cOf,z4m]) (fun p hp=>by
   obtain⟨i,hi,rfl⟩:=z3k.mp hp
   rw[I'.m.wl]at hi
   rw[Nat.zero_add]
   have h1:=getD_L A' (k:=i) (by rw[I'.m.sq.len];omega)
   have h2:=zd5 (r:=A'.getD i []) (k:=i) (by rw[I'.m.sq.rows _ (St.z1f (by rw[I'.m.sq.len];omega))];omega)
   have x:St.ent A' i i=St.at0 (A'.getD i []) i:=rfl
   rw[x]
   generalize A'.getD i []=ra at h1 h2 ⊢
   generalize W'.getD i []=rb
   simp[cOf,h1,h2]
   rfl)
  have x:MD (z21 A' W') = .lst ((z1r 0 W').map fun p => .tup [L p.2,.int (St.ent A' p.1 p.1)]):=by
   unfold MD z21
   rw[List.map_map]
   rfl
  rw[x]
  exact⟨_,key⟩
 obtain⟨f,cm⟩:=cm (.sh false (LL A)) (.sh false (LL W)) (.sh false (.int w)) (.sh true (.int r)) c6 c7
 have q:z4f [.sh false (LL A),.sh false (LL W),.sh false (.int w),.no,.no,.no,.no,.no]=some (.rt f (MD (z21 A' W'))):=by
  unfold z4f
  refine run (ρ':=[.sh false (LL A),.sh false (LL W),.sh false (.int w),.sh true (.int r),.no,.no,.no,.no]) (by simp[cOf,al]) (run (ρ':=[.sh false (LL A),.sh false (LL W),.sh false (.int w),.sh true (.int r),.sh false (LL A),.no,.no,.no]) (by simp[cOf];rfl) (run (ρ':=[.sh false (LL A),.sh false (LL W),.sh false (.int w),.sh true (.int r),.sh false (LL A),.sh false (LL W),.no,.no]) (by simp[cOf];rfl) (run e ?_)))
  unfold sRet
  rw[cm]
  rfl
 unfold z67 cOf
 rw[if_pos (show[LL A,LL W,Dt.int w].length=3 from rfl)]
 show(z4f [.sh false (LL A),.sh false (LL W),.sh false (.int w),.no,.no,.no,.no,.no]).bind _=_
 rw[q]
 rfl
theorem zlc{n:Nat}(w1 w2:List Int)(a b:Int)(h1:w1.length=n)(h2:w2.length=n)(ha:0<a)(hb:0<b)(ba:a<2 ^ 5400)(bb:b<2 ^ 5400)(l1:St.Lt (2 ^ 5461) w1)(l2:St.Lt (2 ^ 5461) w2):
  ∃ g x y a' b' lc,z3z [.tup [L w1,.int a],.tup [L w2,.int b]]=some (.tup [.tup [L (rstR g (addR w1 w2)),.int g],.tup [L (rstR lc (addR (sclR (-y*b') w1) (sclR (x*a') w2))),.int lc]])∧St.Bz g x y a b a' b'∧lc=a'*b∧0<lc∧g∣a:=by
 have cast:((2 ^ 5400:Nat):Int)=(2:Int) ^ 5400:=by norm_cast
 have a1:a.natAbs<2 ^ 5400:=by omega
 have a2:b.natAbs<2 ^ 5400:=by omega
 obtain⟨x,y,eb,exy,bx,bY⟩:=zbK a b 5400 (by decide) a1 a2
 have g0:0<Int.gcd a b:=Int.gcd_pos_of_ne_zero_left _ (by omega)
 have d1:(Int.gcd a b:Int)∣a:=Int.gcd_dvd_left _ _
 have d2:(Int.gcd a b:Int)∣b:=Int.gcd_dvd_right _ _
 generalize eg:(Int.gcd a b:Int)=g at *
 have g0:0<g:=by omega
 have z:=St.Bz.of (f1:=x) (f2:=y) g0 d1 d2 (by rw[Int.mul_comm x,Int.mul_comm y];exact exy)
 have p2:2 ^ 5403=8*2 ^ 5400:=by rw[show(5403:Nat)=3+5400 from rfl,Nat.pow_add]
 have x1:x.natAbs<2 ^ 5403:=by omega
 have y1:y.natAbs<2 ^ 5403:=by omega
 have gle:g≤a:=Int.le_of_dvd ha d1
 have g9:g<2 ^ 9000:=by
  have h9:(2:Nat) ^ 5400≤2 ^ 9000:=Nat.pow_le_pow_right (by decide) (by decide)
  have:((2 ^ 9000:Nat):Int)=(2:Int) ^ 9000:=by norm_cast
  omega
 have dv1:z2i a g=true:=z4l g0 g9
 have dv2:z2i b g=true:=z4l g0 g9
 have f1:a.fdiv g=a / g:=Int.fdiv_eq_ediv_of_nonneg _ (by omega)
 have f2:b.fdiv g=b / g:=Int.fdiv_eq_ediv_of_nonneg _ (by omega)
 have k1:(a / g).natAbs<2 ^ 5400:=by rw[←f1];have:=St.z4b a g0;omega
 have k2:(b / g).natAbs<2 ^ 5400:=by rw[←f2];have:=St.z4b b g0;omega
 have ap:0<a / g:=Int.ediv_pos_of_pos_of_dvd ha (by omega) d1
 have lp:0<a / g*b:=Int.mul_pos ap hb
 refine⟨g,x,y,a / g,b / g,a / g*b,?_,z,rfl,lp,d1⟩
 have m1:z18 (a / g) b=true:=z25 k1 a2 (by decide)
 have m2:z18 (-y) (b / g)=true:=z25 (by rw[Int.natAbs_neg];exact y1) k2 (by decide)
 have m3:z18 x (a / g)=true:=z25 x1 k1 (by decide)
 have s1:(-y*(b / g)).natAbs<2 ^ (5403+5400):=by
  rw[Int.natAbs_mul,Nat.pow_add,Int.natAbs_neg]
  exact Nat.mul_lt_mul'' y1 k2
 have s2:(x*(a / g)).natAbs<2 ^ (5403+5400):=by
  rw[Int.natAbs_mul,Nat.pow_add]
  exact Nat.mul_lt_mul'' x1 k1
 have e1:=z1U w1 (-y*(b / g)) (z6b s1 l1 (by decide))
 have e2:=z1U w2 (x*(a / g)) (z6b s2 l2 (by decide))
 have e3:=zag (sclR (-y*(b / g)) w1) (sclR (x*(a / g)) w2) (by rw[z0B,z0B,h1,h2])
 have e4:=zag w1 w2 (by rw[h1,h2])
 have e5:=z7o (addR w1 w2) g g0
 have e6:=z7o (addR (sclR (-y*(b / g)) w1) (sclR (x*(a / g)) w2)) (a / g*b) lp
 have eb:z5m [.int a,.int b]=some (.tup [.int g,.int x,.int y]):=eb
 generalize addR (sclR (-y*(b / g)) w1) (sclR (x*(a / g)) w2)=u at *
 generalize sclR (-y*(b / g)) w1=u1 at *
 generalize sclR (x*(a / g)) w2=u2 at *
 generalize addR w1 w2=u3 at *
 have q:z5q [.sh false (.tup [L w1,.int a]),.sh false (.tup [L w2,.int b]),.no,.no,.no,.no,.no]=some (.rt .nw (.tup [.tup [L (rstR g u3),.int g],.tup [L (rstR (a / g*b) u),.int (a / g*b)]])):=by
  unfold z5q
  refine run (ρ':=[.sh false (.tup [L w1,.int a]),.sh false (.tup [L w2,.int b]),.sh true (.tup [.int g,.int x,.int y]),.no,.no,.no,.no]) (by simp[cOf,eb]) ?_
  refine run (ρ':=[.sh false (.tup [L w1,.int a]),.sh false (.tup [L w2,.int b]),.sh true (.tup [.int g,.int x,.int y]),.sh true (.int g),.no,.no,.no]) (by simp[cOf]) ?_
  refine run (ρ':=[.sh false (.tup [L w1,.int a]),.sh false (.tup [L w2,.int b]),.sh true (.tup [.int g,.int x,.int y]),.sh true (.int g),.sh true (.int (a / g*b)),.no,.no]) (by simp[cOf,dv1,f1,m1]) ?_
  refine run (ρ':=[.sh false (.tup [L w1,.int a]),.sh false (.tup [L w2,.int b]),.sh true (.tup [.int g,.int x,.int y]),.sh true (.int g),.sh true (.int (a / g*b)),.sh true (L u3),.no]) (by simp[cOf,e4]) ?_
  refine run (ρ':=[.sh false (.tup [L w1,.int a]),.sh false (.tup [L w2,.int b]),.sh true (.tup [.int g,.int x,.int y]),.sh true (.int g),.sh true (.int (a / g*b)),.sh true (L u3),.sh true (L u)]) (by simp[cOf,dv1,dv2,f1,f2,m2,m3,e1,e2,e3]) ?_
  simp[cOf,e5,e6]
 unfold z3z cOf
 rw[if_pos (show[Dt.tup [L w1,.int a],.tup [L w2,.int b]].length=2 from rfl)]
 show(z5q [.sh false (.tup [L w1,.int a]),.sh false (.tup [L w2,.int b]),.no,.no,.no,.no,.no]).bind _=_
 rw[q]
 rfl
theorem z5y{γ:Type}{g:Tg}{F:FS}(R:γ→Rho)(P:Nat→γ→Prop):∀(n k:Nat) (j:γ),P k j→(∀ i j,k≤i→i<k+n→P i j→∃ j',(g.put (.int (i:Int)) (R j)).bind F=some (.nx (R j'))∧P (i+1) j')→∃ j',forF g F (z1Y (k:Int) n) (R j)=some (.nx (R j'))∧P (k+n) j'
 | 0,k,j,p,_=>⟨j,rfl,p⟩
 | n+1,k,j,p,h=>by
  obtain⟨j1,h1,p1⟩:=h k j (Nat.le_refl _) (by omega) p
  obtain⟨j2,h2,p2⟩:=z5y R P n (k+1) j1 p1 fun i j hi hl=>h i j (by omega) (by omega)
  refine⟨j2,?_,by rw[show k+(n+1)=k+1+n by omega];exact p2⟩
  rw[z0G,List.range_succ_eq_map,List.map_cons,z1b,show Dt.int ((k:Int)+((0:Nat):Int)) = .int (k:Int) by simp,h1,List.map_map]
  rw[←h2,z0G]
  show forF g F _ (R j1)=forF g F _ (R j1)
  congr 1
  apply List.map_congr_left
  intro i _
  show Dt.int ((k:Int)+((i+1:Nat):Int))=Dt.int (((k+1:Nat):Int)+(i:Int))
  congr 1
  omega
structure Cs(n r:Nat)(w:Int)(G:List (List Int))(K0:St.Meas)(t s:Nat)(M:St.Meas):Prop where
 ms:St.Ms n G (M++K0)
 ch:St.Chn w t s M
 len:M.length=r
 lt:∀ x∈M,St.Lt (2 ^ 5461) x.1
theorem zfy{p:Int}(hp:0<p)(hb:p<2 ^ 5400)(r:List Int):St.Lt (2 ^ 5461) (rstR p r):=fun k=>by
 have c:((2 ^ 5400:Nat):Int)=(2:Int) ^ 5400:=by norm_cast
 have h:(2:Nat) ^ 5400≤2 ^ 5461:=Nat.pow_le_pow_right (by decide) (by decide)
 by_cases hk:k<(rstR p r).length
 · have:=zfu hp (r:=r) (St.at0 (rstR p r) k) (by unfold St.at0;rw[List.getD,List.getElem?_eq_getElem hk];exact List.getElem_mem _)
   omega
 · rw[St.z0Y (by omega)];exact Nat.two_pow_pos _
abbrev KF:FS:=(sSeq (z2U 4 (z06 true z3z (z01 (fAt (fN 1) (fN 2)) (z01 (fAt (fN 1) (fN 3)) fNil))))
 (sSeq (sPut 1 (fN 2) (fAt (fN 4) (fC (.int 0))))
 (sPut 1 (fN 3) (fAt (fN 4) (fC (.int 1))))))
abbrev tD(x:List Int×Int):Dt := .tup [L x.1,.int x.2]
theorem zld{n r:Nat}{w:Int}{G:List (List Int)}{K0:St.Meas}{t s:Nat}{M:St.Meas}(b:Mb r n w)(I:Cs n r w G K0 t s M)(hts:t<s)(hs:s<r)(c0 c4:Cell)(f:Bool):
   ∃ M' c4' f',KF [c0,.ow f (M.map tD),.sh false (.int t),.sh false (.int s),c4]=some (.nx [c0,.ow f' (M'.map tD),.sh false (.int t),.sh false (.int s),c4'])∧Cs n r w G K0 t (s+1) M':=by
 have lM:=I.len
 have get:∀ i,i<r→M[i]?=some (St.mw M i,St.mp M i):=fun i hi=>by
   unfold St.mw St.mp
   rw[List.getD,List.getElem?_eq_getElem (show i<M.length by omega)];rfl
 have mem:∀ i,i<r→(St.mw M i,St.mp M i)∈M:=fun i hi=>List.mem_of_getElem? (get i hi)
 have rows:∀ i,i<r→(St.mw M i).length=n:=fun i hi=>I.ms.rows _ (List.mem_append.mpr (.inl (mem i hi)))
 have bd:∀ i,i<r→St.mp M i<2 ^ 5400:=fun i hi=>b.hd (I.ch.whole i (by omega))
 obtain⟨g,x,y,a',b',lc,e,z,hlc,lp,gd⟩:=zlc (n:=n) (St.mw M t) (St.mw M s) (St.mp M t) (St.mp M s) (rows t (by omega)) (rows s hs) (I.ch.pos t (by omega)) (I.ch.pos s (by omega)) (bd t (by omega)) (bd s hs) (I.lt _ (mem t (by omega))) (I.lt _ (mem s hs))
 have ch':=I.ch.link (u:=rstR g (addR (St.mw M t) (St.mw M s))) (l:=rstR lc (addR (sclR (-y*b') (St.mw M t)) (sclR (x*a') (St.mw M s)))) hts (by omega) z hlc
 have lu:(rstR g (addR (St.mw M t) (St.mw M s))).length=n:=by rw[z7n,z2m (by rw[rows t (by omega),rows s hs]),rows t (by omega)]
 have ll:(rstR lc (addR (sclR (-y*b') (St.mw M t)) (sclR (x*a') (St.mw M s)))).length=n:=by rw[z7n,z2m (by rw[z0B,z0B,rows t (by omega),rows s hs]),z0B,rows t (by omega)]
 have ms':=St.zq8 (u:=rstR g (addR (St.mw M t) (St.mw M s))) (l:=rstR lc (addR (sclR (-y*b') (St.mw M t)) (sclR (x*a') (St.mw M s)))) I.ms hlc (by omega) (by omega) (by omega) z lu ll
   (fun k=>by rw[z9k,z4N (by rw[rows t (by omega),rows s hs])]) (fun k=>by rw[z9k,z4N (by rw[z0B,z0B,rows t (by omega),rows s hs]),z3c,z3c,Int.neg_mul])
 have gb:g<2 ^ 5400:=by have:=Int.le_of_dvd (I.ch.pos t (by omega)) gd;have:=bd t (by omega);omega
 have lb:lc<2 ^ 5400:=b.hd (by
   have:=ch'.whole s (by simp;omega)
   unfold St.mp at this
   rw[St.za6 (by omega) (by omega) (by omega),if_pos rfl]at this
   exact this)
 have u2:=zfy z.gp gb (addR (St.mw M t) (St.mw M s))
 have l2:=zfy lp lb (addR (sclR (-y*b') (St.mw M t)) (sclR (x*a') (St.mw M s)))
 generalize rstR g (addR (St.mw M t) (St.mw M s))=u at *
 generalize rstR lc (addR (sclR (-y*b') (St.mw M t)) (sclR (x*a') (St.mw M s)))=l at *
 have at1:atI (M.map tD) (t:Int)=some (tD (St.mw M t,St.mp M t)):=z4A (by rw[List.getElem?_map,get t (by omega)];rfl)
 have at2:atI (M.map tD) (s:Int)=some (tD (St.mw M s,St.mp M s)):=z4A (by rw[List.getElem?_map,get s hs];rfl)
 have mlen:(M.map tD).length=r:=by rw[List.length_map,lM]
 have st:((M.set t (u,g)).set s (l,lc)).map tD=((M.map tD).set t (tD (u,g))).set s (tD (l,lc)):=by rw[List.map_set,List.map_set]
 generalize M.map tD=D at *
 have x1:ixN D.length (t:Int)=some t:=zk2 (by omega)
 have x2:ixN D.length (s:Int)=some s:=zk2 (by omega)
 have e1:z2U 4 (z06 true z3z (z01 (fAt (fN 1) (fN 2)) (z01 (fAt (fN 1) (fN 3)) fNil))) [c0,.ow f D,.sh false (.int t),.sh false (.int s),c4]=some (.nx [c0,.ow f D,.sh false (.int t),.sh false (.int s),.sh true (.tup [tD (u,g),tD (l,lc)])]):=by
   have e:z3z [tD (St.mw M t,St.mp M t),tD (St.mw M s,St.mp M s)]=some (.tup [tD (u,g),tD (l,lc)]):=e
   generalize tD (St.mw M t,St.mp M t)=y1 at *
   generalize tD (St.mw M s,St.mp M s)=y2 at *
   have sn:∀(f:Fl) (d:Dt),(nrm f d).2=d:=fun _ _=>rfl
   simp[cOf,at1,at2,sn,e]
 have e2:∃ f1,sPut 1 (fN 2) (fAt (fN 4) (fC (.int 0))) [c0,.ow f D,.sh false (.int t),.sh false (.int s),.sh true (.tup [tD (u,g),tD (l,lc)])]=some (.nx [c0,.ow f1 (D.set t (tD (u,g))),.sh false (.int t),.sh false (.int s),.sh true (.tup [tD (u,g),tD (l,lc)])]):=by
   generalize tD (u,g)=y1
   generalize tD (l,lc)=y2
   have sn:∀(f:Fl) (d:Dt),(nrm f d).2=d:=fun _ _=>rfl
   refine⟨f&&(nrm (if y1.flat=true∧y2.flat=true then Fl.nw else Fl.fr).item y1).1.isFr,?_⟩
   simp[cOf,x1,sn]
 obtain⟨f1,e2⟩:=e2
 have e3:∃ f2,sPut 1 (fN 3) (fAt (fN 4) (fC (.int 1))) [c0,.ow f1 (D.set t (tD (u,g))),.sh false (.int t),.sh false (.int s),.sh true (.tup [tD (u,g),tD (l,lc)])]=some (.nx [c0,.ow f2 ((D.set t (tD (u,g))).set s (tD (l,lc))),.sh false (.int t),.sh false (.int s),.sh true (.tup [tD (u,g),tD (l,lc)])]):=by
   have x2:ixN (D.set t (tD (u,g))).length (s:Int)=some s:=by rw[List.length_set];exact x2
   generalize D.set t (tD (u,g))=E at *
   generalize tD (u,g)=y1
   generalize tD (l,lc)=y2
   have sn:∀(f:Fl) (d:Dt),(nrm f d).2=d:=fun _ _=>rfl
   refine⟨f1&&(nrm (if y1.flat=true∧y2.flat=true then Fl.nw else Fl.fr).item y2).1.isFr,?_⟩
   simp[cOf,x2,sn]
 obtain⟨f2,e3⟩:=e3
 refine⟨(M.set t (u,g)).set s (l,lc),.sh true (.tup [tD (u,g),tD (l,lc)]),f2,run e1 (run e2 (by rw[st];exact e3)),⟨ms',ch',by simp[lM],fun x hx=>?_⟩⟩
 rcases List.mem_or_eq_of_mem_set hx with hx|rfl
 · rcases List.mem_or_eq_of_mem_set hx with hx|rfl
   · exact I.lt x hx
   · exact u2
 · exact l2
theorem zfz{n r:Nat}{w:Int}{G:List (List Int)}{K0:St.Meas}{t:Nat}{M:St.Meas}(b:Mb r n w)(I:Cs n r w G K0 t (t+1) M)(ht:t<r)(c0 c3 c4:Cell)(f:Bool):
  ∃ M' c3' c4' f',forF (Tg.one 3) KF (z1Y ((t+1:Nat):Int) (r-(t+1))) [c0,.ow f (M.map tD),.sh false (.int t),c3,c4]=some (.nx [c0,.ow f' (M'.map tD),.sh false (.int t),c3',c4'])∧Cs n r w G K0 (t+1) (t+2) M':=by
 obtain⟨j,e,p⟩:=z5y (g:=Tg.one 3) (F:=KF) (fun j:St.Meas×Cell×Cell×Bool=>[c0,.ow j.2.2.2 (j.1.map tD),.sh false (.int t),j.2.1,j.2.2.1]) (fun s j=>Cs n r w G K0 t s j.1) (r-(t+1)) (t+1) (M,c3,c4,f) I fun s j h1 h2 p=>by
  obtain⟨M',c4',f',e,p'⟩:=zld b p (by omega) (by omega) c0 j.2.2.1 j.2.2.2
  exact⟨(M',.sh false (.int s),c4',f'),e,p'⟩
 exact⟨j.1,j.2.1,j.2.2.1,j.2.2.2,e,⟨p.ms,p.ch.next (by rw[p.len];omega),p.len,p.lt⟩⟩
theorem ch_own(M:St.Meas):∃ f,sOwn 1 (fBlt bLst (z01 (fN 0) fNil)) [.sh false (MD M),.no,.no,.no,.no]=some (.nx [.sh false (MD M),.ow f (M.map tD),.no,.no,.no]):=by
 cases M with
 | nil=>exact⟨true,by simp[cOf,MD]⟩
 | cons x M=>exact⟨false,by simp[cOf,MD,newL,lfl,Dt.flat,z1z]⟩
abbrev RA:FI:=z0l (fBlt bLen (z01 (fN 1) fNil))
abbrev RB:FI:=z9d (fOp z0y (fN 2) (fC (.int 1))) (fBlt bLen (z01 (fN 1) fNil))
theorem ch_ra(c0:Cell)(D:List Dt)(f:Bool)(h:D.length≤1000):RA [c0,.ow f D,.no,.no,.no]=some (z1Y 0 D.length):=by
 have ok2:z39 (D.length:Int)=true:=z4L (by omega)
 cases f<;>simp[cOf,ok2]
theorem ch_rb(c0 d3 d4:Cell)(D:List Dt)(f:Bool)(t:Nat)(h:D.length≤1000)(ht:t≤1000):RB [c0,.ow f D,.sh false (.int t),d3,d4]=some (z1Y ((t+1:Nat):Int) (D.length-(t+1))):=by
 have ok1:z39 ((t:Int)+1)=true:=by have:=z4L (n:=t+1) (by omega);rwa [show((t+1:Nat):Int)=(t:Int)+1 by omega]at this
 have ok2:z39 (D.length:Int)=true:=z4L (by omega)
 have rg:((D.length:Int)-((t:Int)+1)).toNat=D.length-(t+1):=by omega
 have h1:fOp z0y (fN 2) (fC (.int 1)) [c0,.ow f D,.sh false (.int t),d3,d4]=some (.nw,.int ((t:Int)+1)):=by simp[cOf]
 have h2:fBlt bLen (z01 (fN 1) fNil) [c0,.ow f D,.sh false (.int t),d3,d4]=some (.nw,.int (D.length:Int)):=by cases f<;>simp[cOf]
 rw[show((t+1:Nat):Int)=(t:Int)+1 by omega]
 unfold RB z9d
 rw[h1,z0p,h2,z0p]
 have i1:intD ((Fl.nw,Dt.int ((t:Int)+1)):Dv).2=some ((t:Int)+1):=rfl
 have i2:intD ((Fl.nw,Dt.int (D.length:Int)):Dv).2=some (D.length:Int):=rfl
 rw[i1,z0p,i2,z0p,ok1,ok2,rg]
 rfl
theorem zqc{n r:Nat}{w:Int}{G:List (List Int)}{K0:St.Meas}{M:St.Meas}{t:Nat}(b:Mb r n w)(I:Cs n r w G K0 t (t+1) M)(ht:t<r)(c0 d2 d3 d4:Cell)(f:Bool):
  ∃ M' c3' c4' f',(Tg.put (Tg.one 2) (.int t) [c0,.ow f (M.map tD),d2,d3,d4]).bind (z8I RB (Tg.one 3) KF)=some (.nx [c0,.ow f' (M'.map tD),.sh false (.int t),c3',c4'])∧Cs n r w G K0 (t+1) (t+2) M':=by
 have r6:=b.r6
 obtain⟨M',c3',c4',f',e,p'⟩:=zfz b I ht c0 d3 d4 f
 refine⟨M',c3',c4',f',?_,p'⟩
 have pl:(M.map tD).length=r:=by rw[List.length_map,I.len]
 have it:=ch_rb c0 d3 d4 (M.map tD) f t (by omega) (by omega)
 rw[pl]at it
 have pt:Tg.put (Tg.one 2) (.int t) [c0,.ow f (M.map tD),d2,d3,d4]=some [c0,.ow f (M.map tD),.sh false (.int t),d3,d4]:=rfl
 rw[pt,z0p,zm9,it,z0p]
 exact e
theorem zqd{n r:Nat}{w:Int}{G:List (List Int)}{K0:St.Meas}{M:St.Meas}(b:Mb r n w)(I:Cs n r w G K0 0 1 M)(c0:Cell)(f:Bool):∃ M' f' c2 c3 c4,z8I RA (Tg.one 2) (z8I RB (Tg.one 3) KF) [c0,.ow f (M.map tD),.no,.no,.no]=some (.nx [c0,.ow f' (M'.map tD),c2,c3,c4])∧Cs n r w G K0 r (r+1) M':=by
 have r6:=b.r6
 generalize hF:z8I RB (Tg.one 3) KF=F
 obtain⟨j,e,p⟩:=z5y (g:=Tg.one 2) (F:=F) (fun j:St.Meas×Cell×Cell×Cell×Bool=>[c0,.ow j.2.2.2.2 (j.1.map tD),j.2.1,j.2.2.1,j.2.2.2.1]) (fun s j=>Cs n r w G K0 s (s+1) j.1) r 0 (M,.no,.no,.no,f) I fun t j h1 h2 p=>by
  obtain⟨M',c3',c4',f',e,p'⟩:=zqc b p (by omega) c0 j.2.1 j.2.2.1 j.2.2.2.1 j.2.2.2.2
  rw[hF]at e
  exact⟨(M',.sh false (.int t),c3',c4',f'),e,p'⟩
 have pl:(M.map tD).length=r:=by rw[List.length_map,I.len]
 have it:=ch_ra c0 (M.map tD) f (by omega)
 rw[pl]at it
 refine⟨j.1,j.2.2.2.2,j.2.1,j.2.2.1,j.2.2.2.1,?_,by rw[Nat.zero_add]at p;exact p⟩
 rw[zm9,it,z0p]
 exact e
theorem zqe(M1:St.Meas)(pos:∀ x∈M1,0<x.2)(c0 c2 c3 c4:Cell)(f1:Bool):z0e 2 [] (iSeq (fN 1)) (Tg.many [0,1]) fYes (fTup (z01 (z06 true z2T (z01 (fN 0) (z01 (fN 1) fNil))) (z01 (fN 1) fNil))) [c0,.ow f1 (M1.map tD),c2,c3,c4]=some (.nw,MD (M1.map fun x=>(rstR x.2 x.1,x.2))):=by
 rw[z0j (e:=tD) (h:=fun x=>tD (rstR x.2 x.1,x.2)) (xs:=M1) (by cases f1<;>simp[cOf]) (fun x hx=>by
  have:=z7o x.1 x.2 (pos x hx)
  simp[cOf,tD,this])]
 unfold MD
 rw[List.map_map];rfl
theorem zqf{n r:Nat}{w:Int}{G:List (List Int)}{K0 M1:St.Meas}(b:Mb r n w)(p:Cs n r w G K0 r (r+1) M1)(pos:∀ x∈M1,0<x.2):Cs n r w G K0 r (r+1) (M1.map fun x=>(rstR x.2 x.1,x.2)):=by
 have get:∀ i,i<r→M1[i]?=some (St.mw M1 i,St.mp M1 i):=fun i hi=>by
   have hi:i<M1.length:=by rw[p.len];exact hi
   unfold St.mw St.mp
   rw[List.getD,List.getElem?_eq_getElem hi];rfl
 have gm:∀ i,i<r→St.mp (M1.map fun x=>(rstR x.2 x.1,x.2)) i=St.mp M1 i∧St.mw (M1.map fun x=>(rstR x.2 x.1,x.2)) i=rstR (St.mp M1 i) (St.mw M1 i):=fun i hi=>by
   have e:=get i hi
   unfold St.mp St.mw at e ⊢
   rw[List.getD,List.getElem?_map,e]
   exact⟨rfl,rfl⟩
 have lm:(M1.map fun x=>(rstR x.2 x.1,x.2)).length=r:=by rw[List.length_map,p.len]
 have pl:=p.len
 refine⟨p.ms.rest (fun x hx=>?_) (by rw[List.length_append,List.length_append,lm,pl]) (fun i hi=>?_) (fun i hi v=>?_),⟨fun i hi=>?_,fun i hi=>?_,fun i j h1 h2 h3=>?_,fun j h1 h2 h3=>?_⟩,lm,fun x hx=>?_⟩
 · rcases List.mem_append.mp hx with hx|hx
   · obtain⟨y,hy,rfl⟩:=List.mem_map.mp hx
     show(rstR y.2 y.1).length=n
     rw[z7n];exact p.ms.rows y (List.mem_append.mpr (.inl hy))
   · exact p.ms.rows x (List.mem_append.mpr (.inr hx))
 · by_cases h:i<r
   · rw[(St.z34 (by omega)).1,(St.z34 (by omega)).1,(gm i h).1]
   · unfold St.mp
     rw[St.z3M,St.z3M,lm,pl,if_neg h,if_neg h]
 · by_cases h:i<r
   · rw[(St.z34 (by omega)).1,(St.z34 (by omega)).2,(St.z34 (by omega)).2,(gm i h).2]
     exact St.zq7 (q:=fun k=>(St.at0 (St.mw M1 i) k).fdiv (St.mp M1 i)) (fun k=>z9k _ _ k) v
   · unfold St.mw
     rw[St.z3M,St.z3M,lm,pl,if_neg h,if_neg h]
     exact⟨0,by omega⟩
 · rw[(gm i (by omega)).1];exact p.ch.pos i (by omega)
 · rw[(gm i (by omega)).1];exact p.ch.whole i (by omega)
 · rw[(gm i (by omega)).1,(gm j (by omega)).1];exact p.ch.all i j h1 h2 (by omega)
 · omega
 · obtain⟨y,hy,rfl⟩:=List.mem_map.mp hx
   obtain⟨i,hi,rfl⟩:=List.getElem_of_mem hy
   have w1:=p.ch.whole i hi
   unfold St.mp at w1
   rw[List.getD,List.getElem?_eq_getElem hi]at w1
   exact zfy (pos _ hy) (b.hd w1) _
theorem zfA{n r:Nat}{w:Int}{G:List (List Int)}{K0:St.Meas}{M:St.Meas}(b:Mb r n w)(I:Cs n r w G K0 0 1 M):
   ∃ M',z3i [MD M]=some (MD M')∧Cs n r w G K0 r (r+1) M'∧∀ x∈M',∀ y∈x.1,0≤y∧y<x.2:=by
 obtain⟨f,own⟩:=ch_own M
 obtain⟨M1,f1,c2,c3,c4,e1,p⟩:=zqd b I (.sh false (MD M)) f
 have pos:∀ x∈M1,0<x.2:=fun x hx=>by
   obtain⟨i,hi,rfl⟩:=List.getElem_of_mem hx
   have:=p.ch.pos i hi
   unfold St.mp at this
   rw[List.getD,List.getElem?_eq_getElem hi]at this
   exact this
 have cm:=zqe M1 pos (.sh false (MD M)) c2 c3 c4 f1
 have cr:=zqf b p pos
 refine⟨M1.map fun x=>(rstR x.2 x.1,x.2),?_,cr,fun x hx=>?_⟩
 · generalize M1.map (fun x=>(rstR x.2 x.1,x.2))=M2 at *
   generalize M1.map tD=D1 at *
   generalize M.map tD=D at *
   have q:z4g [.sh false (MD M),.no,.no,.no,.no]=some (.rt .nw (MD M2)):=by
    unfold z4g
    refine run own (run e1 ?_)
    unfold sRet
    rw[cm]
    rfl
   unfold z3i cOf
   rw[if_pos (show[MD M].length=1 from rfl)]
   show(z4g [.sh false (MD M),.no,.no,.no,.no]).bind _=_
   rw[q]
   rfl
 · obtain⟨y,hy,rfl⟩:=List.mem_map.mp hx
   exact zfu (pos y hy)
theorem bnd899(k:Nat)(h:k≤8):St.bnd k (10 ^ 30)+1≤2 ^ 899:=by
 have:=St.z7b (B:=10 ^ 30) h (by decide) (by decide)
 have e:St.bnd 8 (10 ^ 30)+1≤2 ^ 899:=by unfold St.bnd;decide
 omega
theorem zd6(k:Nat)(h:k≤6):St.bnd k (2 ^ 900)+1≤2 ^ 5461:=by
 have h1:=St.z7b (r:=k) (s:=6) (B:=2 ^ 900) h (Nat.two_pow_pos _) (by decide)
 have h2:St.bnd 6 (2 ^ 900)≤2 ^ 5460:=by
  unfold St.bnd
  have a:2*6*2 ^ 900≤2 ^ 904:=by
   rw[show(904:Nat)=4+900 from rfl,Nat.pow_add]
   exact Nat.mul_le_mul_right _ (by decide)
  have b:=Nat.pow_le_pow_left a 6
  rw[←Nat.pow_mul]at b
  have c:(2:Nat) ^ 5460=2 ^ (904*6)*2 ^ (6*6):=by rw[←Nat.pow_add]
  rw[c]
  exact Nat.mul_le_mul_right _ b
 have h3:(2:Nat) ^ 5460<2 ^ 5461:=Nat.pow_lt_pow_right (by decide) (by decide)
 omega
def zk8(xs:List Int):Int:=xs.foldl (fun t x=>t*x) 1
theorem zfB{e:Nat}(xs:List Int)(h:∀ x∈xs,x.natAbs<2 ^ e)(he:e*(xs.length+1)≤1000000):z65 [L xs]=some (.int (zk8 xs)):=by
 have key:∀(ys:List Int) (t:Int) (k:Nat) (c0 c2:Cell) (f:Bool),(∀ x∈ys,x.natAbs<2 ^ e)→t.natAbs<2 ^ k→k+e*(ys.length+1)≤2000000→∃ f' c2',forF (Tg.one 2) (sSet [] 1 (fOp z19 (fN 1) (fN 2))) (ys.map Dt.int) [c0,.sh f (.int t),c2]=some (.nx [c0,.sh f' (.int (ys.foldl (fun t x=>t*x) t)),c2']):=by
  intro ys
  induction ys with
  | nil=>intro t k c0 c2 f _ _ _;exact⟨f,c2,rfl⟩
  | cons y ys ih =>
   intro t k c0 c2 f hy ht hk
   have e1:e*(ys.length+1+1)=e*(ys.length+1)+e:=Nat.mul_succ _ _
   rw[List.length_cons,e1]at hk
   have m:z18 t y=true:=z25 ht (hy y List.mem_cons_self) (by omega)
   have b:(t*y).natAbs<2 ^ (k+e):=by rw[Int.natAbs_mul,Nat.pow_add];exact Nat.mul_lt_mul'' ht (hy y List.mem_cons_self)
   obtain⟨f',c2',q⟩:=ih (t*y) (k+e) c0 (.sh false (.int y)) true (fun x hx=>hy x (List.mem_cons_of_mem _ hx)) b (by omega)
   refine⟨f',c2',?_⟩
   rw[List.map_cons,z1b,List.foldl_cons,←q]
   have s:(Tg.put (Tg.one 2) (.int y) [c0,.sh f (.int t),c2]).bind (sSet [] 1 (fOp z19 (fN 1) (fN 2)))=some (.nx [c0,.sh true (.int (t*y)),.sh false (.int y)]):=by
    simp[cOf,m]
   rw[s];rfl
 obtain⟨f',c2',q⟩:=key xs 1 1 (.sh false (L xs)) .no true h (by decide) (by omega)
 unfold z65 z88
 have q:forF (Tg.one 2) (sSet [] 1 (fOp z19 (fN 1) (fN 2))) (xs.map Dt.int) [.sh false (L xs),.sh true (.int 1),.no]=some (.nx [.sh false (L xs),.sh f' (.int (zk8 xs)),c2']):=q
 simp[cOf,q]
theorem zmF(A:List (List Int))(r:Nat):zk8 ((List.range r).map fun i=>St.ent A i i)=St.pr A r:=by
 unfold zk8
 induction r with
 | zero=>rfl
 | succ r ih=>rw[List.range_succ,List.map_append,List.foldl_append,ih];rfl
theorem zfC(P:List (List Int)){n:Nat}(h:P.length=n):St.pair P (St.units n)=St.z5d P:=by
 have e0:=zd2 P.length 0 P
 rw[←List.range_eq_range']at e0
 rw[zaq]
 unfold St.units
 rw[←h]
 exact e0
structure Mz(n r:Nat)(G:List (List Int))(M:St.Meas):Prop where
 ms:St.Ms n G M
 len:M.length=n
 rn:r≤n
 pos:∀ i,i<r→0<St.mp M i
 dvd:∀ i j,i<j→j<r→St.mp M i∣St.mp M j
 zero:∀ i,r≤i→i<n→St.mp M i=0
 big:∀ x∈M,x.2<2 ^ 5400∧∀ y∈x.1,y.natAbs<2 ^ 5461
theorem zec{n:Nat}{bills G:List (List Int)}(H:Hall n bills)(es:z66 [z0o n bills]=some (LL G))(Gd:St.Good n (10 ^ 30) bills G):∃ M,z28 [z0o n bills]=some (MD M)∧Mz n G.length G M:=by
 have n6:=H.n6
 have gl:=St.z7c Gd.asc (Nat.zero_le _)
 generalize hr:G.length=r at *
 have rn:r≤n:=by omega
 have g899:∀ x∈G,St.Lt (2 ^ 899) x:=fun x hx=>(Gd.small H.lt (by decide) x hx).mono (bnd899 _ (by omega))
 have gr:∀ x∈G,x.length=n:=fun x hx=>(Gd.asc.mem hx).1
 have t1:=z8i G n gr (by omega)
 have pl:(St.trn n G).length=n:=St.z0Z _ _
 have tr:∀ x∈St.trn n G,x.length=r:=fun x hx=>by rw[St.z3b hx,hr]
 have ent_lt:∀ i k,(St.ent G i k).natAbs<2 ^ 899:=fun i k=>by
   by_cases hi:i<G.length
   · exact g899 _ (St.z1f hi) k
   · rw[St.z0S (by omega)];exact Nat.two_pow_pos _
 have p899:(2:Nat) ^ 899≤2 ^ 900:=Nat.pow_le_pow_right (by decide) (by decide)
 have plt:∀ x∈St.pair (St.trn n G) (St.units n),St.Lt (2 ^ 900) x:=fun x hx k=>by
   obtain⟨i,hi,rfl⟩:=List.getElem_of_mem hx
   have hi':i<n:=by rw[St.z2q (by rw[pl,St.z2c]),pl]at hi;exact hi
   have e:St.at0 ((St.pair (St.trn n G) (St.units n))[i]) k=St.ent (St.pair (St.trn n G) (St.units n)) i k:=by unfold St.ent;simp[List.getD,List.getElem?_eq_getElem hi]
   rw[e,St.z5g (n:=n) (r:=r) tr (by rw[pl];exact hi') (by rw[St.z2c];exact hi')]
   split
   · rw[St.z1v gr];have:=ent_lt k i;omega
   · rw[St.z81 hi']
     have:(1:Nat)<2 ^ 900:=Nat.one_lt_two_pow (by decide)
     split<;>simp<;>omega
 obtain⟨S,e2,G2⟩:=zar (n:=r+n) (e:=5461) (eh:=5461) (B:=2 ^ 900) (by omega) (by decide) (Nat.le_refl _) (by decide) (St.trn n G) (St.units n) (by rw[pl,St.z2c]) (St.zbF tr (St.zl2 n)) plt (Nat.two_pow_pos _) (Nat.pow_le_pow_right (by decide) (by decide)) (fun k hk=>zd6 k (by omega))
   (fun k S hk G0 x hx=>by
     have q:=G0.small (fun r hr=>plt r (List.mem_of_mem_take hr)) (Nat.two_pow_pos _) x hx (St.z02 x)
     have l:=G0.len
     have b:=zd6 S.length (by rw[List.length_take]at l;omega)
     have q:(St.hd x).natAbs<St.bnd S.length (2 ^ 900)+1:=q
     have c2:((2 ^ 5461:Nat):Int)=(2:Int) ^ 5461:=by norm_cast
     omega) (by omega)
 have sl:S.length=n:=by
   have:=G2.full (by rw[zfC _ pl];exact St.za1 tr)
   rw[this,St.z2q (by rw[pl,St.z2c]),pl]
 have s5461:∀ x∈S,St.Lt (2 ^ 5461) x:=fun x hx=>(G2.small plt (Nat.two_pow_pos _) x hx).mono (zd6 _ (by omega))
 obtain⟨W,tk,eW,bl,m0,te,_⟩:=St.start Gd.asc hr G2.asc G2.form sl G2.span
 have sq:=m0.sq
 have wp:0<St.pr (St.tops r S) r:=St.zfg fun i hi=>sq.pos hi
 have hs:=St.z5X (r:=r) G2.span
 rw[St.z5Y tr (by rw[pl,St.z2c])]at hs
 have wb:St.pr (St.tops r S) r≤2 ^ (899*r):=St.ze0 Gd.asc hr sq (fun x hx=>by
   have:=hs.iff.mpr (St.z0h hx)
   refine Lat.Span.trans (fun v hv=>?_) this
   obtain⟨y,hy,rfl⟩:=List.mem_map.mp hv
   obtain⟨z,hz,rfl⟩:=List.mem_map.mp hy
   exact Lat.Span.congr (fun k=>by simp only[St.vec];rw[St.z1C]) (St.zbC (n:=r) G2.asc (St.z0h hz))) (hd_lt Gd.asc g899)
 have b:Mb r n (St.pr (St.tops r S) r):=⟨by omega,n6,wp,by
   have h1:(2:Nat) ^ (899*r)≤2 ^ 5394:=Nat.pow_le_pow_right (by decide) (by omega)
   have h2:(2:Nat) ^ 5394<2 ^ 5400:=Nat.pow_lt_pow_right (by decide) (by decide)
   have c1:((2 ^ (899*r):Nat):Int)=(2:Int) ^ (899*r):=by norm_cast
   have c2:((2 ^ 5400:Nat):Int)=(2:Int) ^ 5400:=by norm_cast
   omega⟩
 generalize hw:St.pr (St.tops r S) r=w at *
 have wl:=m0.wl
 have mw0:Mw r n w G (St.bots r S) (St.tops r S) W:=⟨m0,fun x hx k=>by
   rw[eW]at hx
   obtain⟨y,hy,rfl⟩:=List.mem_map.mp hx
   rw[St.z2Y]
   exact s5461 y (List.mem_of_mem_take hy) _⟩
 obtain⟨A',W',e3,I',hc⟩:=zfx b mw0
 have br:∀ x∈St.bots r S,x.length=n:=fun x hx=>by
   unfold St.bots at hx
   obtain⟨y,hy,rfl⟩:=List.mem_map.mp hx
   rw[List.length_drop,(G2.asc.mem (List.mem_filter.mp hy).1).1];omega
 have dl:(z21 A' W').length=r:=by unfold z21;rw[List.length_map,z8k,I'.m.wl]
 have kl:((St.bots r S).map fun x=>(x,(0:Int))).length=n-r:=by rw[List.length_map,bl]
 have k0:∀ j,j<n-r→((St.bots r S).map fun x=>(x,(0:Int))).getD j ([],0)=((St.bots r S).getD j [],0):=fun j hj=>by
   simp[List.getD,List.getElem?_map,List.getElem?_eq_getElem (show j<(St.bots r S).length by omega)]
 have ms0:St.Ms n G (z21 A' W'++(St.bots r S).map fun x=>(x,(0:Int))):=I'.m.meas hc br _ (by rw[List.length_append,dl,kl,bl])
   (fun i hi=>by
     have:=zas A' W' (i:=i) (by rw[I'.m.wl];exact hi)
     rw[(St.z34 (by omega)).1,(St.z34 (by omega)).2]
     exact this)
   (fun j hj=>by
     unfold St.mw St.mp
     rw[St.z3M,dl,if_neg (by omega),show r+j-r=j by omega,k0 j (by omega)]
     exact⟨rfl,rfl⟩)
 have cs:Cs n r w G ((St.bots r S).map fun x=>(x,(0:Int))) 0 1 (z21 A' W'):=⟨ms0,St.Chn.first (fun i hi=>by
     rw[(zas A' W' (i:=i) (by rw[I'.m.wl];omega)).2];exact I'.m.sq.pos (by omega)) (fun i hi=>by
     rw[(zas A' W' (i:=i) (by rw[I'.m.wl];omega)).2];exact I'.m.sq.whole_col I'.m.whole (by omega)),dl,fun x hx=>by
     unfold z21 at hx
     obtain⟨q,hq,rfl⟩:=List.mem_map.mp hx
     obtain⟨i,hi,rfl⟩:=z3k.mp hq
     exact I'.wb _ (St.z1f hi)⟩
 obtain⟨M',e4,c',lt'⟩:=zfA b cs
 have e5:=z7m S r
 refine⟨M'++(St.bots r S).map fun x=>(x,(0:Int)),?_,⟨c'.ms,by rw[List.length_append,c'.len,kl];omega,rn,fun i hi=>?_,fun i j h1 h2=>?_,fun i h1 h2=>?_,fun x hx=>?_⟩⟩
 · have u1:∀ d0 d2 d3 d4 d5 d6 d7:Cell,∀ f1,z0e 1 [1] (z0l (fN 1)) (Tg.one 0) fYes (z06 true z26 (z01 (fN 1) (z01 (fN 0) fNil))) [d0,.sh f1 (.int n),d2,d3,d4,d5,d6,d7]=some (.nw,LL (St.units n)):=fun d0 d2 d3 d4 d5 d6 d7 f1=>by
     rw[z0j (e:=fun(k:Nat) => .int (0+(k:Int))) (h:=fun k=>L (St.z1Z n k)) (xs:=List.range n) (by simp[cOf,y13 n (by omega),z0G]) (fun j _=>by
      have u:=z8R n j (by omega)
      simp[cOf,u])]
     simp[LL,St.units]
   have ntk:newL ((S.map L).take r)=newL ((S.take r).map L):=by rw[List.map_take]
   have c1:∀ d0 d1 d2 d5 d6 d7:Cell,∀ f3 f4,z0e 1 [3] (iSeq (fSl (fN 4) z0L (z1G (fN 3)))) (Tg.one 0) fYes (fSl (fN 0) z0L (z1G (fN 1))) [d0,d1,d2,.sh f3 (.int r),.sh f4 (LL S),d5,d6,d7]=some (.nw,LL (St.tops r S)):=fun d0 d1 d2 d5 d6 d7 f3 f4=>by
     rw[te,z0j (e:=L) (h:=fun x=>L (x.take r)) (xs:=S.take r) (by cases f4<;>simp[cOf,z9S,newL,List.map_take]) (fun x hx=>by simp[cOf,z9S,z3w])]
     unfold LL;rw[List.map_map];rfl
   have c2:∀ d0 d1 d2 d5 d6 d7:Cell,∀ f3 f4,z0e 1 [3] (iSeq (fSl (fN 4) z0L (z1G (fN 3)))) (Tg.one 0) fYes (fSl (fN 0) (z1G (fN 1)) z0L) [d0,d1,d2,.sh f3 (.int r),.sh f4 (LL S),d5,d6,d7]=some (.nw,LL W):=fun d0 d1 d2 d5 d6 d7 f3 f4=>by
     rw[eW,z0j (e:=L) (h:=fun x=>L (x.drop r)) (xs:=S.take r) (by cases f4<;>simp[cOf,z9S,newL,List.map_take]) (fun x hx=>by simp[cOf,z5b,z1J])]
     unfold LL;rw[List.map_map];rfl
   have tl:=sq.len
   have c3:∀ d0 d1 d2 d3 d4 d6 d7:Cell,∀ f5,z0e 2 [] (z3s (fN 5)) (Tg.many [0,1]) fYes (fAt (fN 1) (fN 0)) [d0,d1,d2,d3,d4,.sh f5 (LL (St.tops r S)),d6,d7]=some (.nw,L ((List.range r).map fun i=>St.ent (St.tops r S) i i)):=fun d0 d1 d2 d3 d4 d6 d7 f5=>by
     rw[z0j (e:=fun p:Nat×List Int => .tup [.int p.1,L p.2]) (h:=fun p => .int (St.ent (St.tops r S) p.1 p.1)) (xs:=z1r 0 (St.tops r S)) (by simp[cOf,z4m]) (fun p hp=>by
      obtain⟨i,hi,rfl⟩:=z3k.mp hp
      rw[Nat.zero_add]
      have h2:=zd5 (r:=(St.tops r S).getD i []) (k:=i) (by rw[sq.rows _ (St.z1f hi)];omega)
      have x:St.ent (St.tops r S) i i=St.at0 ((St.tops r S).getD i []) i:=rfl
      rw[x]
      generalize (St.tops r S).getD i []=ra at h2 ⊢
      simp[cOf,h2])]
     have x:(z1r 0 (St.tops r S)).map (fun p=>Dt.int (St.ent (St.tops r S) p.1 p.1))=((List.range r).map fun i=>St.ent (St.tops r S) i i).map Dt.int:=by
      refine List.ext_getElem? fun i=>?_
      rw[List.getElem?_map,List.getElem?_map,List.getElem?_map]
      by_cases hi:i<r
      · rw[z8l 0 _ i (by omega),List.getElem?_range hi,Nat.zero_add];rfl
      · rw[List.getElem?_eq_none (by rw[z8k];omega),List.getElem?_eq_none (by simp;omega)];rfl
     rw[x]
   have pe:=zfB (e:=5400) ((List.range r).map fun i=>St.ent (St.tops r S) i i) (fun x hx=>by
     obtain⟨i,hi,rfl⟩:=List.mem_map.mp hx
     have hi:=List.mem_range.mp hi
     have h1:=b.hd (sq.whole_col m0.whole hi)
     have h2:=sq.pos hi
     have c2:((2 ^ 5400:Nat):Int)=(2:Int) ^ 5400:=by norm_cast
     omega) (by rw[List.length_map,List.length_range];have:=b.r6;omega)
   rw[zmF,hw]at pe
   have k1:∀ d0 d1 d2 d5 d6 d7:Cell,∀ f3 f4,∃ fl,z0e 1 [] (iSeq (z06 true z0U (z01 (fN 4) (z01 (fN 3) fNil)))) (Tg.one 0) fYes (fTup (z01 (fN 0) (z01 (fC (.int 0)) fNil))) [d0,d1,d2,.sh f3 (.int r),.sh f4 (LL S),d5,d6,d7]=some (fl,MD ((St.bots r S).map fun x=>(x,(0:Int)))):=fun d0 d1 d2 d5 d6 d7 f3 f4=>by
     have key:=z9O (nt:=1) (js:=[]) (Fi:=iSeq (z06 true z0U (z01 (fN 4) (z01 (fN 3) fNil)))) (g:=Tg.one 0) (Fe:=fTup (z01 (fN 0) (z01 (fC (.int 0)) fNil))) (ρ:=[d0,d1,d2,.sh f3 (.int r),.sh f4 (LL S),d5,d6,d7]) (e:=L) (h:=fun x=>(.sh,.tup [L x,.int 0])) (xs:=St.bots r S) (by simp[cOf,e5]) (fun x hx=>by simp[cOf];rfl)
     have x:MD ((St.bots r S).map fun x=>(x,(0:Int))) = .lst ((St.bots r S).map fun x => .tup [L x,.int 0]):=by
      unfold MD;rw[List.map_map];rfl
     rw[x]
     exact⟨_,key⟩
   have cat:∀ fa fb,∃ fl,fOp z0y (fun _=>some (fa,MD M')) (fun _=>some (fb,MD ((St.bots r S).map fun x=>(x,(0:Int))))) []=some (fl,MD (M'++(St.bots r S).map fun x=>(x,(0:Int)))):=fun fa fb=>by
     have l1:(M'.map fun x=>Dt.tup [L x.1,.int x.2]).length≤6:=by rw[List.length_map,c'.len];exact b.r6
     have l2:(((St.bots r S).map fun x=>(x,(0:Int))).map fun x=>Dt.tup [L x.1,.int x.2]).length≤6:=by rw[List.length_map,kl];omega
     have x:MD (M'++(St.bots r S).map fun x=>(x,(0:Int))) = .lst ((M'.map fun x=>Dt.tup [L x.1,.int x.2])++(((St.bots r S).map fun x=>(x,(0:Int))).map fun x=>Dt.tup [L x.1,.int x.2])):=by unfold MD;rw[List.map_append]
     rw[x]
     unfold MD
     generalize M'.map (fun x=>Dt.tup [L x.1,.int x.2])=D1 at *
     generalize ((St.bots r S).map fun x=>(x,(0:Int))).map (fun x=>Dt.tup [L x.1,.int x.2])=D2 at *
     have y:z0y (.lst D1) (.lst D2)=z6W (.lst D1) (.lst D2):=rfl
     refine⟨lfl (D1++D2),?_⟩
     show z0y (.lst D1) (.lst D2)=_
     rw[y,z6W,if_pos (by omega)]
     rfl
   have fin:∀ d0 d1 d2 d5 d6:Cell,∀ f3 f4 f7,∃ fl,fOp z0y (z06 true z3i (z01 (fN 7) fNil)) (z0e 1 [] (iSeq (z06 true z0U (z01 (fN 4) (z01 (fN 3) fNil)))) (Tg.one 0) fYes (fTup (z01 (fN 0) (z01 (fC (.int 0)) fNil)))) [d0,d1,d2,.sh f3 (.int r),.sh f4 (LL S),d5,d6,.sh f7 (MD (z21 A' W'))]=some (fl,MD (M'++(St.bots r S).map fun x=>(x,(0:Int)))):=fun d0 d1 d2 d5 d6 f3 f4 f7=>by
     obtain⟨fb,k1⟩:=k1 d0 d1 d2 d5 d6 (.sh f7 (MD (z21 A' W'))) f3 f4
     have k2:∃ fa,z06 true z3i (z01 (fN 7) fNil) [d0,d1,d2,.sh f3 (.int r),.sh f4 (LL S),d5,d6,.sh f7 (MD (z21 A' W'))]=some (fa,MD M'):=by
      generalize MD (z21 A' W')=Y at *
      generalize MD M'=Z at *
      have sn:∀(f:Fl) (d:Dt),(nrm f d).2=d:=fun _ _=>rfl
      refine⟨(nrm .nw Z).1,?_⟩
      simp[cOf,sn,e4]
     obtain⟨fa,k2⟩:=k2
     obtain⟨fl,q⟩:=cat fa fb
     refine⟨fl,?_⟩
     unfold fOp at q ⊢
     rw[k1,k2]
     exact q
   obtain⟨fl,fin⟩:=fin (.sh false (z0o n bills)) (.sh true (.int n)) (.sh true (LL G)) (.sh true (LL (St.tops r S))) (.sh true (.int w)) true true false
   have q:z3A [.sh false (z0o n bills),.no,.no,.no,.no,.no,.no,.no]=some (.rt fl (MD (M'++(St.bots r S).map fun x=>(x,(0:Int))))):=by
     unfold z3A
     refine run (ρ':=[.sh false (z0o n bills),.sh true (.int n),.no,.no,.no,.no,.no,.no]) (by simp[cOf]) ?_
     refine run (ρ':=[.sh false (z0o n bills),.sh true (.int n),.sh true (LL G),.no,.no,.no,.no,.no]) (by simp[cOf,es]) ?_
     refine run (ρ':=[.sh false (z0o n bills),.sh true (.int n),.sh true (LL G),.sh true (.int r),.no,.no,.no,.no]) (by simp[cOf,hr]) ?_
     refine run (ρ':=[.sh false (z0o n bills),.sh true (.int n),.sh true (LL G),.sh true (.int r),.sh true (LL S),.no,.no,.no]) (by
      have:=u1 (.sh false (z0o n bills)) (.sh true (LL G)) (.sh true (.int r)) .no .no .no .no true
      simp[cOf,t1,this,e2]) ?_
     refine run (ρ':=[.sh false (z0o n bills),.sh true (.int n),.sh true (LL G),.sh true (.int r),.sh true (LL S),.sh true (LL (St.tops r S)),.no,.no]) (by
      have:=c1 (.sh false (z0o n bills)) (.sh true (.int n)) (.sh true (LL G)) .no .no .no true true
      simp[cOf,this]) ?_
     refine run (ρ':=[.sh false (z0o n bills),.sh true (.int n),.sh true (LL G),.sh true (.int r),.sh true (LL S),.sh true (LL (St.tops r S)),.sh true (.int w),.no]) (by
      have:=c3 (.sh false (z0o n bills)) (.sh true (.int n)) (.sh true (LL G)) (.sh true (.int r)) (.sh true (LL S)) .no .no true
      generalize (List.range r).map (fun i=>St.ent (St.tops r S) i i)=xs at *
      simp[cOf,this,pe]) ?_
     refine run (ρ':=[.sh false (z0o n bills),.sh true (.int n),.sh true (LL G),.sh true (.int r),.sh true (LL S),.sh true (LL (St.tops r S)),.sh true (.int w),.sh false (MD (z21 A' W'))]) (by
      have:=c2 (.sh false (z0o n bills)) (.sh true (.int n)) (.sh true (LL G)) (.sh true (LL (St.tops r S))) (.sh true (.int w)) .no true true
      have nf:∀ f,nrm f (MD (z21 A' W'))=(f,MD (z21 A' W')):=fun f=>rfl
      generalize MD (z21 A' W')=Y at *
      simp[cOf,this,e3,nf]
      try rfl) ?_
     unfold sRet
     rw[fin]
     rfl
   unfold z28 cOf
   rw[if_pos (show[z0o n bills].length=1 from rfl)]
   show(z3A [.sh false (z0o n bills),.no,.no,.no,.no,.no,.no,.no]).bind _=_
   rw[q]
   rfl
 · rw[(St.z34 (by rw[c'.len];exact hi)).1];exact c'.ch.pos i (by rw[c'.len];exact hi)
 · rw[(St.z34 (by rw[c'.len];omega)).1,(St.z34 (by rw[c'.len];omega)).1];exact c'.ch.all i j (by omega) h1 (by rw[c'.len];omega)
 · unfold St.mp
   rw[St.z3M,c'.len,if_neg (by omega),k0 _ (by omega)]
 · rcases List.mem_append.mp hx with hx|hx
   · obtain⟨i,hi,rfl⟩:=List.getElem_of_mem hx
     have w1:=c'.ch.whole i hi
     unfold St.mp at w1
     rw[List.getD,List.getElem?_eq_getElem hi]at w1
     have h1:=b.hd w1
     refine⟨h1,fun y hy=>?_⟩
     have h2:=lt' _ hx y hy
     have h3:(2:Nat) ^ 5400≤2 ^ 5461:=Nat.pow_le_pow_right (by decide) (by decide)
     have c2:((2 ^ 5400:Nat):Int)=(2:Int) ^ 5400:=by norm_cast
     have h1:M'[i].2<2 ^ 5400:=h1
     omega
   · obtain⟨z,hz,rfl⟩:=List.mem_map.mp hx
     refine⟨Int.pow_pos (by decide),fun y hy=>?_⟩
     unfold St.bots at hz
     obtain⟨u,hu,rfl⟩:=List.mem_map.mp hz
     obtain⟨k,hk⟩:=ze3 hy
     rw[←hk]
     show(St.at0 (u.drop r) k).natAbs<_
     rw[St.z2Y]
     exact s5461 u (List.mem_filter.mp hu).1 _
theorem zle{n:Nat}{bills:List (List Int)}{M:St.Meas}(h:z28 [z0o n bills]=some (MD M)):z2t [z0o n bills]=some (MD (M.filter fun x=>!decide (x.2=1))):=by
 have key:∃ f,z0e 2 [] (iSeq (z06 false z28 (z01 (fN 0) fNil))) (Tg.many [0,1]) (z0n (fOp opNe (fN 1) (fC (.int 1)))) (fTup (z01 (fN 0) (z01 (fN 1) fNil))) [.sh false (z0o n bills)]=some (f,MD (M.filter fun x=>!decide (x.2=1))):=by
  unfold z0e
  have nf:nrm .sh (MD M)=(.sh,MD M):=rfl
  have it:iSeq (z06 false z28 (z01 (fN 0) fNil)) [.sh false (z0o n bills)]=some (M.map tD):=by
   have e:seqD (MD M)=some (M.map tD):=rfl
   generalize MD M=Y at *
   simp[cOf,h,nf,e]
  rw[it,z0p,z4K tD (fun x=>(.sh,tD x)) (fun x=>!decide (x.2=1)) M (fun x _=>by simp[cOf,tD,z0H]) (fun x _ _=>by simp[cOf,tD];rfl),z0p,z5a]
  exact⟨_,rfl⟩
 obtain⟨f,key⟩:=key
 have q:z5r [.sh false (z0o n bills)]=some (.rt f (MD (M.filter fun x=>!decide (x.2=1)))):=by
  unfold z5r sRet
  rw[key];rfl
 unfold z2t cOf
 rw[if_pos (show[z0o n bills].length=1 from rfl)]
 show(z5r [.sh false (z0o n bills)]).bind _=_
 rw[q]
 rfl
def dotL(w r:List Int):Int:=(List.range r.length).foldl (fun t k=>t+St.at0 w k*St.at0 r k) 0
theorem z9l(w r:List Int):dotL w r=St.dt r.length w (St.vec r):=by
 unfold dotL St.dt
 have key:∀(n:Nat) (f:Nat→Int) (t:Int),(List.range n).foldl (fun t k=>t+f k) t=t+St.sm n f:=by
  intro n
  induction n with
  | zero=>intro f t;simp[St.sm]
  | succ n ih =>
   intro f t
   rw[List.range_succ_eq_map,List.foldl_cons,List.foldl_map,St.sm]
   have:=ih (fun k=>f (k+1)) (t+f 0)
   rw[this];omega
 rw[key r.length (fun k=>St.at0 w k*St.at0 r k) 0,Int.zero_add]
theorem zat{e:Nat}(w r:List Int)(h:w.length=r.length)(h1:∀ x∈w,x.natAbs<2 ^ e)(h2:∀ x∈r,x.natAbs<2 ^ e)(he:e≤60000000)(hr:r.length≤1000):z2N [L w,L r]=some (.int (dotL w r)):=by
 obtain⟨j,q⟩:=zfb (g:=Tg.one 3) (F:=sSet [] 2 (fOp z0y (fN 2) (fOp z19 (fAt (fN 0) (fN 3)) (fAt (fN 1) (fN 3))))) (R:=fun i (c:Cell)=>[.sh false (L w),.sh false (L r),.sh true (.int ((List.range i).foldl (fun t k=>t+St.at0 w k*St.at0 r k) 0)),c]) r.length .no (fun i c hi=>⟨.sh false (.int i),by
  have a1:=zd5 (r:=w) (k:=i) (by omega)
  have a2:=zd5 (r:=r) (k:=i) hi
  have m:z18 (St.at0 w i) (St.at0 r i)=true:=z25 (St.z4c (Nat.two_pow_pos e) h1 i) (St.z4c (Nat.two_pow_pos e) h2 i) (by omega)
  rw[List.range_succ,List.foldl_append]
  generalize (List.range i).foldl (fun t k=>t+St.at0 w k*St.at0 r k) 0=t
  simp[cOf,a1,a2,m]⟩)
 unfold z2N z8f
 have q:forF (Tg.one 3) (sSet [] 2 (fOp z0y (fN 2) (fOp z19 (fAt (fN 0) (fN 3)) (fAt (fN 1) (fN 3))))) (z1Y 0 r.length) [.sh false (L w),.sh false (L r),.sh true (.int 0),.no]=some (.nx [.sh false (L w),.sh false (L r),.sh true (.int (dotL w r)),j]):=q
 simp[cOf,y13 r.length (by omega),q]
def okS(d:List Int)(x:List Int×Int):Bool:=if x.2=0 then decide (dotL x.1 d=0) else decide ((dotL x.1 d).fmod x.2=0)
theorem zd7{d:List Int}{x:List Int×Int}:okS d x=true↔x.2∣dotL x.1 d:=by
 unfold okS
 by_cases h:x.2=0
 · rw[if_pos h,h,decide_eq_true_iff];exact Int.zero_dvd.symm
 · rw[if_neg h,decide_eq_true_iff]
   exact⟨Int.dvd_of_fmod_eq_zero,Int.fmod_eq_zero_of_dvd⟩
theorem zmG{n r:Nat}{G bills:List (List Int)}{M:St.Meas}{d:List Int}(Z:Mz n r G M)(hs:Lat.SameSpan (St.vecs G) (St.vecs bills))(hd:d.length=n):
   ((M.filter fun x=>!decide (x.2=1)).all (okS d)=true)↔Lat.Span (St.vecs bills) (fun k=>St.at0 d k):=by
 rw[←hs.iff,Z.ms.ker _ (fun k hk=>St.z0Y (by omega)),List.all_eq_true]
 constructor
 · intro h i hi
   have m:(St.mw M i,St.mp M i)∈M:=by
     unfold St.mw St.mp
     rw[List.getD,List.getElem?_eq_getElem hi]
     exact List.getElem_mem hi
   by_cases h1:St.mp M i=1
   · rw[h1];exact Int.one_dvd _
   · have:=zd7.mp (h _ (List.mem_filter.mpr ⟨m,by simp[h1]⟩))
     rw[z9l,hd]at this
     exact this
 · intro h x hx
   obtain⟨i,hi,rfl⟩:=List.getElem_of_mem (List.mem_filter.mp hx).1
   have:=h i hi
   unfold St.mw St.mp at this
   rw[List.getD,List.getElem?_eq_getElem hi]at this
   refine zd7.mpr ?_
   rw[z9l,hd]
   exact this
theorem zmH(a:Int):z5n [.int a,.int 0]=some (.int a):=by
 unfold z5n zcT
 simp[cOf,z0M]
theorem zqg(w r:List Int)(h:r.length=w.length):((r.zip w).map fun p=>p.1*p.2).sum=dotL w r:=by
 rw[z9l]
 unfold St.dt
 induction r generalizing w with
 | nil=>cases w with
  | nil=>rfl
  | cons x w=>cases h
 | cons y r ih=>cases w with
  | nil=>cases h
  | cons x w =>
   rw[List.zip_cons_cons,List.map_cons,List.sum_cons,List.length_cons,St.sm,ih w (by simpa using h),Int.mul_comm]
   rfl
theorem zfD{e:Nat}(dd:Dt)(r w:List Int)(hdd:RowD dd r)(h:r.length=w.length)(h1:∀ x∈w,x.natAbs<2 ^ e)(h2:∀ x∈r,x.natAbs<2 ^ e)(he:e≤60000000):z61 [dd,L w]=some (.int (dotL w r)):=by
 have q:z0e 2 [] (iZip (fN 0) (fN 1)) (Tg.many [0,1]) fYes (fOp z19 (fN 0) (fN 1)) [.sh false dd,.sh false (L w)]=some (.nw,.lst ((r.zip w).map fun p => .int (p.1*p.2))):=by
  rw[z0j (e:=fun p:Int×Int => .tup [.int p.1,.int p.2]) (h:=fun p => .int (p.1*p.2)) (xs:=r.zip w) (by rcases hdd with rfl|rfl<;>simp[cOf,h,z49]) (fun p hp=>by
   have m:z18 p.1 p.2=true:=z25 (h2 _ (List.of_mem_zip hp).1) (h1 _ (List.of_mem_zip hp).2) (by omega)
   simp[cOf,m])]
 have e2:z4H ((r.zip w).map fun p=>Dt.int (p.1*p.2))=some ((r.zip w).map fun p=>p.1*p.2):=by
  have:=z8L ((r.zip w).map fun p=>p.1*p.2)
  rw[List.map_map]at this
  exact this
 have s:=zqg w r h
 unfold z61 z83
 generalize (r.zip w).map (fun p=>Dt.int (p.1*p.2))=D at *
 generalize (r.zip w).map (fun p=>p.1*p.2)=D2 at *
 rcases hdd with rfl|rfl<;>simp[cOf,q,bSum,e2,s]
def mdS(d:List Int)(x:List Int×Int):List Int×Int:=(x.1,if x.2=0 then((dotL x.1 d).natAbs:Int)+1 else x.2)
theorem zqh{e:Nat}{dd:Dt}{d:List Int}{x:List Int×Int}(hdd:RowD dd d)(h:d.length=x.1.length)(h1:∀ y∈x.1,y.natAbs<2 ^ e)(h2:∀ y∈d,y.natAbs<2 ^ e)(he:e≤60000000)(hp:0≤x.2):
   z5s [dd,tD x]=some (.int (if x.2=0 then dotL x.1 d else(dotL x.1 d).fmod x.2)):=by
 obtain⟨w,p⟩:=x
 have e1:=zfD dd d w hdd h h1 h2 he
 have sn:∀(f:Fl) (d:Dt),(nrm f d).2=d:=fun _ _=>rfl
 clear hdd
 unfold z5s zfh tD
 by_cases hp0:p=0
 · subst hp0
   have:=zmH (dotL w d)
   simp[cOf,sn,e1,this]
 · have:=zk7 (dotL w d) p (by dsimp only at hp;omega)
   simp[cOf,sn,e1,this,hp0]
theorem zed(d:List Int)(x:List Int×Int):z1q [tD x,.int (if x.2=0 then dotL x.1 d else(dotL x.1 d).fmod x.2)]=some (tD (mdS d x)):=by
 obtain⟨w,p⟩:=x
 unfold z1q z2L tD mdS
 by_cases hp0:p=0
 · subst hp0
   simp[cOf,z0M,bAbs]
   split<;>omega
 · simp[cOf,z0M,hp0]
abbrev DF:FS:=(sSeq (sSet [] 5 (z06 true z5s (z01 (fN 3) (z01 (fN 4) fNil))))
 (sIf (z0n (fOp opNe (fN 5) (fC (.int 0)))) (sRet (z06 false z1q (z01 (fN 4) (z01 (fN 5) fNil)))) z0A))
theorem zee{d:List Int}(c0 c1 c2:Cell):∀(Q:St.Meas) (c4 c5:Cell),(∀ x∈Q,z5s [L d,tD x]=some (.int (if x.2=0 then dotL x.1 d else(dotL x.1 d).fmod x.2))) →
  (Q.all (okS d)=true∧∃ c4' c5',forF (Tg.one 4) DF (Q.map tD) [c0,c1,c2,.sh true (L d),c4,c5]=some (.nx [c0,c1,c2,.sh true (L d),c4',c5'])) ∨
  (Q.all (okS d)=false∧∃ x∈Q,¬okS d x=true∧∃ f,forF (Tg.one 4) DF (Q.map tD) [c0,c1,c2,.sh true (L d),c4,c5]=some (.rt f (tD (mdS d x))))
 | [],c4,c5,_ => .inl ⟨rfl,c4,c5,rfl⟩
 | x::Q,c4,c5,h=>by
  have e1:=h x List.mem_cons_self
  have e2:=zed d x
  have hok:okS d x=decide ((if x.2=0 then dotL x.1 d else(dotL x.1 d).fmod x.2)=0):=by unfold okS;split<;>rfl
  rw[List.map_cons,z1b,List.all_cons]
  have sn:∀(f:Fl) (d:Dt),(nrm f d).2=d:=fun _ _=>rfl
  generalize (if x.2=0 then dotL x.1 d else(dotL x.1 d).fmod x.2)=v at *
  by_cases hv:v=0
  · have ok:okS d x=true:=by rw[hok,decide_eq_true hv]
    have st:(Tg.put (Tg.one 4) (tD x) [c0,c1,c2,.sh true (L d),c4,c5]).bind DF=some (.nx [c0,c1,c2,.sh true (L d),.sh false (tD x),.sh true (.int v)]):=by
      generalize tD x=X at *
      simp[cOf,sn,e1,z0H,hv]
    rw[st,ok,Bool.true_and]
    rcases zee c0 c1 c2 Q (.sh false (tD x)) (.sh true (.int v)) (fun y hy=>h y (List.mem_cons_of_mem _ hy)) with⟨a,c4',c5',q⟩|⟨a,y,hy,ny,f,q⟩
    · exact .inl ⟨a,c4',c5',q⟩
    · exact .inr ⟨a,y,List.mem_cons_of_mem _ hy,ny,f,q⟩
  · have no:okS d x=false:=by rw[hok,decide_eq_false hv]
    have st:∃ f,(Tg.put (Tg.one 4) (tD x) [c0,c1,c2,.sh true (L d),c4,c5]).bind DF=some (.rt f (tD (mdS d x))):=by
      generalize tD (mdS d x)=Y at *
      generalize tD x=X at *
      refine⟨(nrm .sh Y).1,?_⟩
      simp[cOf,sn,e1,e2,z0H,hv]
    obtain⟨f,st⟩:=st
    rw[st,no]
    exact .inr ⟨rfl,x,List.mem_cons_self,by rw[no];exact Bool.false_ne_true,f,rfl⟩
theorem zd8{n:Nat}{bills:List (List Int)}{Q:St.Meas}{one other:List Int}(ec:z2t [z0o n bills]=some (MD Q))(h1:one.length=n)(h2:other.length=n)(ht:∀ x∈Q,z5s [L (subR other one),tD x]=some (.int (if x.2=0 then dotL x.1 (subR other one) else(dotL x.1 (subR other one)).fmod x.2))):
   (Q.all (okS (subR other one))=true∧z4i [z0o n bills,L one,L other]=some .non)∨(Q.all (okS (subR other one))=false∧∃ x∈Q,¬okS (subR other one) x=true∧z4i [z0o n bills,L one,L other]=some (tD (mdS (subR other one) x))):=by
 have ap:=ze5 n bills one other h1 h2
 generalize subR other one=d at *
 have e0:sSet [] 3 (z06 true z64 (z01 (fN 0) (z01 (fN 1) (z01 (fN 2) fNil)))) [.sh false (z0o n bills),.sh false (L one),.sh false (L other),.no,.no,.no]=some (.nx [.sh false (z0o n bills),.sh false (L one),.sh false (L other),.sh true (L d),.no,.no]):=by simp[cOf,ap]
 have it:iSeq (z06 false z2t (z01 (fN 0) fNil)) [.sh false (z0o n bills),.sh false (L one),.sh false (L other),.sh true (L d),.no,.no]=some (Q.map tD):=by
   have nf:nrm .sh (MD Q)=(.sh,MD Q):=rfl
   have e:seqD (MD Q)=some (Q.map tD):=rfl
   generalize MD Q=Y at *
   simp[cOf,ec,nf,e]
 have fin:∀ o,forF (Tg.one 4) DF (Q.map tD) [.sh false (z0o n bills),.sh false (L one),.sh false (L other),.sh true (L d),.no,.no]=some o→sFor [] (iSeq (z06 false z2t (z01 (fN 0) fNil))) (Tg.one 4) DF [.sh false (z0o n bills),.sh false (L one),.sh false (L other),.sh true (L d),.no,.no]=some o:=fun o h=>by
   show(iSeq (z06 false z2t (z01 (fN 0) fNil)) [.sh false (z0o n bills),.sh false (L one),.sh false (L other),.sh true (L d),.no,.no]).bind _=_
   rw[it]
   exact h
 have out:∀ f v,z4h [.sh false (z0o n bills),.sh false (L one),.sh false (L other),.no,.no,.no]=some (.rt f v)→z4i [z0o n bills,L one,L other]=some v:=fun f v q=>by
   unfold z4i cOf
   rw[if_pos (show[z0o n bills,L one,L other].length=3 from rfl)]
   show(z4h [.sh false (z0o n bills),.sh false (L one),.sh false (L other),.no,.no,.no]).bind _=_
   rw[q]
   rfl
 rcases zee (.sh false (z0o n bills)) (.sh false (L one)) (.sh false (L other)) Q .no .no ht with⟨a,c4,c5,q⟩|⟨a,x,hx,nx,f,q⟩
 · refine .inl ⟨a,out .nw .non ?_⟩
   unfold z4h
   refine run e0 (run (fin _ q) ?_)
   simp[cOf]
 · refine .inr ⟨a,x,hx,nx,out f _ ?_⟩
   unfold z4h
   refine run e0 ?_
   show(sFor [] (iSeq (z06 false z2t (z01 (fN 0) fNil))) (Tg.one 4) DF [.sh false (z0o n bills),.sh false (L one),.sh false (L other),.sh true (L d),.no,.no]).bind (seqO _)=_
   rw[fin _ q]
   rfl
theorem zef{n:Nat}{bills:List (List Int)}{one other d w:List Int}{m:Int}(H:Hall n bills)(h1:one.length=n)(h2:other.length=n)(hd:addR other (sclR (-1) one)=d)(hw:w.length=n)(hm:2≤m)(b1:∀ x∈w,x.natAbs<2 ^ 5461)(b2:∀ x∈d,x.natAbs<2 ^ 5461)
  (ev:∀ b∈bills,(dotL w b).fmod m=0) (od:¬(dotL w d).fmod m=0):z3E [LL bills,L one,L other,tD (w,m)]=some (.bl true):=by
 have n6:=H.n6
 have p1:=z8h other one (-1) (by omega) (by omega) (fun x _=>z2k (by decide))
 have hdl:d.length=n:=by rw[←hd,z2m (by rw[z0B];omega)];exact h2
 rw[hd]at p1
 have hv:=zat (e:=5461) w d (by rw[hw,hdl]) b1 b2 (by decide) (by omega)
 have ir:=z8Q w n
 rw[hw,decide_eq_true rfl]at ir
 have iw:z1T [.int m]=some (.bl true):=by unfold z1T z69;simp[cOf]
 obtain⟨j,q⟩:=z5R (g:=Tg.one 4) (F:=(sIf (z0n (fOp opNe (fOp z1n (z06 true z2N (z01 (fAt (fN 3) (fC (.int 0))) (z01 (fN 4) fNil))) (fAt (fN 3) (fC (.int 1)))) (fC (.int 0)))) (sRet (fC (.bl false))) z0A)) (e:=L) (R:=fun(_:Unit) (c:Cell)=>[.sh false (LL bills),.sh false (L one),.sh false (L other),.sh false (tD (w,m)),c]) (step:=fun _ _=>()) bills () .no
  (fun _ b c hb=>⟨.sh false (L b),by
   have e:=zat (e:=5461) w b (by rw[hw,H.wide b hb]) b1 (fun x hx=>Nat.lt_of_lt_of_le (lt30 (H.small b hb x hx)) (Nat.pow_le_pow_right (by decide) (by decide))) (by decide) (by rw[H.wide b hb];omega)
   have z:=ev b hb
   unfold tD
   simp[cOf,e,z2G (show 0<m by omega),z,z0H]⟩)
 unfold z3E z6F
 have q:forF (Tg.one 4) (sIf (z0n (fOp opNe (fOp z1n (z06 true z2N (z01 (fAt (fN 3) (fC (.int 0))) (z01 (fN 4) fNil))) (fAt (fN 3) (fC (.int 1)))) (fC (.int 0)))) (sRet (fC (.bl false))) z0A) (bills.map L) [.sh false (LL bills),.sh false (L one),.sh false (L other),.sh false (.tup [L w,.int m]),.no]=some (.nx [.sh false (LL bills),.sh false (L one),.sh false (L other),.sh false (.tup [L w,.int m]),j]):=q
 unfold tD
 simp[cOf,h1,ir,iw,show ¬m<2 by omega,q,p1,hv,z2G (show 0<m by omega),z0H,od]
theorem t_plan:PyData.strOk "plan" = true:=by unfold PyData.strOk;rw[←Array.all_toList];decide
theorem zmI:PyData.strOk "denial" = true:=by unfold PyData.strOk;rw[←Array.all_toList];decide
theorem zmJ(ns:List Int)(h:ns.length≤63):zk3 [.scr ns]=some (.bl true):=by
  have H:=zfr ns
  have eb:=zfi ns
  generalize z2l ns=bills at *
  generalize z1k ns=n at *
  have n6:=H.n6
  have m8:=H.m8
  have eh:=H.made
  obtain⟨S,es,G,sS⟩:=zfp H
  obtain⟨M,em,Z⟩:=zec H es G
  have ec:=zle em
  obtain⟨one,other,b,ek,K⟩:=zd3 ns H
  have l1:=K.l1
  have l2:=K.l2
  have cp:=copies bills [.sh false (.scr ns),.sh true (.tup [.int n,LL bills]),.sh true (.int n),.sh true (LL bills),.no,.no,.no,.no] (fN 3) .fr (by simp[cOf])
  have same:addR other (sclR (-1) one)=subR other one:=St.ext0 (by rw[z2m (by rw[z0B];omega),z74 (by omega)]) fun k=>by rw[z4N (by rw[z0B];omega),z3c,z5i (by omega)];omega
  have hsl:(subR other one).length=n:=by rw[z74 (by omega)];exact l2
  have ssm:St.Lt (2 ^ 211) (subR other one):=by
    rw[←same]
    exact zmB (by rw[z0B];omega) K.s2 (fun k=>by
      rw[z3c]
      have:=K.s1.mono (show 2 ^ 100≤2 ^ 210 by decide) k
      omega)
  have sbt:∀ x∈subR other one,x.natAbs<2 ^ 5461:=zmu (ssm.mono (Nat.pow_le_pow_right (by decide) (by decide)))
  have ae:=zmG Z G.span hsl
  have hsp:(fun k=>St.at0 (subR other one) k)=fun k=>St.at0 other k-St.at0 one k:=funext fun k=>z5i (by omega) k
  rw[hsp]at ae
  have hp:∀ x∈M.filter (fun x=>!decide (x.2=1)),0≤x.2∧x.2≠1:=fun x hx=>by
    obtain⟨hm,h1⟩:=List.mem_filter.mp hx
    refine⟨?_,by simpa using h1⟩
    obtain⟨i,hi,rfl⟩:=List.getElem_of_mem hm
    have e:M[i].2=St.mp M i:=by unfold St.mp;rw[List.getD,List.getElem?_eq_getElem hi];rfl
    rw[e]
    by_cases q:i<S.length
    · have:=Z.pos i q;omega
    · rw[Z.zero i (by omega) (by rw[←Z.len];exact hi)];omega
  have hev:∀ x∈M,∀ bl∈bills,x.2∣dotL x.1 bl:=fun x hx bl hb=>by
    obtain⟨i,hi,rfl⟩:=List.getElem_of_mem hx
    have sp:Lat.Span (St.vecs S) (fun k=>St.at0 bl k):=G.span.iff.mpr (St.z0h hb)
    have:=(Z.ms.ker _ (fun k hk=>St.z0Y (by rw[H.wide bl hb];exact hk))).mp sp i hi
    unfold St.mw St.mp at this
    rw[List.getD,List.getElem?_eq_getElem hi]at this
    rw[z9l,H.wide bl hb]
    exact this
  have hrow:∀ x∈M.filter (fun x=>!decide (x.2=1)),x∈M:=fun x hx=>(List.mem_filter.mp hx).1
  have ht:∀ x∈M.filter (fun x=>!decide (x.2=1)),z5s [L (subR other one),tD x]=some (.int (if x.2=0 then dotL x.1 (subR other one) else(dotL x.1 (subR other one)).fmod x.2)):=fun x hx =>
    zqh (e:=5461) (.inl rfl) (by rw[Z.ms.rows x (hrow x hx),hsl]) (Z.big x (hrow x hx)).2 sbt (by decide) (hp x hx).1
  generalize M.filter (fun x=>!decide (x.2=1))=Q at *
  have ne:=zkV [one,other] [one,other]
  rw[decide_eq_true rfl]at ne
  have ne:opNe (Dt.lst [L one,L other]) (Dt.lst [Dt.lst (one.map Dt.int),Dt.lst (other.map Dt.int)])=some (.nw,.bl false):=ne
  have i1:∀ us:List Int,zdy (L us) .non=some (.nw,.bl false):=fun us=>rfl
  have i2:zdy .non .non=some (.nw,.bl true):=rfl
  have sn:∀(f:Fl) (d:Dt),(nrm f d).2=d:=fun _ _=>rfl
  have k1:Dt.okN 8 (.str "plan")=true:=t_plan
  have k2:Dt.okN 8 (.str "denial")=true:=zmI
  have e1:opEq (.str "plan") (.str "plan")=some (.nw,.bl true):=by simp[opEq,k1];rfl
  have e2:opEq (.str "denial") (.str "plan")=some (.nw,.bl false):=by simp[opEq,k1,k2];rfl
  have e3:opNe (.str "denial") (.str "denial")=some (.nw,.bl false):=by simp[opNe,k2];rfl
  refine z3K (f := .nw) rfl ?_ rfl
  unfold zmv
  refine run (ρ':=[.sh false (.scr ns),.sh true (.tup [.int n,LL bills]),.no,.no,.no,.no,.no,.no]) (by simp[cOf,eb]) ?_
  refine run (ρ':=[.sh false (.scr ns),.sh true (.tup [.int n,LL bills]),.sh true (.int n),.no,.no,.no,.no,.no]) (by simp[cOf]) ?_
  refine run (ρ':=[.sh false (.scr ns),.sh true (.tup [.int n,LL bills]),.sh true (.int n),.sh true (LL bills),.no,.no,.no,.no]) (by simp[cOf]) ?_
  refine run (ρ':=[.sh false (.scr ns),.sh true (.tup [.int n,LL bills]),.sh true (.int n),.sh true (LL bills),.sh true (z0o n bills),.no,.no,.no]) (by simp[cOf,cp,eh]) ?_
  refine run (ρ':=[.sh false (.scr ns),.sh true (.tup [.int n,LL bills]),.sh true (.int n),.sh true (LL bills),.sh true (z0o n bills),.sh true (.tup [L one,L other,.bl b]),.no,.no]) (by simp[cOf,ek]) ?_
  refine run (ρ':=[.sh false (.scr ns),.sh true (.tup [.int n,LL bills]),.sh true (.int n),.sh true (LL bills),.sh true (z0o n bills),.sh true (.tup [L one,L other,.bl b]),.sh true (LL [one,other]),.no]) (by simp[cOf]) ?_
  rcases zft H K with⟨us,pl,ld,sp⟩|⟨pl,sp⟩
  · have jd:z4j [z0o n bills,L one,L other]=some (.tup [.str "plan",L us]):=by
      unfold z4j z7i
      simp[cOf,pl,i1]
    refine run (ρ':=[.sh false (.scr ns),.sh true (.tup [.int n,LL bills]),.sh true (.int n),.sh true (LL bills),.sh true (z0o n bills),.sh true (.tup [L one,L other,.bl b]),.sh true (LL [one,other]),.sh false (.tup [.str "plan",L us])]) (by simp[cOf,jd];rfl) ?_
    simp[cOf,ne,e1,ld,z0H,sn]
  · have hn : True:=trivial
    have hb:b=false:=by
      cases b with
      | false=>rfl
      | true=>exact absurd (K.span H rfl) sp
    subst hb
    rcases zd8 ec l1 l2 ht with⟨a,_⟩|⟨a,x,hx,nx,dn⟩
    · exact absurd (ae.mp a) sp
    · have hq:=hp x hx
      have hm:=hrow x hx
      have hno:¬x.2∣dotL x.1 (subR other one):=fun q=>nx (zd7.mpr q)
      have dd:z3E [LL bills,L one,L other,tD (mdS (subR other one) x)]=some (.bl true):=by
        unfold mdS
        refine zef H l1 l2 same (Z.ms.rows x hm) ?_ (Z.big x hm).2 sbt (fun bl hbl=>?_) ?_
        · split
          · rename_i h0
            rw[h0]at hno
            have:dotL x.1 (subR other one)≠0:=fun q=>hno (by rw[q];exact Int.dvd_refl 0)
            omega
          · omega
        · have:=hev x hm bl hbl
          split
          · rename_i h0
            rw[h0]at this
            rw[Int.zero_dvd.mp this];simp
          · exact Int.fmod_eq_zero_of_dvd this
        · split
          · rename_i h0
            rw[h0]at hno
            intro q
            have q:=Int.dvd_of_fmod_eq_zero q
            have nz:dotL x.1 (subR other one)≠0:=fun q=>hno (by rw[q];exact Int.dvd_refl 0)
            have:=Int.natAbs_dvd_natAbs.mpr q
            have:=Nat.le_of_dvd (by omega) this
            omega
          · exact fun q=>hno (Int.dvd_of_fmod_eq_zero q)
      have nf:∀ f,nrm f (tD (mdS (subR other one) x))=(f,tD (mdS (subR other one) x)):=fun f=>rfl
      have fl:(tD (mdS (subR other one) x)).flat=false:=rfl
      generalize tD (mdS (subR other one) x)=Y at *
      have jd:z4j [z0o n bills,L one,L other]=some (.tup [.str "denial",Y]):=by
        unfold z4j z7i
        simp[cOf,pl,i2,dn,nf]
      refine run (ρ':=[.sh false (.scr ns),.sh true (.tup [.int n,LL bills]),.sh true (.int n),.sh true (LL bills),.sh true (z0o n bills),.sh true (.tup [L one,L other,.bl false]),.sh true (LL [one,other]),.sh false (.tup [.str "denial",Y])]) (by simp[cOf,jd,fl];rfl) ?_
      simp[cOf,ne,e2,e3,sn,dd,z0H]
end
def top(i:Nat):Stmt:=PySem.Challenge.pw_changehall_k10_whole_plan_or_denial.main.body.getD i (.Pass ⟨0,0,0,0⟩)
abbrev z6I:Stmt:=top 1
theorem zeg:FnScope ["value"] ["value"] (z04 z6I):=scm
abbrev z7p:Stmt:=top 2
theorem zlf:FnScope ["value", "length"] ["value", "length"] (z04 z7p):=scm
abbrev z6c:Stmt:=top 3
theorem zfE:FnScope ["length"] ["length"] (z04 z6c):=scm
abbrev z4U:Stmt:=top 4
theorem zeh:FnScope ["length", "one_at"] ["length", "one_at"] (z04 z4U):=scm
abbrev z9m:Stmt:=top 5
theorem zmK:FnScope ["one", "other"] ["one", "other"] (z04 z9m):=scm
abbrev z9n:Stmt:=top 6
theorem zmL:FnScope ["one", "other"] ["one", "other"] (z04 z9n):=scm
abbrev z7q:Stmt:=top 7
theorem zlg:FnScope ["row", "often"] ["row", "often"] (z04 z7q):=scm
abbrev z6d:Stmt:=top 8
theorem zfF:FnScope ["row", "weights"] ["row", "weights"] (z04 z6d):=scm
abbrev z8m:Stmt:=top 9
theorem z6J:FnScope ["row", "spot", "number"] ["row"] (z04 z8m):=scm
abbrev z5z:Stmt:=top 17
theorem zd9:FnScope ["value"] ["value"] (z04 z5z):=scm
abbrev z6e:Stmt:=top 18
theorem zfG:FnScope ["value", "kinds"] ["value", "kinds"] (z04 z6e):=scm
abbrev z4V:Stmt:=top 19
theorem zb8:FnScope ["kinds"] ["kinds"] (z04 z4V):=scm
abbrev z5A:Stmt:=top 20
theorem zda:FnScope ["bill", "kinds"] ["bill", "kinds"] (z04 z5A):=scm
abbrev z6f:Stmt:=top 22
theorem zfH:FnScope ["kinds", "rows"] ["kinds", "rows"] (z04 z6f):=scm
abbrev z8n:Stmt:=top 21
theorem zau:FnScope ["kinds", "bills", "bill"] ["kinds", "bills"] (z04 z8n):=scm
abbrev z2O:Stmt:=top 23
theorem z7r:FnScope ["kinds", "basket"] ["kinds", "basket"] (z04 z2O):=scm
abbrev z40:Stmt:=top 24
theorem zav:FnScope ["hall", "basket"] ["hall", "basket"] (z04 z40):=scm
abbrev zaw:Stmt:=top 25
theorem zlh:FnScope ["hall"] ["hall"] (z04 zaw):=scm
abbrev zdb:Stmt:=top 26
theorem zmM:FnScope ["hall", "one", "other"] ["hall", "one", "other"] (z04 zdb):=scm
abbrev z5B:Stmt:=top 28
theorem z2g:FnScope ["a", "b", "upper", "lower", "often", "left"] ["a", "b"] (z04 z5B):=scm
abbrev zfI:Stmt:=top 29
theorem zqi:FnScope ["a", "part"] ["a", "part"] (z04 zfI):=scm
abbrev z8o:Stmt:=top 30
theorem z4W:FnScope ["numbers", "found", "number"] ["numbers"] (z04 z8o):=scm
abbrev z6K:Stmt:=top 32
theorem z1L:FnScope ["row", "rungs", "left", "counts", "rung", "spot", "often"] ["row", "rungs"] (z04 z6K):=scm
abbrev z8p:Stmt:=top 33
theorem zfJ:FnScope ["row", "rungs"] ["row", "rungs"] (z04 z8p):=scm
abbrev z8q:Stmt:=top 34
theorem z3F:FnScope ["rung", "row", "spot", "found", "upper", "lower"] ["rung", "row"] (z04 z8q):=scm
abbrev z5C:Stmt:=top 35
theorem zdc:FnScope ["row"] ["row"] (z04 z5C):=scm
abbrev z4X:Stmt:=top 36
theorem z2h:FnScope ["rungs", "row", "found", "left", "places", "pair"] ["rungs", "row"] (z04 z4X):=scm
abbrev zax:Stmt:=top 37
theorem z8r:FnScope ["rungs", "found", "rung"] ["rungs"] (z04 zax):=scm
abbrev z8s:Stmt:=top 38
theorem z4Y:FnScope ["rows", "rungs", "row"] ["rows"] (z04 z8s):=scm
abbrev z2v:Stmt:=top 39
theorem z9c:FnScope ["rows", "tags"] ["rows", "tags"] (z04 z2v):=scm
abbrev z1W:Stmt:=top 40
theorem z7s:FnScope ["rungs", "width"] ["rungs", "width"] (z04 z1W):=scm
abbrev zdd:Stmt:=top 41
theorem zmN:FnScope ["hall"] ["hall"] (z04 zdd):=scm
abbrev z1E:Stmt:=top 42
theorem z3G:FnScope ["hall", "many"] ["hall"] (z04 z1E):=scm
abbrev z7t:Stmt:=top 44
theorem zli:FnScope ["rows", "width"] ["rows", "width"] (z04 z7t):=scm
abbrev z4Z:Stmt:=top 45
theorem z5D:FnScope ["rows", "place", "row"] ["rows"] (z04 z4Z):=scm
abbrev z9o:Stmt:=top 46
theorem zmO:FnScope ["row", "part"] ["row", "part"] (z04 z9o):=scm
abbrev z3l:Stmt:=top 47
theorem z1M:FnScope ["rows", "tags", "whole", "many", "square", "weights", "other", "both"] ["rows", "tags", "whole"] (z04 z3l):=scm
abbrev zay:Stmt:=top 48
theorem z3m:FnScope ["one", "other", "found", "common", "least", "upper", "lower"] ["one", "other"] (z04 zay):=scm
abbrev z6g:Stmt:=top 49
theorem z3H:FnScope ["measured", "found", "first", "second", "pair"] ["measured"] (z04 z6g):=scm
abbrev z1N:Stmt:=top 50
theorem z1u:FnScope ["hall", "kinds", "rungs", "many", "both", "square", "whole", "bound"] ["hall"] (z04 z1N):=scm
abbrev z8t:Stmt:=top 53
theorem z6L:FnScope ["hall", "one", "other", "back", "left"] ["hall", "one", "other"] (z04 z8t):=scm
abbrev zfK:Stmt:=top 52
theorem zqj:FnScope ["hall", "one", "other"] ["hall", "one", "other"] (z04 zfK):=scm
abbrev z7u:Stmt:=top 55
theorem zlj:FnScope ["hall"] ["hall"] (z04 z7u):=scm
abbrev zfL:Stmt:=top 56
theorem zqk:FnScope ["way", "scale"] ["way", "scale"] (z04 zfL):=scm
abbrev z2P:Stmt:=top 57
theorem z7v:FnScope ["scale", "found"] ["scale", "found"] (z04 z2P):=scm
abbrev zaz:Stmt:=top 58
theorem z6h:FnScope ["hall", "one", "other", "way", "scale", "found"] ["hall", "one", "other"] (z04 zaz):=scm
abbrev zaA:Stmt:=top 59
theorem zbN:FnScope ["hall", "one", "other", "uses"] ["hall", "one", "other"] (z04 zaA):=scm
abbrev z5E:Stmt:=top 61
theorem zde:FnScope ["_law_script", "_law_k"] ["_law_script", "_law_k"] (z04 z5E):=scm
abbrev z8u:Stmt:=top 62
theorem zfM:FnScope ["_law_found"] ["_law_found"] (z04 z8u):=scm
abbrev z6M:Stmt:=top 63
theorem z8S:FnScope ["_law_found", "_law_size", "_law_number_here"] ["_law_found", "_law_size"] (z04 z6M):=scm
abbrev z6N:Stmt:=top 64
theorem z3O:FnScope ["_law_cell", "_law_mode", "_law_number_here", "_law_wide"] ["_law_cell", "_law_mode"] (z04 z6N):=scm
abbrev z9p:Stmt:=top 65
theorem zmP:FnScope ["_law_script", "_law_at", "_law_size", "_law_mode"] ["_law_script", "_law_at", "_law_size", "_law_mode"] (z04 z9p):=scm
abbrev z6i:Stmt:=top 66
theorem z1w:FnScope ["_law_script", "_law_mode", "_law_kinds", "_law_many"] ["_law_script"] (z04 z6i):=scm
abbrev z7w:Stmt:=top 67
theorem z7x:FnScope ["_law_size", "_law_rows", "_law_times", "_law_made", "_law_j"] ["_law_size", "_law_rows", "_law_times"] (z04 z7w):=scm
abbrev z7y:Stmt:=top 68
theorem zlk:FnScope ["_law_one", "_law_other", "_law_times"] ["_law_one", "_law_other", "_law_times"] (z04 z7y):=scm
abbrev z8v:Stmt:=top 69
theorem z50:FnScope ["_law_weights", "_law_row_here", "_law_made", "_law_k"] ["_law_weights", "_law_row_here"] (z04 z8v):=scm
abbrev z8w:Stmt:=top 70
theorem zfN:FnScope ["_law_bills_here", "_law_one", "_law_other", "_law_uses"] ["_law_bills_here", "_law_one", "_law_other", "_law_uses"] (z04 z8w):=scm
abbrev z6O:Stmt:=top 71
theorem z8T:FnScope ["_law_bills_here", "_law_one", "_law_other", "_law_scale", "_law_bill"] ["_law_bills_here", "_law_one", "_law_other", "_law_scale"] (z04 z6O):=scm
abbrev z5F:Stmt:=top 72
theorem z2w:FnScope ["_law_script", "_law_kinds", "_law_bills_here", "_law_one", "_law_other", "_law_uses"] ["_law_script", "_law_kinds", "_law_bills_here"] (z04 z5F):=scm
abbrev zk9:Stmt:=top 73
theorem z5G:FnScope ["_law_script", "_law_drawn", "_law_kinds", "_law_bills_here", "_law_hall", "_law_found", "_law_handed", "_law_answer"] ["_law_script"] (z04 zk9):=scm
set_option genInjectivity false in
structure Adr where
 zaG:Addr
 zaH:FuncData
 zeq:Addr
 zer:FuncData
 zbQ:Addr
 zbR:FuncData
 zaI:Addr
 zaJ:FuncData
 zkb:Addr
 zkc:FuncData
 zkd:Addr
 zke:FuncData
 zes:Addr
 zet:FuncData
 zbS:Addr
 zbT:FuncData
 zbU:Addr
 zbV:FuncData
 z8X:Addr
 z8Y:FuncData
 zbW:Addr
 zbX:FuncData
 z7E:Addr
 z7F:FuncData
 z8Z:Addr
 z9:FuncData
 zbY:Addr
 zbZ:FuncData
 zc:Addr
 zc0:FuncData
 z4n:Addr
 z4o:FuncData
 z6p:Addr
 z6q:FuncData
 zeu:Addr
 zev:FuncData
 zkf:Addr
 zkg:FuncData
 zew:Addr
 zex:FuncData
 zpk:Addr
 zpl:FuncData
 zc1:Addr
 zc2:FuncData
 zaK:Addr
 zaL:FuncData
 zc3:Addr
 zc4:FuncData
 zc5:Addr
 zc6:FuncData
 z90:Addr
 z91:FuncData
 zaM:Addr
 zaN:FuncData
 zey:Addr
 zez:FuncData
 zc7:Addr
 zc8:FuncData
 z5I:Addr
 z5J:FuncData
 z4p:Addr
 z4q:FuncData
 zkh:Addr
 zki:FuncData
 z3P:Addr
 z3Q:FuncData
 zeA:Addr
 zeB:FuncData
 zaO:Addr
 zaP:FuncData
 zkj:Addr
 zkk:FuncData
 zc9:Addr
 zca:FuncData
 zeC:Addr
 zeD:FuncData
 zcb:Addr
 zcc:FuncData
 zaQ:Addr
 zaR:FuncData
 zcd:Addr
 zce:FuncData
 zpm:Addr
 zpn:FuncData
 zeE:Addr
 zeF:FuncData
 zpo:Addr
 zpp:FuncData
 z4r:Addr
 z4s:FuncData
 zeG:Addr
 zeH:FuncData
 zeI:Addr
 zeJ:FuncData
 z92:Addr
 z93:FuncData
 zcf:Addr
 zcg:FuncData
 zaS:Addr
 zaT:FuncData
 zaU:Addr
 zaV:FuncData
 zkl:Addr
 zkm:FuncData
 zch:Addr
 zci:FuncData
 zkn:Addr
 zko:FuncData
 zeK:Addr
 zeL:FuncData
 zcj:Addr
 zck:FuncData
 zcl:Addr
 zcm:FuncData
 zaW:Addr
 zaX:FuncData
 z94:Addr
 z95:FuncData
 a_law:Addr
 zkp:FuncData
 z3e:Tok
 z3f:Tok
structure Facts(K:PySem.W.Frag)(mg:Str→Option Value)(A:Adr):Prop where
 n_abs:mg "abs" = none
 n_all:mg "all" = none
 n_any:mg "any" = none
 zpq:mg "bool" = none
 z32:mg "enumerate" = none
 n_int:mg "int" = none
 z15:mg "isinstance" = none
 z1O:mg "len" = none
 z36:mg "list" = none
 z1y:mg "range" = none
 zjs:mg "reversed" = none
 zpr:mg "sorted" = none
 n_sum:mg "sum" = none
 z7G:mg "tuple" = none
 zkq:mg "zip" = none
 zdj:mg "MOST_BILLS" = some (.int 8 A.z3e)
 zdk:mg "MOST_KINDS" = some (.int 6 A.z3f)
 z6R:Df K mg "is_whole" z6I ["value"] A.zaG A.zaH
 zaY:Df K mg "is_row" z7p ["value", "length"] A.zeq A.zer
 z8z:Df K mg "noughts" z6c ["length"] A.zbQ A.zbR
 z6S:Df K mg "unit_row" z4U ["length", "one_at"] A.zaI A.zaJ
 z9q:Df K mg "added" z9m ["one", "other"] A.zkb A.zkc
 z9r:Df K mg "taken" z9n ["one", "other"] A.zkd A.zke
 z22:Df K mg "scaled" z7q ["row", "often"] A.zes A.zet
 zcn:Df K mg "weighed" z6d ["row", "weights"] A.zbS A.zbT
 z1s:Df K mg "head_at" z8m ["row"] A.zbU A.zbV
 z96:Df K mg "are_kinds" z5z ["value"] A.z8X A.z8Y
 zco:Df K mg "is_bill" z6e ["value", "kinds"] A.zbW A.zbX
 z7H:Df K mg "need_kinds" z4V ["kinds"] A.z7E A.z7F
 z97:Df K mg "need_bill" z5A ["bill", "kinds"] A.z8Z A.z9
 zcp:Df K mg "hall_by" z6f ["kinds", "rows"] A.zbY A.zbZ
 zcq:Df K mg "hall_of" z8n ["kinds", "bills"] A.zc A.zc0
 z4t:Df K mg "need_basket_of" z2O ["kinds", "basket"] A.z4n A.z4o
 z41:Df K mg "need_basket" z40 ["hall", "basket"] A.z6p A.z6q
 zeM:Df K mg "nought" zaw ["hall"] A.zeu A.zev
 zdl:Df K mg "apart" zdb ["hall", "one", "other"] A.zkf A.zkg
 zaZ:Df K mg "bridge" z5B ["a", "b"] A.zew A.zex
 zjt:Df K mg "rest" zfI ["a", "part"] A.zpk A.zpl
 zcr:Df K mg "product" z8o ["numbers"] A.zc1 A.zc2
 zb0:Df K mg "lowering" z6K ["row", "rungs"] A.zaK A.zaL
 z4u:Df K mg "lowered" z8p ["row", "rungs"] A.zc3 A.zc4
 zcs:Df K mg "crossed" z8q ["rung", "row"] A.zc5 A.zc6
 z98:Df K mg "turned_up" z5C ["row"] A.z90 A.z91
 zb1:Df K mg "with_row" z4X ["rungs", "row"] A.zaM A.zaN
 zeN:Df K mg "evened" zax ["rungs"] A.zey A.zez
 z6j:Df K mg "climbed" z8s ["rows"] A.zc7 A.zc8
 z2x:Df K mg "tagged_stair" z2v ["rows", "tags"] A.z5I A.z5J
 z4v:Df K mg "tags_at_nought" z1W ["rungs", "width"] A.z4p A.z4q
 zkr:Df K mg "stair" zdd ["hall"] A.zkh A.zki
 z3R:Df K mg "stair_with_uses" z1E ["hall"] A.z3P A.z3Q
 z7I:Df K mg "turned" z7t ["rows", "width"] A.zeA A.zeB
 zb2:Df K mg "is_slant" z4Z ["rows"] A.zaO A.zaP
 z7J:Df K mg "rests" z9o ["row", "part"] A.zkj A.zkk
 zct:Df K mg "slanted" z3l ["rows", "tags", "whole"] A.zc9 A.zca
 zeO:Df K mg "linked" zay ["one", "other"] A.zeC A.zeD
 zcu:Df K mg "chained" z6g ["measured"] A.zcb A.zcc
 zb3:Df K mg "measures" z1N ["hall"] A.zaQ A.zaR
 zcv:Df K mg "settled" z8t ["hall", "one", "other"] A.zcd A.zce
 zps:Df K mg "plan" zfK ["hall", "one", "other"] A.zpm A.zpn
 zeP:Df K mg "scales" z7u ["hall"] A.zeE A.zeF
 zpt:Df K mg "tilt" zfL ["way", "scale"] A.zpo A.zpp
 z4w:Df K mg "measured_scale" z2P ["scale", "found"] A.z4r A.z4s
 zeQ:Df K mg "denial" zaz ["hall", "one", "other"] A.zeG A.zeH
 zeR:Df K mg "judged" zaA ["hall", "one", "other"] A.zeI A.zeJ
 z0X:Df K mg "_law_cell_at" z5E ["_law_script", "_law_k"] A.z92 A.z93
 z8A:Df K mg "_law_whole" z8u ["_law_found"] A.zcf A.zcg
 z6T:Df K mg "_law_is_row" z6M ["_law_found", "_law_size"] A.zaS A.zaT
 zb4:Df K mg "_law_number" z6N ["_law_cell", "_law_mode"] A.zaU A.zaV
 z7K:Df K mg "_law_row" z9p ["_law_script", "_law_at", "_law_size", "_law_mode"] A.zkl A.zkm
 zcw:Df K mg "_law_bills" z6i ["_law_script"] A.zch A.zci
 zdm:Df K mg "_law_sum" z7w ["_law_size", "_law_rows", "_law_times"] A.zkn A.zko
 z7L:Df K mg "_law_plus" z7y ["_law_one", "_law_other", "_law_times"] A.zeK A.zeL
 z8B:Df K mg "_law_heavy" z8v ["_law_weights", "_law_row_here"] A.zcj A.zck
 zcx:Df K mg "_law_leads" z8w ["_law_bills_here", "_law_one", "_law_other", "_law_uses"] A.zcl A.zcm
 zb5:Df K mg "_law_denies" z6O ["_law_bills_here", "_law_one", "_law_other", "_law_scale"] A.zaW A.zaX
 z99:Df K mg "_law_baskets" z5F ["_law_script", "_law_kinds", "_law_bills_here"] A.z94 A.z95
 f_law:Df K mg "law" zk9 ["_law_script"] A.a_law A.zkp
section
variable {K:PySem.W.Frag}{mg:Str→Option Value}{P:Program}{w:World}{base:Heap}{A:Adr}
theorem z8U(T:Facts K mg A):FnOk P w K mg base CX0 1 A.zaG A.zaH ["value"] (spc K true z2H) :=
 Fun.dat (k:=0) (F:=z6B) T.z6R.fn zeg rfl rfl (fun cdv A outer s H E hr=>have hu:=hr.units
  (z0b (z0g (zjE (z6Z (T := "int") rfl rfl T.z15 rfl T.n_int (by decide +kernel) (z00 0)) (zjD (p_not (z6Z (T := "bool") rfl rfl T.z15 rfl T.zpq (by decide +kernel) (z00 0))))))))
theorem zbO(T:Facts K mg A):FnOk P w K mg base CX0 2 A.zeq A.zer ["value", "length"] (spc K true z5j) :=
 Fun.dat (k:=1) (F:=za8) T.zaY.fn zlf rfl rfl (fun cdv A outer s H E hr=>have hu:=hr.units
  (z08 (s_if (PFW.pt (w_or (z44 (z3o (z6Z (T := "list") rfl rfl T.z15 rfl T.z36 (by decide +kernel) (z00 0)) (fun _=>rfl))) (z8E (z0W (o_ne hu) (z0z z1F rfl T.z1O (by decide +kernel) (z03 (z00 0) z07)) (z00 1) (z0u _))))) (z0b (z0g p_bl)) z0D)
   (z0b (z0g (z0z (c_all rfl) rfl T.n_all (by decide +kernel) (z03 (z0F (g:=(Tg.one 0)) (z0d (N:=["number"]) (nt:=1) (js:=[]) ["value", "length"] (z04 z7p).names rfl rfl rfl (by decide +kernel)) rfl (z1D (z00 0)) (fun _ _ _ _ _=>z0P (ndp ["number"]) rfl (Or.inl rfl) (Or.inr rfl)) (show 0<1 by decide) (fun _ _ _ _ _=>z0C) (fun _ _ _ _ _=>(z0c (z8U T) T.z6R hr rfl (z03 (z00 0) z07))) (jlt [] 2)) z07))))))
theorem zaB(T:Facts K mg A):FnOk P w K mg base CX0 1 A.zbQ A.zbR ["length"] (spc K true z4d) :=
 Fun.dat (k:=0) (F:=z82) T.z8z.fn zfE rfl rfl (fun cdv A outer s H E hr=>have hu:=hr.units
  (z0b (z0g (z0F (g:=(Tg.one 0)) (z0d (N:=["spot"]) (nt:=1) (js:=[]) ["length"] (z04 z6c).names rfl rfl rfl (by decide +kernel)) rfl (z1o rfl T.z1y (z00 0)) (fun _ _ _ _ _=>z0P (ndp ["spot"]) rfl (Or.inl rfl) (Or.inr rfl)) (show 0<1 by decide) (fun _ _ _ _ _=>z0C) (fun _ _ _ _ _=>z09) (jlt [] 1)))))
theorem z8V(T:Facts K mg A):FnOk P w K mg base CX0 1 A.zaI A.zaJ ["length", "one_at"] (spc K true z26) :=
 Fun.dat (k:=0) (F:=z6C) T.z6S.fn zeh rfl rfl (fun cdv A outer s H E hr=>have hu:=hr.units
  (z0b (z0g (z0F (g:=(Tg.one 0)) (z0d (N:=["spot", "one_at"]) (nt:=1) (js:=[1]) ["length", "one_at"] (z04 z4U).names rfl rfl rfl (by decide +kernel)) rfl (z1o rfl T.z1y (z00 0)) (fun _ _ _ _ _=>z0P (ndp ["spot", "one_at"]) rfl (Or.inl rfl) (Or.inr rfl)) (show 0<1 by decide) (fun _ _ _ _ _=>z0C) (fun _ _ _ _ _=>(p_if (z0W (o_eq hu) (z00 0) (z00 1) (z0u _)) z09 z09)) (jlt [1] 2)))))
theorem zaC(T:Facts K mg A):FnOk P w K mg base CX0 1 A.zkb A.zkc ["one", "other"] (spc K true z60) :=
 Fun.dat (k:=0) (F:=zcQ) T.z9q.fn zmK rfl rfl (fun cdv A outer s H E hr=>have hu:=hr.units
  (z0b (z0g (z0F (g:=(Tg.many [0,1])) (z0d (N:=["a", "b"]) (nt:=2) (js:=[]) ["one", "other"] (z04 z9m).names rfl rfl rfl (by decide +kernel)) rfl (zjM rfl T.zkq (z00 0) (z00 1)) (fun _ _ _ _ _=>z3r rfl (z0R (z0J (ndp ["a", "b"]) rfl (Or.inl rfl) (Or.inr rfl)) (z0R (z0J (ndp ["a", "b"]) rfl (Or.inl rfl) (Or.inr rfl)) z3q))) (jlt [0,1] 2) (fun _ _ _ _ _=>z0C) (fun _ _ _ _ _=>(p_op z37 (z00 0) (z00 1))) (jlt [] 2)))))
theorem zaD(T:Facts K mg A):FnOk P w K mg base CX0 1 A.zkd A.zke ["one", "other"] (spc K true z4O) :=
 Fun.dat (k:=0) (F:=zcR) T.z9r.fn zmL rfl rfl (fun cdv A outer s H E hr=>have hu:=hr.units
  (z0b (z0g (z0F (g:=(Tg.many [0,1])) (z0d (N:=["a", "b"]) (nt:=2) (js:=[]) ["one", "other"] (z04 z9n).names rfl rfl rfl (by decide +kernel)) rfl (zjM rfl T.zkq (z00 0) (z00 1)) (fun _ _ _ _ _=>z3r rfl (z0R (z0J (ndp ["a", "b"]) rfl (Or.inl rfl) (Or.inr rfl)) (z0R (z0J (ndp ["a", "b"]) rfl (Or.inl rfl) (Or.inr rfl)) z3q))) (jlt [0,1] 2) (fun _ _ _ _ _=>z0C) (fun _ _ _ _ _=>(p_op zlQ (z00 0) (z00 1))) (jlt [] 2)))))
theorem z1X(T:Facts K mg A):FnOk P w K mg base CX0 1 A.zes A.zet ["row", "often"] (spc K true z1p) :=
 Fun.dat (k:=0) (F:=za9) T.z22.fn zlg rfl rfl (fun cdv A outer s H E hr=>have hu:=hr.units
  (z0b (z0g (z0F (g:=(Tg.one 0)) (z0d (N:=["number", "often"]) (nt:=1) (js:=[1]) ["row", "often"] (z04 z7q).names rfl rfl rfl (by decide +kernel)) rfl (z1D (z00 0)) (fun _ _ _ _ _=>z0P (ndp ["number", "often"]) rfl (Or.inl rfl) (Or.inr rfl)) (show 0<1 by decide) (fun _ _ _ _ _=>z0C) (fun _ _ _ _ _=>(p_op z52 (z00 1) (z00 0))) (jlt [1] 2)))))
theorem zfO(T:Facts K mg A):FnOk P w K mg base CX0 1 A.zbS A.zbT ["row", "weights"] (spc K true z61) :=
 Fun.dat (k:=0) (F:=z83) T.zcn.fn zfF rfl rfl (fun cdv A outer s H E hr=>have hu:=hr.units
  (z0b (z0g (z0z (c_sum rfl) rfl T.n_sum (by decide +kernel) (z03 (z0F (g:=(Tg.many [0,1])) (z0d (N:=["a", "b"]) (nt:=2) (js:=[]) ["row", "weights"] (z04 z6d).names rfl rfl rfl (by decide +kernel)) rfl (zjM rfl T.zkq (z00 0) (z00 1)) (fun _ _ _ _ _=>z3r rfl (z0R (z0J (ndp ["a", "b"]) rfl (Or.inl rfl) (Or.inr rfl)) (z0R (z0J (ndp ["a", "b"]) rfl (Or.inl rfl) (Or.inr rfl)) z3q))) (jlt [0,1] 2) (fun _ _ _ _ _=>z0C) (fun _ _ _ _ _=>(p_op z52 (z00 0) (z00 1))) (jlt [] 2)) z07)))))
theorem z1x(T:Facts K mg A):FnOk P w K mg base CX0 1 A.zbU A.zbV ["row"] (spc K true z0k) :=
 Fun.dat (k:=0) (F:=z84) T.z1s.fn z6J rfl rfl (fun cdv A outer s H E hr=>have hu:=hr.units
  (z08 (z53 (rels:=[]) (g:=(Tg.many [1,2])) PassesOwn.never rfl (z9J rfl T.z32 (z00 0)) (z3r rfl (z0R (z0J (i:=1) z6J.nd rfl (Or.inl rfl) (Or.inl rfl)) (z0R (z0J (i:=2) z6J.nd rfl (Or.inl rfl) (Or.inl rfl)) z3q))) (z0b (s_if (z0W (o_ne hu) (z00 2) z09 (z0u _)) (z0b (z0g (z00 1))) z0D)))
   (z0b (z0g (z0z z1F rfl T.z1O (by decide +kernel) (z03 (z00 0) z07))))))
theorem zdf(T:Facts K mg A):FnOk P w K mg base CX0 2 A.z8X A.z8Y ["value"] (spc K true z3N) :=
 Fun.dat (k:=1) (F:=z5k) T.z96.fn zd9 rfl rfl (fun cdv A outer s H E hr=>have hu:=hr.units
  (z0b (z0g (zjE (z0c (z8U T) T.z6R hr rfl (z03 (z00 0) z07)) (zjD (zpS o_le o_le z09 (z00 0) (zlO rfl T.zdk)))))))
theorem zfP(T:Facts K mg A):FnOk P w K mg base CX0 3 A.zbW A.zbX ["value", "kinds"] (spc K true z62) :=
 Fun.dat (k:=2) (F:=z85) T.zco.fn zfG rfl rfl (fun cdv A outer s H E hr=>have hu:=hr.units
  (z0b (z0g (zjE (z0c (zbO T) T.zaY hr rfl (z03 (z00 0) (z03 (z00 1) z07))) (zjD (z0z (c_all rfl) rfl T.n_all (by decide +kernel) (z03 (z0F (g:=(Tg.one 0)) (z0d (N:=["number"]) (nt:=1) (js:=[]) ["value", "kinds"] (z04 z6e).names rfl rfl rfl (by decide +kernel)) rfl (z1D (z00 0)) (fun _ _ _ _ _=>z0P (ndp ["number"]) rfl (Or.inl rfl) (Or.inr rfl)) (show 0<1 by decide) (fun _ _ _ _ _=>z0C) (fun _ _ _ _ _=>(zdx o_lt (z0z c_abs rfl T.n_abs (by decide +kernel) (z03 (z00 0) z07)) (p_op zlR z09 z09) (z0u _))) (jlt [] 2)) z07)))))))
theorem zb9(T:Facts K mg A):FnOk P w K mg base CX0 3 A.z7E A.z7F ["kinds"] (spc K true z3d) :=
 Fun.dat (k:=2) (F:=z4P) T.z7H.fn zb8 rfl rfl (fun cdv A outer s H E hr=>have hu:=hr.units
  (z0b (s_if (z44 (z3o (z0c (zdf T) T.z96 hr rfl (z03 (z00 0) z07)) (fun _=>rfl))) (z0b z9e) z0D)))
theorem zdg(T:Facts K mg A):FnOk P w K mg base CX0 4 A.z8Z A.z9 ["bill", "kinds"] (spc K true z2e) :=
 Fun.dat (k:=3) (F:=z5l) T.z97.fn zda rfl rfl (fun cdv A outer s H E hr=>have hu:=hr.units
  (z0b (s_if (z44 (z3o (z0c (zfP T) T.zco hr rfl (z03 (z00 0) (z03 (z00 1) z07))) (fun _=>rfl))) (z0b z9e) z0D)))
theorem zfQ(T:Facts K mg A):FnOk P w K mg base CX0 1 A.zbY A.zbZ ["kinds", "rows"] (spc K true z63) :=
 Fun.dat (k:=0) (F:=z86) T.zcp.fn zfH rfl rfl (fun cdv A outer s H E hr=>have hu:=hr.units
  (z0b (z0g (z3p (z03 (z00 0) (z03 (z1A zlT rfl T.z7G (by decide +kernel) (z03 (z0F (g:=(Tg.one 0)) (z0d (N:=["row"]) (nt:=1) (js:=[]) ["kinds", "rows"] (z04 z6f).names rfl rfl rfl (by decide +kernel)) rfl (z1D (z00 1)) (fun _ _ _ _ _=>z0P (ndp ["row"]) rfl (Or.inl rfl) (Or.inr rfl)) (show 0<1 by decide) (fun _ _ _ _ _=>z0C) (fun _ _ _ _ _=>(z1A zlT rfl T.z7G (by decide +kernel) (z03 (z00 0) z07))) (jlt [] 2)) z07)) z07))))))
theorem zfR(T:Facts K mg A):FnOk P w K mg base CX0 5 A.zc A.zc0 ["kinds", "bills"] (spc K true z4e) :=
 Fun.dat (k:=4) (F:=z87) T.zcq.fn zau rfl rfl (fun cdv A outer s H E hr=>have hu:=hr.units
  (z08 (z9H (z0c (zb9 T) T.z7H hr rfl (z03 (z00 0) z07)))
   (z08 (s_if (PFW.pt (w_or (z44 (z3o (z6Z (T := "list") rfl rfl T.z15 rfl T.z36 (by decide +kernel) (z00 1)) (fun _=>rfl))) (z8E (z0W o_gt (z0z z1F rfl T.z1O (by decide +kernel) (z03 (z00 1) z07)) (zlO rfl T.zdj) (z0u _))))) (z0b z9e) z0D)
   (z08 (z53 (rels:=[]) (g:=(Tg.one 2)) PassesOwn.never rfl (z1D (z00 1)) (z0P zau.nd rfl (Or.inl rfl) (Or.inl rfl)) (z0b (z9H (z0c (zdg T) T.z97 hr rfl (z03 (z00 2) (z03 (z00 0) z07))))))
   (z0b (z0g (z0c (zfQ T) T.zcp hr rfl (z03 (z00 0) (z03 (z00 1) z07)))))))))
theorem z7z(T:Facts K mg A):FnOk P w K mg base CX0 3 A.z4n A.z4o ["kinds", "basket"] (spc K true z1S) :=
 Fun.dat (k:=2) (F:=z2I) T.z4t.fn z7r rfl rfl (fun cdv A outer s H E hr=>have hu:=hr.units
  (z0b (s_if (z44 (z3o (z0c (zbO T) T.zaY hr rfl (z03 (z00 1) (z03 (z00 0) z07))) (fun _=>rfl))) (z0b z9e) z0D)))
theorem z5H(T:Facts K mg A):FnOk P w K mg base CX0 4 A.z6p A.z6q ["hall", "basket"] (spc K true z20) :=
 Fun.dat (k:=3) (F:=z3Z) T.z41.fn zav rfl rfl (fun cdv A outer s H E hr=>have hu:=hr.units
  (z0b (z9H (z0c (z7z T) T.z4t hr rfl (z03 (p_ix (z00 0) z09 (fun _ _=>rfl)) (z03 (z00 1) z07))))))
theorem zll(T:Facts K mg A):FnOk P w K mg base CX0 2 A.zeu A.zev ["hall"] (spc K true z7h) :=
 Fun.dat (k:=1) (F:=zaa) T.zeM.fn zlh rfl rfl (fun cdv A outer s H E hr=>have hu:=hr.units
  (z0b (z0g (z0c (zaB T) T.z8z hr rfl (z03 (p_ix (z00 0) z09 (fun _ _=>rfl)) z07)))))
theorem zei(T:Facts K mg A):FnOk P w K mg base CX0 5 A.zkf A.zkg ["hall", "one", "other"] (spc K true z64) :=
 Fun.dat (k:=4) (F:=zcS) T.zdl.fn zmM rfl rfl (fun cdv A outer s H E hr=>have hu:=hr.units
  (z08 (z9H (z0c (z5H T) T.z41 hr rfl (z03 (z00 0) (z03 (z00 1) z07))))
   (z08 (z9H (z0c (z5H T) T.z41 hr rfl (z03 (z00 0) (z03 (z00 2) z07))))
   (z0b (z0g (z0c (zaD T) T.z9r hr rfl (z03 (z00 2) (z03 (z00 1) z07))))))))
theorem zbP(T:Facts K mg A):FnOk P w K mg base CX0 1 A.zew A.zex ["a", "b"] (spc K true z5m) :=
 Fun.dat (k:=0) (F:=zab) T.zaZ.fn z2g rfl rfl (fun cdv A outer s H E hr=>have hu:=hr.units
  (z08 (z0m (rels:=[]) (z0a (i:=2) (z46 (z03 (z00 0) (z03 z09 (z03 z09 z07)))) z2g.nd rfl (Or.inr rfl) rfl (Or.inl rfl)))
   (z08 (z0m (rels:=[]) (z0a (i:=3) (z46 (z03 (z00 1) (z03 z09 (z03 z09 z07)))) z2g.nd rfl (Or.inr rfl) rfl (Or.inl rfl)))
   (z08 (zcJ PassesOwn.never (z0W (o_ne hu) (p_ix (z00 3) z09 (fun _ _=>rfl)) z09 (z0u _)) (z08 (z0m (rels:=[]) (z0a (i:=4) (p_op z4F (p_ix (z00 2) z09 (fun _ _=>rfl)) (p_ix (z00 3) z09 (fun _ _=>rfl))) z2g.nd rfl (Or.inr rfl) rfl (Or.inl rfl)))
   (z08 (z0m (rels:=[]) (z70 (i:=5) (g:=(Tg.one 0)) z2g.nd rfl rfl rfl (z0d (N:=["k", "upper", "often", "lower"]) (nt:=1) (js:=[2,4,3]) ["a", "b", "upper", "lower", "often", "left"] (z04 z5B).names rfl rfl rfl (by decide +kernel)) rfl (z1o rfl T.z1y z09) (fun _ _ _ _ _=>z0P (ndp ["k", "upper", "often", "lower"]) rfl (Or.inl rfl) (Or.inr rfl)) (show 0<1 by decide) (fun _ _ _ _ _=>z0C) (fun _ _ _ _ _=>(p_op zlQ (p_ix (z00 1) (z00 0) (fun _ _=>rfl)) (p_op z52 (z00 2) (p_ix (z00 3) (z00 0) (fun _ _=>rfl))))) (jlt [2,4,3] 6)))
   (z08 (z0m (rels:=[]) (z0a (i:=2) (z00 3) z2g.nd rfl (Or.inr rfl) rfl (Or.inl rfl)))
   (z0b (z0m (rels:=[]) (z0a (i:=3) (z00 5) z2g.nd rfl (Or.inr rfl) rfl (Or.inl rfl))))))))
   (z08 (s_if (z0W o_lt (p_ix (z00 2) z09 (fun _ _=>rfl)) z09 (z0u _)) (z0b (z0m (rels:=[]) (z0a (i:=2) (z0F (g:=(Tg.one 0)) (z0d (N:=["number"]) (nt:=1) (js:=[]) ["a", "b", "upper", "lower", "often", "left"] (z04 z5B).names rfl rfl rfl (by decide +kernel)) rfl (z1D (z00 2)) (fun _ _ _ _ _=>z0P (ndp ["number"]) rfl (Or.inl rfl) (Or.inr rfl)) (show 0<1 by decide) (fun _ _ _ _ _=>z0C) (fun _ _ _ _ _=>(zbl (z00 0))) (jlt [] 6)) z2g.nd rfl (Or.inr rfl) rfl (Or.inl rfl)))) z0D)
   (z0b (z0g (z1A zlT rfl T.z7G (by decide +kernel) (z03 (z00 2) z07)))))))))
theorem zka(T:Facts K mg A):FnOk P w K mg base CX0 1 A.zpk A.zpl ["a", "part"] (spc K true z5n) :=
 Fun.dat (k:=0) (F:=zcT) T.zjt.fn zqi rfl rfl (fun cdv A outer s H E hr=>have hu:=hr.units
  (z08 (s_if (z0W (o_eq hu) (z00 1) z09 (z0u _)) (z0b (z0g (z00 0))) z0D)
   (z0b (z0g (p_op z2y (z00 0) (z00 1))))))
theorem zfS(T:Facts K mg A):FnOk P w K mg base CX0 1 A.zc1 A.zc2 ["numbers"] (spc K true z65) :=
 Fun.dat (k:=0) (F:=z88) T.zcr.fn z4W rfl rfl (fun cdv A outer s H E hr=>have hu:=hr.units
  (z08 (z0m (rels:=[]) (z0a (i:=1) z09 z4W.nd rfl (Or.inl rfl) rfl (Or.inl rfl)))
   (z08 (z53 (rels:=[]) (g:=(Tg.one 2)) PassesOwn.never rfl (z1D (z00 0)) (z0P z4W.nd rfl (Or.inl rfl) (Or.inl rfl)) (z0b (z0m (rels:=[]) (z0a (i:=1) (p_op z52 (z00 1) (z00 2)) z4W.nd rfl (Or.inl rfl) rfl (Or.inl rfl)))))
   (z0b (z0g (z00 1))))))
theorem zej(T:Facts K mg A):FnOk P w K mg base CX0 2 A.zaK A.zaL ["row", "rungs"] (spc K true z4Q) :=
 Fun.dat (k:=1) (F:=z6D) T.zb0.fn z1L rfl rfl (fun cdv A outer s H E hr=>have hu:=hr.units
  (z08 (z0m (rels:=[]) (z0a (i:=2) (z1A z6Y rfl T.z36 (by decide +kernel) (z03 (z00 0) z07)) z1L.nd rfl (Or.inl rfl) rfl (Or.inl rfl)))
   (z08 (zjL (z0a (i:=3) (z46 z07) z1L.nd rfl (Or.inl rfl) rfl (Or.inl rfl)))
   (z08 (z53 (rels:=[]) (g:=(Tg.one 4)) PassesOwn.never rfl (z1D (z00 1)) (z0P z1L.nd rfl (Or.inl rfl) (Or.inl rfl)) (z08 (z0m (rels:=[]) (z0a (i:=5) (z0c (z1x T) T.z1s hr rfl (z03 (z00 4) z07)) z1L.nd rfl (Or.inl rfl) rfl (Or.inl rfl)))
   (z08 (z0m (rels:=[]) (z0a (i:=6) (p_op z4F (p_ix (z00 2) (z00 5) (fun _ _=>rfl)) (p_ix (z00 4) (z00 5) (fun _ _=>rfl))) z1L.nd rfl (Or.inl rfl) rfl (Or.inl rfl)))
   (z08 (s_if (z0W (o_ne hu) (z00 6) z09 (z0u _)) (z0b (z0m (rels:=[]) (z0a (i:=2) (z0c (zaD T) T.z9r hr rfl (z03 (z00 2) (z03 (z0c (z1X T) T.z22 hr rfl (z03 (z00 4) (z03 (z00 6) z07))) z07))) z1L.nd rfl (Or.inl rfl) rfl (Or.inl rfl)))) z0D)
   (z0b (s_wr1 (i:=3) mw_app F.slot_list_append F.type_list_append rfl (Or.inl rfl) (z00 6)))))))
   (z0b (z0g (z3p (z03 (z00 3) (z03 (z00 2) z07)))))))))
theorem z51(T:Facts K mg A):FnOk P w K mg base CX0 3 A.zc3 A.zc4 ["row", "rungs"] (spc K true z10) :=
 Fun.dat (k:=2) (F:=z89) T.z4u.fn zfJ rfl rfl (fun cdv A outer s H E hr=>have hu:=hr.units
  (z0b (z0g (p_ix (z0c (zej T) T.zb0 hr rfl (z03 (z00 0) (z03 (z00 1) z07))) z09 (fun _ _=>rfl)))))
theorem zfT(T:Facts K mg A):FnOk P w K mg base CX0 2 A.zc5 A.zc6 ["rung", "row"] (spc K true z3h) :=
 Fun.dat (k:=1) (F:=z8a) T.zcs.fn z3F rfl rfl (fun cdv A outer s H E hr=>have hu:=hr.units
  (z08 (z0m (rels:=[]) (z0a (i:=2) (z0c (z1x T) T.z1s hr rfl (z03 (z00 0) z07)) z3F.nd rfl (Or.inl rfl) rfl (Or.inl rfl)))
   (z08 (z0m (rels:=[]) (z0a (i:=3) (z0c (zbP T) T.zaZ hr rfl (z03 (p_ix (z00 0) (z00 2) (fun _ _=>rfl)) (z03 (p_ix (z00 1) (z00 2) (fun _ _=>rfl)) z07))) z3F.nd rfl (Or.inl rfl) rfl (Or.inl rfl)))
   (z08 (z0m (rels:=[]) (z0a (i:=4) (z0c (zaC T) T.z9q hr rfl (z03 (z0c (z1X T) T.z22 hr rfl (z03 (z00 0) (z03 (p_ix (z00 3) z09 (fun _ _=>rfl)) z07))) (z03 (z0c (z1X T) T.z22 hr rfl (z03 (z00 1) (z03 (p_ix (z00 3) z09 (fun _ _=>rfl)) z07))) z07))) z3F.nd rfl (Or.inl rfl) rfl (Or.inl rfl)))
   (z08 (z0m (rels:=[]) (z0a (i:=5) (z0c (zaD T) T.z9r hr rfl (z03 (z0c (z1X T) T.z22 hr rfl (z03 (z00 1) (z03 (p_op z4F (p_ix (z00 0) (z00 2) (fun _ _=>rfl)) (p_ix (z00 3) z09 (fun _ _=>rfl))) z07))) (z03 (z0c (z1X T) T.z22 hr rfl (z03 (z00 0) (z03 (p_op z4F (p_ix (z00 1) (z00 2) (fun _ _=>rfl)) (p_ix (z00 3) z09 (fun _ _=>rfl))) z07))) z07))) z3F.nd rfl (Or.inl rfl) rfl (Or.inl rfl)))
   (z0b (z0g (z3p (z03 (z00 4) (z03 (z00 5) z07))))))))))
theorem zdh(T:Facts K mg A):FnOk P w K mg base CX0 2 A.z90 A.z91 ["row"] (spc K true z1h) :=
 Fun.dat (k:=1) (F:=z5o) T.z98.fn zdc rfl rfl (fun cdv A outer s H E hr=>have hu:=hr.units
  (z0b (z0g (p_if (z0W o_lt (p_ix (z00 0) (z0c (z1x T) T.z1s hr rfl (z03 (z00 0) z07)) (fun _ _=>rfl)) z09 (z0u _)) (z0c (z1X T) T.z22 hr rfl (z03 (z00 0) (z03 (zbl z09) z07))) (z1A z6Y rfl T.z36 (by decide +kernel) (z03 (z00 0) z07))))))
theorem zek(T:Facts K mg A):FnOk P w K mg base CX0 4 A.zaM A.zaN ["rungs", "row"] (spc K false z2J) :=
 Fun.dat (k:=3) (F:=z3y) T.zb1.fn z2h rfl rfl (fun cdv A outer s H E hr=>have hu:=hr.units
  (z08 (zjL (z0a (i:=2) (z1A z6Y rfl T.z36 (by decide +kernel) (z03 (z00 0) z07)) z2h.nd rfl (Or.inl rfl) rfl (Or.inl rfl)))
   (z08 (z9I (z0a (i:=3) (z0c (z51 T) T.z4u hr rfl (z03 (z00 1) (z03 (z00 2) z07))) z2h.nd rfl (Or.inr rfl) rfl (Or.inl rfl)))
   (z08 (zcJ PassesOwn.never (z0W o_lt (z0c (z1x T) T.z1s hr rfl (z03 (z00 3) z07)) (z0z z1F rfl T.z1O (by decide +kernel) (z03 (z00 3) z07)) (z0u _)) (z08 (z9I (z70 (i:=4) (g:=(Tg.many [0,1])) z2h.nd rfl rfl rfl (z0d (N:=["place", "rung", "left"]) (nt:=2) (js:=[3]) ["rungs", "row", "found", "left", "places", "pair"] (z04 z4X).names rfl rfl rfl (by decide +kernel)) rfl (z9J rfl T.z32 (z00 2)) (fun _ _ _ _ _=>z3r rfl (z0R (z0J (ndp ["place", "rung", "left"]) rfl (Or.inl rfl) (Or.inr rfl)) (z0R (z0J (ndp ["place", "rung", "left"]) rfl (Or.inl rfl) (Or.inr rfl)) z3q))) (jlt [0,1] 2) (fun _ _ _ _ _=>(zf1 (z0W (o_eq hu) (z0c (z1x T) T.z1s hr rfl (z03 (z00 1) z07)) (z0c (z1x T) T.z1s hr rfl (z03 (z00 2) z07)) (z0u _)))) (fun _ _ _ _ _=>(z00 0)) (jlt [3] 6)))
   (z08 (s_if (z0W (o_eq hu) (z0z z1F rfl T.z1O (by decide +kernel) (z03 (z00 4) z07)) z09 (z0u _)) (z0b (z0g (zq0 (z1x T) (hr.mono (by decide)) rfl T.zpr T.z1s.mg rfl T.z1s.bd (p_op z37 (z00 2) (z46 (z03 (z0c (zdh T) T.z98 hr rfl (z03 (z00 3) z07)) z07)))))) z0D)
   (z08 (z9I (z0a (i:=5) (z0c (zfT T) T.zcs hr rfl (z03 (p_ix (z00 2) (p_ix (z00 4) z09 (fun _ _=>rfl)) (fun _ _=>rfl)) (z03 (z00 3) z07))) z2h.nd rfl (Or.inl rfl) rfl (Or.inl rfl)))
   (z08 (zm7 (i:=2) rfl (Or.inl rfl) (p_ix (z00 4) z09 (fun _ _=>rfl)) (p_ix (z00 5) z09 (fun _ _=>rfl)))
   (z0b (z9I (z0a (i:=3) (z0c (z51 T) T.z4u hr rfl (z03 (p_ix (z00 5) z09 (fun _ _=>rfl)) (z03 (z00 2) z07))) z2h.nd rfl (Or.inr rfl) rfl (Or.inl rfl)))))))))
   (z0b (z0g (z00 2)))))))
theorem zlm(T:Facts K mg A):FnOk P w K mg base CX0 4 A.zey A.zez ["rungs"] (spc K true z5p) :=
 Fun.dat (k:=3) (F:=zac) T.zeN.fn z8r rfl rfl (fun cdv A outer s H E hr=>have hu:=hr.units
  (z08 (zjL (z0a (i:=1) (z46 z07) z8r.nd rfl (Or.inl rfl) rfl (Or.inl rfl)))
   (z08 (z53 (rels:=[]) (g:=(Tg.one 2)) PassesOwn.never rfl (i_rev rfl T.zjs (z00 0)) (z0P z8r.nd rfl (Or.inl rfl) (Or.inl rfl)) (z0b (s_insA (i:=1) rfl (Or.inl rfl) (z0c (z51 T) T.z4u hr rfl (z03 (z00 2) (z03 (z00 1) z07))))))
   (z0b (z0g (z00 1))))))
theorem z6P(T:Facts K mg A):FnOk P w K mg base CX0 5 A.zc7 A.zc8 ["rows"] (spc K true z2f) :=
 Fun.dat (k:=4) (F:=z8b) T.z6j.fn z4Y rfl rfl (fun cdv A outer s H E hr=>have hu:=hr.units
  (z08 (z0m (rels:=[]) (z0a (i:=1) (z46 z07) z4Y.nd rfl (Or.inl rfl) rfl (Or.inl rfl)))
   (z08 (z53 (rels:=[]) (g:=(Tg.one 2)) PassesOwn.never rfl (z1D (z00 0)) (z0P z4Y.nd rfl (Or.inl rfl) (Or.inl rfl)) (z0b (z0m (rels:=[]) (z0a (i:=1) (z0c (zlm T) T.zeN hr rfl (z03 (z0c (zek T) T.zb1 hr rfl (z03 (z00 1) (z03 (z00 2) z07))) z07)) z4Y.nd rfl (Or.inl rfl) rfl (Or.inl rfl)))))
   (z0b (z0g (z00 1))))))
theorem z35(T:Facts K mg A):FnOk P w K mg base CX0 6 A.z5I A.z5J ["rows", "tags"] (spc K true z0N) :=
 Fun.dat (k:=5) (F:=z2r) T.z2x.fn z9c rfl rfl (fun cdv A outer s H E hr=>have hu:=hr.units
  (z0b (z0g (z0c (z6P T) T.z6j hr rfl (z03 (z0F (g:=(Tg.many [0,1])) (z0d (N:=["row", "tag"]) (nt:=2) (js:=[]) ["rows", "tags"] (z04 z2v).names rfl rfl rfl (by decide +kernel)) rfl (zjM rfl T.zkq (z00 0) (z00 1)) (fun _ _ _ _ _=>z3r rfl (z0R (z0J (ndp ["row", "tag"]) rfl (Or.inl rfl) (Or.inr rfl)) (z0R (z0J (ndp ["row", "tag"]) rfl (Or.inl rfl) (Or.inr rfl)) z3q))) (jlt [0,1] 2) (fun _ _ _ _ _=>z0C) (fun _ _ _ _ _=>(p_op z37 (z1A z6Y rfl T.z36 (by decide +kernel) (z03 (z00 0) z07)) (z1A z6Y rfl T.z36 (by decide +kernel) (z03 (z00 1) z07)))) (jlt [] 2)) z07)))))
theorem z7A(T:Facts K mg A):FnOk P w K mg base CX0 2 A.z4p A.z4q ["rungs", "width"] (spc K true z0U) :=
 Fun.dat (k:=1) (F:=z2K) T.z4v.fn z7s rfl rfl (fun cdv A outer s H E hr=>have hu:=hr.units
  (z0b (z0g (z0F (g:=(Tg.one 0)) (z0d (N:=["rung", "width"]) (nt:=1) (js:=[1]) ["rungs", "width"] (z04 z1W).names rfl rfl rfl (by decide +kernel)) rfl (z1D (z00 0)) (fun _ _ _ _ _=>z0P (ndp ["rung", "width"]) rfl (Or.inl rfl) (Or.inr rfl)) (show 0<1 by decide) (fun _ _ _ _ _=>(zf1 (z0W o_ge (z0c (z1x T) T.z1s hr rfl (z03 (z00 0) z07)) (z00 1) (z0u _)))) (fun _ _ _ _ _=>(z2S (z00 0) (z3U (z00 1)) z3T)) (jlt [1] 2)))))
theorem zmQ(T:Facts K mg A):FnOk P w K mg base CX0 6 A.zkh A.zki ["hall"] (spc K true z66) :=
 Fun.dat (k:=5) (F:=zcU) T.zkr.fn zmN rfl rfl (fun cdv A outer s H E hr=>have hu:=hr.units
  (z0b (z0g (z0c (z6P T) T.z6j hr rfl (z03 (p_ix (z00 0) z09 (fun _ _=>rfl)) z07)))))
theorem z6Q(T:Facts K mg A):FnOk P w K mg base CX0 7 A.z3P A.z3Q ["hall"] (spc K true z11) :=
 Fun.dat (k:=6) (F:=z2s) T.z3R.fn z3G rfl rfl (fun cdv A outer s H E hr=>have hu:=hr.units
  (z08 (z0m (rels:=[]) (z0a (i:=1) (z0z z1F rfl T.z1O (by decide +kernel) (z03 (p_ix (z00 0) z09 (fun _ _=>rfl)) z07)) z3G.nd rfl (Or.inr rfl) rfl (Or.inl rfl)))
   (z0b (z0g (z0c (z35 T) T.z2x hr rfl (z03 (p_ix (z00 0) z09 (fun _ _=>rfl)) (z03 (z0F (g:=(Tg.one 0)) (z0d (N:=["place", "many"]) (nt:=1) (js:=[1]) ["hall", "many"] (z04 z1E).names rfl rfl rfl (by decide +kernel)) rfl (z1o rfl T.z1y (z00 1)) (fun _ _ _ _ _=>z0P (ndp ["place", "many"]) rfl (Or.inl rfl) (Or.inr rfl)) (show 0<1 by decide) (fun _ _ _ _ _=>z0C) (fun _ _ _ _ _=>(z0c (z8V T) T.z6S hr rfl (z03 (z00 1) (z03 (z00 0) z07)))) (jlt [1] 2)) z07)))))))
theorem z8x(T:Facts K mg A):FnOk P w K mg base CX0 1 A.zeA A.zeB ["rows", "width"] (spc K true z30) :=
 Fun.dat (k:=0) (F:=zad) T.z7I.fn zli rfl rfl (fun cdv A outer s H E hr=>have hu:=hr.units
  (z0b (z0g (z0F (g:=(Tg.one 0)) (z0d (N:=["spot", "rows"]) (nt:=1) (js:=[0]) ["rows", "width"] (z04 z7t).names rfl rfl rfl (by decide +kernel)) rfl (z1o rfl T.z1y (z00 1)) (fun _ _ _ _ _=>z0P (ndp ["spot", "rows"]) rfl (Or.inr rfl) (Or.inl rfl)) (show 0<1 by decide) (fun _ _ _ _ _=>z0C) (fun _ _ _ _ _=>(z0F (g:=(Tg.one 0)) (by first|exact z0d (N:=["row", "spot"]) (nt:=1) (js:=[0]) ["spot", "rows"] [(".0",.local),("spot",.cell),("rows",.cell)] rfl rfl rfl (by decide +kernel)|exact z0d (N:=["row", "spot"]) (nt:=1) (js:=[0]) ["spot", "rows"] [(".0",.local),("rows",.cell),("spot",.cell)] rfl rfl rfl (by decide +kernel)) rfl (z1D (z00 1)) (fun _ _ _ _ _=>z0P (ndp ["row", "spot"]) rfl (Or.inl rfl) (Or.inr rfl)) (show 0<1 by decide) (fun _ _ _ _ _=>z0C) (fun _ _ _ _ _=>(p_ix (z00 0) (z00 1) (fun _ _=>rfl))) (jlt [0] 2))) (jlt [0] 2)))))
theorem zel(T:Facts K mg A):FnOk P w K mg base CX0 2 A.zaO A.zaP ["rows"] (spc K true z27) :=
 Fun.dat (k:=1) (F:=z4R) T.zb2.fn z5D rfl rfl (fun cdv A outer s H E hr=>have hu:=hr.units
  (z08 (z53 (rels:=[]) (g:=(Tg.many [1,2])) PassesOwn.never rfl (z9J rfl T.z32 (z00 0)) (z3r rfl (z0R (z0J (i:=1) z5D.nd rfl (Or.inl rfl) (Or.inl rfl)) (z0R (z0J (i:=2) z5D.nd rfl (Or.inl rfl) (Or.inl rfl)) z3q))) (z0b (s_if (PFW.pt (w_or (z0W (o_ne hu) (z0c (z1x T) T.z1s hr rfl (z03 (z00 2) z07)) (z00 1) (z0u _)) (z8E (z3o (z0z (c_any rfl) rfl T.n_any (by decide +kernel) (z03 (z0F (g:=(Tg.one 0)) (z0d (N:=["number"]) (nt:=1) (js:=[]) ["rows", "place", "row"] (z04 z4Z).names rfl rfl rfl (by decide +kernel)) rfl (z1D (z2S (z00 2) (z3U (p_op z37 (z00 1) z09)) z3T)) (fun _ _ _ _ _=>z0P (ndp ["number"]) rfl (Or.inl rfl) (Or.inr rfl)) (show 0<1 by decide) (fun _ _ _ _ _=>z0C) (fun _ _ _ _ _=>(zdx (o_ne hu) (z00 0) z09 (z0u _))) (jlt [] 3)) z07)) (fun _=>rfl))))) (z0b (z0g p_bl)) z0D)))
   (z0b (z0g p_bl))))
theorem z7B(T:Facts K mg A):FnOk P w K mg base CX0 2 A.zkj A.zkk ["row", "part"] (spc K true z2T) :=
 Fun.dat (k:=1) (F:=zcV) T.z7J.fn zmO rfl rfl (fun cdv A outer s H E hr=>have hu:=hr.units
  (z0b (z0g (z0F (g:=(Tg.one 0)) (z0d (N:=["number", "part"]) (nt:=1) (js:=[1]) ["row", "part"] (z04 z9o).names rfl rfl rfl (by decide +kernel)) rfl (z1D (z00 0)) (fun _ _ _ _ _=>z0P (ndp ["number", "part"]) rfl (Or.inl rfl) (Or.inr rfl)) (show 0<1 by decide) (fun _ _ _ _ _=>z0C) (fun _ _ _ _ _=>(z0c (zka T) T.zjt hr rfl (z03 (z00 0) (z03 (z00 1) z07)))) (jlt [1] 2)))))
theorem zfU(T:Facts K mg A):FnOk P w K mg base CX0 7 A.zc9 A.zca ["rows", "tags", "whole"] (spc K false z67) :=
 Fun.dat (k:=6) (F:=z4f) T.zct.fn z1M rfl rfl (fun cdv A outer s H E hr=>have hu:=hr.units
  (z08 (z0m (rels:=[]) (z0a (i:=3) (z0z z1F rfl T.z1O (by decide +kernel) (z03 (z00 0) z07)) z1M.nd rfl (Or.inr rfl) rfl (Or.inl rfl)))
   (z08 (z0m (rels:=[]) (z0a (i:=4) (z00 0) z1M.nd rfl (Or.inr rfl) rfl (Or.inl rfl)))
   (z08 (z0m (rels:=[]) (z0a (i:=5) (z00 1) z1M.nd rfl (Or.inl rfl) rfl (Or.inl rfl)))
   (z08 (zcJ PassesOwn.never (z44 (z3o (z0c (zel T) T.zb2 hr rfl (z03 (z00 4) z07)) (fun _=>rfl))) (z08 (z0m (rels:=[]) (z0a (i:=6) (z0c (z8x T) T.z7I hr rfl (z03 (z0c (z6P T) T.z6j hr rfl (z03 (z0c (z8x T) T.z7I hr rfl (z03 (z00 4) (z03 (z00 3) z07))) z07)) (z03 (z00 3) z07))) z1M.nd rfl (Or.inl rfl) rfl (Or.inl rfl)))
   (z08 (z0m (rels:=[]) (z0a (i:=7) (z0c (z35 T) T.z2x hr rfl (z03 (z00 6) (z03 (z00 5) z07))) z1M.nd rfl (Or.inl rfl) rfl (Or.inl rfl)))
   (z08 (z0m (rels:=[]) (z0a (i:=4) (z0F (g:=(Tg.one 0)) (z0d (N:=["row", "many"]) (nt:=1) (js:=[3]) ["rows", "tags", "whole", "many", "square", "weights", "other", "both"] (z04 z3l).names rfl rfl rfl (by decide +kernel)) rfl (z1D (z00 7)) (fun _ _ _ _ _=>z0P (ndp ["row", "many"]) rfl (Or.inl rfl) (Or.inr rfl)) (show 0<1 by decide) (fun _ _ _ _ _=>z0C) (fun _ _ _ _ _=>(z2S (z00 0) z3T (z3U (z00 1)))) (jlt [3] 8)) z1M.nd rfl (Or.inr rfl) rfl (Or.inl rfl)))
   (z0b (z0m (rels:=[]) (z70 (i:=5) (g:=(Tg.one 0)) z1M.nd rfl rfl rfl (z0d (N:=["row", "many", "whole"]) (nt:=1) (js:=[3,2]) ["rows", "tags", "whole", "many", "square", "weights", "other", "both"] (z04 z3l).names rfl rfl rfl (by decide +kernel)) rfl (z1D (z00 7)) (fun _ _ _ _ _=>z0P (ndp ["row", "many", "whole"]) rfl (Or.inl rfl) (Or.inr rfl)) (show 0<1 by decide) (fun _ _ _ _ _=>z0C) (fun _ _ _ _ _=>(z0c (z7B T) T.z7J hr rfl (z03 (z2S (z00 0) (z3U (z00 1)) z3T) (z03 (z00 2) z07)))) (jlt [3,2] 8))))))))
   (z0b (z0g (z0F (g:=(Tg.many [0,1])) (z0d (N:=["place", "row", "square"]) (nt:=2) (js:=[4]) ["rows", "tags", "whole", "many", "square", "weights", "other", "both"] (z04 z3l).names rfl rfl rfl (by decide +kernel)) rfl (z9J rfl T.z32 (z00 5)) (fun _ _ _ _ _=>z3r rfl (z0R (z0J (ndp ["place", "row", "square"]) rfl (Or.inl rfl) (Or.inr rfl)) (z0R (z0J (ndp ["place", "row", "square"]) rfl (Or.inl rfl) (Or.inr rfl)) z3q))) (jlt [0,1] 2) (fun _ _ _ _ _=>z0C) (fun _ _ _ _ _=>(z3p (z03 (z00 1) (z03 (p_ix (p_ix (z00 2) (z00 0) (fun _ _=>rfl)) (z00 0) (fun _ _=>rfl)) z07)))) (jlt [4] 8)))))))))
theorem zln(T:Facts K mg A):FnOk P w K mg base CX0 3 A.zeC A.zeD ["one", "other"] (spc K true z3z) :=
 Fun.dat (k:=2) (F:=z5q) T.zeO.fn z3m rfl rfl (fun cdv A outer s H E hr=>have hu:=hr.units
  (z08 (z0m (rels:=[]) (z0a (i:=2) (z0c (zbP T) T.zaZ hr rfl (z03 (p_ix (z00 0) z09 (fun _ _=>rfl)) (z03 (p_ix (z00 1) z09 (fun _ _=>rfl)) z07))) z3m.nd rfl (Or.inl rfl) rfl (Or.inl rfl)))
   (z08 (z0m (rels:=[]) (z0a (i:=3) (p_ix (z00 2) z09 (fun _ _=>rfl)) z3m.nd rfl (Or.inl rfl) rfl (Or.inl rfl)))
   (z08 (z0m (rels:=[]) (z0a (i:=4) (p_op z52 (p_op z4F (p_ix (z00 0) z09 (fun _ _=>rfl)) (z00 3)) (p_ix (z00 1) z09 (fun _ _=>rfl))) z3m.nd rfl (Or.inl rfl) rfl (Or.inl rfl)))
   (z08 (z0m (rels:=[]) (z0a (i:=5) (z0c (zaC T) T.z9q hr rfl (z03 (p_ix (z00 0) z09 (fun _ _=>rfl)) (z03 (p_ix (z00 1) z09 (fun _ _=>rfl)) z07))) z3m.nd rfl (Or.inl rfl) rfl (Or.inl rfl)))
   (z08 (z0m (rels:=[]) (z0a (i:=6) (z0c (zaC T) T.z9q hr rfl (z03 (z0c (z1X T) T.z22 hr rfl (z03 (p_ix (z00 0) z09 (fun _ _=>rfl)) (z03 (p_op z52 (zbl (p_ix (z00 2) z09 (fun _ _=>rfl))) (p_op z4F (p_ix (z00 1) z09 (fun _ _=>rfl)) (z00 3))) z07))) (z03 (z0c (z1X T) T.z22 hr rfl (z03 (p_ix (z00 1) z09 (fun _ _=>rfl)) (z03 (p_op z52 (p_ix (z00 2) z09 (fun _ _=>rfl)) (p_op z4F (p_ix (z00 0) z09 (fun _ _=>rfl)) (z00 3))) z07))) z07))) z3m.nd rfl (Or.inl rfl) rfl (Or.inl rfl)))
   (z0b (z0g (z3p (z03 (z3p (z03 (z0c (z7B T) T.z7J hr rfl (z03 (z00 5) (z03 (z00 3) z07))) (z03 (z00 3) z07))) (z03 (z3p (z03 (z0c (z7B T) T.z7J hr rfl (z03 (z00 6) (z03 (z00 4) z07))) (z03 (z00 4) z07))) z07)))))))))))
theorem zfV(T:Facts K mg A):FnOk P w K mg base CX0 4 A.zcb A.zcc ["measured"] (spc K true z3i) :=
 Fun.dat (k:=3) (F:=z4g) T.zcu.fn z3H rfl rfl (fun cdv A outer s H E hr=>have hu:=hr.units
  (z08 (zjL (z0a (i:=1) (z1A z6Y rfl T.z36 (by decide +kernel) (z03 (z00 0) z07)) z3H.nd rfl (Or.inl rfl) rfl (Or.inl rfl)))
   (z08 (zm8 (g:=(Tg.one 2)) PassesOwn.never rfl (zkO rfl T.z1y (z0z z1F rfl T.z1O (by decide +kernel) (z03 (z00 1) z07))) (z0P z3H.nd rfl (Or.inl rfl) (Or.inl rfl)) (z0b (zm8 (g:=(Tg.one 3)) PassesOwn.never rfl (zkP rfl T.z1y (p_op z37 (z00 2) z09) (z0z z1F rfl T.z1O (by decide +kernel) (z03 (z00 1) z07))) (z0P z3H.nd rfl (Or.inl rfl) (Or.inl rfl)) (z08 (z9I (z0a (i:=4) (z0c (zln T) T.zeO hr rfl (z03 (p_ix (z00 1) (z00 2) (fun _ _=>rfl)) (z03 (p_ix (z00 1) (z00 3) (fun _ _=>rfl)) z07))) z3H.nd rfl (Or.inl rfl) rfl (Or.inl rfl)))
   (z08 (zm7 (i:=1) rfl (Or.inl rfl) (z00 2) (p_ix (z00 4) z09 (fun _ _=>rfl)))
   (z0b (zm7 (i:=1) rfl (Or.inl rfl) (z00 3) (p_ix (z00 4) z09 (fun _ _=>rfl)))))))))
   (z0b (z0g (z0F (g:=(Tg.many [0,1])) (z0d (N:=["weights", "part"]) (nt:=2) (js:=[]) ["measured", "found", "first", "second", "pair"] (z04 z6g).names rfl rfl rfl (by decide +kernel)) rfl (z1D (z00 1)) (fun _ _ _ _ _=>z3r rfl (z0R (z0J (ndp ["weights", "part"]) rfl (Or.inl rfl) (Or.inr rfl)) (z0R (z0J (ndp ["weights", "part"]) rfl (Or.inl rfl) (Or.inr rfl)) z3q))) (jlt [0,1] 2) (fun _ _ _ _ _=>z0C) (fun _ _ _ _ _=>(z3p (z03 (z0c (z7B T) T.z7J hr rfl (z03 (z00 0) (z03 (z00 1) z07))) (z03 (z00 1) z07)))) (jlt [] 5)))))))
theorem zem(T:Facts K mg A):FnOk P w K mg base CX0 8 A.zaQ A.zaR ["hall"] (spc K false z28) :=
 Fun.dat (k:=7) (F:=z3A) T.zb3.fn z1u rfl rfl (fun cdv A outer s H E hr=>have hu:=hr.units
  (z08 (z0m (rels:=[]) (z0a (i:=1) (p_ix (z00 0) z09 (fun _ _=>rfl)) z1u.nd rfl (Or.inr rfl) rfl (Or.inl rfl)))
   (z08 (z0m (rels:=[]) (z0a (i:=2) (z0c (zmQ T) T.zkr hr rfl (z03 (z00 0) z07)) z1u.nd rfl (Or.inl rfl) rfl (Or.inl rfl)))
   (z08 (z0m (rels:=[]) (z0a (i:=3) (z0z z1F rfl T.z1O (by decide +kernel) (z03 (z00 2) z07)) z1u.nd rfl (Or.inr rfl) rfl (Or.inl rfl)))
   (z08 (z0m (rels:=[]) (z0a (i:=4) (z0c (z35 T) T.z2x hr rfl (z03 (z0c (z8x T) T.z7I hr rfl (z03 (z00 2) (z03 (z00 1) z07))) (z03 (z0F (g:=(Tg.one 0)) (z0d (N:=["spot", "kinds"]) (nt:=1) (js:=[1]) ["hall", "kinds", "rungs", "many", "both", "square", "whole", "bound"] (z04 z1N).names rfl rfl rfl (by decide +kernel)) rfl (z1o rfl T.z1y (z00 1)) (fun _ _ _ _ _=>z0P (ndp ["spot", "kinds"]) rfl (Or.inl rfl) (Or.inr rfl)) (show 0<1 by decide) (fun _ _ _ _ _=>z0C) (fun _ _ _ _ _=>(z0c (z8V T) T.z6S hr rfl (z03 (z00 1) (z03 (z00 0) z07)))) (jlt [1] 8)) z07))) z1u.nd rfl (Or.inl rfl) rfl (Or.inl rfl)))
   (z08 (z0m (rels:=[]) (z70 (i:=5) (g:=(Tg.one 0)) z1u.nd rfl rfl rfl (z0d (N:=["row", "many"]) (nt:=1) (js:=[3]) ["hall", "kinds", "rungs", "many", "both", "square", "whole", "bound"] (z04 z1N).names rfl rfl rfl (by decide +kernel)) rfl (z1D (z2S (z00 4) z3T (z3U (z00 3)))) (fun _ _ _ _ _=>z0P (ndp ["row", "many"]) rfl (Or.inl rfl) (Or.inr rfl)) (show 0<1 by decide) (fun _ _ _ _ _=>z0C) (fun _ _ _ _ _=>(z2S (z00 0) z3T (z3U (z00 1)))) (jlt [3] 8)))
   (z08 (z0m (rels:=[]) (z0a (i:=6) (z0c (zfS T) T.zcr hr rfl (z03 (z0F (g:=(Tg.many [0,1])) (z0d (N:=["place", "row"]) (nt:=2) (js:=[]) ["hall", "kinds", "rungs", "many", "both", "square", "whole", "bound"] (z04 z1N).names rfl rfl rfl (by decide +kernel)) rfl (z9J rfl T.z32 (z00 5)) (fun _ _ _ _ _=>z3r rfl (z0R (z0J (ndp ["place", "row"]) rfl (Or.inl rfl) (Or.inr rfl)) (z0R (z0J (ndp ["place", "row"]) rfl (Or.inl rfl) (Or.inr rfl)) z3q))) (jlt [0,1] 2) (fun _ _ _ _ _=>z0C) (fun _ _ _ _ _=>(p_ix (z00 1) (z00 0) (fun _ _=>rfl))) (jlt [] 8)) z07)) z1u.nd rfl (Or.inl rfl) rfl (Or.inl rfl)))
   (z08 (z0m (rels:=[]) (z0a (i:=7) (z0c (zfU T) T.zct hr rfl (z03 (z00 5) (z03 (z0F (g:=(Tg.one 0)) (z0d (N:=["row", "many"]) (nt:=1) (js:=[3]) ["hall", "kinds", "rungs", "many", "both", "square", "whole", "bound"] (z04 z1N).names rfl rfl rfl (by decide +kernel)) rfl (z1D (z2S (z00 4) z3T (z3U (z00 3)))) (fun _ _ _ _ _=>z0P (ndp ["row", "many"]) rfl (Or.inl rfl) (Or.inr rfl)) (show 0<1 by decide) (fun _ _ _ _ _=>z0C) (fun _ _ _ _ _=>(z2S (z00 0) (z3U (z00 1)) z3T)) (jlt [3] 8)) (z03 (z00 6) z07)))) z1u.nd rfl (Or.inl rfl) rfl (Or.inl rfl)))
   (z0b (z0g (p_op z37 (z0c (zfV T) T.zcu hr rfl (z03 (z00 7) z07)) (z0F (g:=(Tg.one 0)) (z0d (N:=["weights"]) (nt:=1) (js:=[]) ["hall", "kinds", "rungs", "many", "both", "square", "whole", "bound"] (z04 z1N).names rfl rfl rfl (by decide +kernel)) rfl (z1D (z0c (z7A T) T.z4v hr rfl (z03 (z00 4) (z03 (z00 3) z07)))) (fun _ _ _ _ _=>z0P (ndp ["weights"]) rfl (Or.inl rfl) (Or.inr rfl)) (show 0<1 by decide) (fun _ _ _ _ _=>z0C) (fun _ _ _ _ _=>(z3p (z03 (z00 0) (z03 z09 z07)))) (jlt [] 8)))))))))))))
theorem zfW(T:Facts K mg A):FnOk P w K mg base CX0 8 A.zcd A.zce ["hall", "one", "other"] (spc K true z68) :=
 Fun.dat (k:=7) (F:=z8c) T.zcv.fn z6L rfl rfl (fun cdv A outer s H E hr=>have hu:=hr.units
  (z08 (z0m (rels:=[]) (z0a (i:=3) (z0c (z1X T) T.z22 hr rfl (z03 (z0c (zei T) T.zdl hr rfl (z03 (z00 0) (z03 (z00 1) (z03 (z00 2) z07)))) (z03 (zbl z09) z07))) z6L.nd rfl (Or.inl rfl) rfl (Or.inl rfl)))
   (z08 (z0m (rels:=[]) (z0a (i:=4) (z0c (z51 T) T.z4u hr rfl (z03 (p_op z37 (z00 3) (z0c (zaB T) T.z8z hr rfl (z03 (z0z z1F rfl T.z1O (by decide +kernel) (z03 (p_ix (z00 0) z09 (fun _ _=>rfl)) z07)) z07))) (z03 (z0c (z6Q T) T.z3R hr rfl (z03 (z00 0) z07)) z07))) z6L.nd rfl (Or.inl rfl) rfl (Or.inl rfl)))
   (z08 (s_if (z0W (o_ne hu) (z2S (z00 4) z3T (z3U (p_ix (z00 0) z09 (fun _ _=>rfl)))) (z0c (zll T) T.zeM hr rfl (z03 (z00 0) z07)) (z0u _)) (z0b (z0g zlN)) z0D)
   (z0b (z0g (z2S (z00 4) (z3U (p_ix (z00 0) z09 (fun _ _=>rfl))) z3T)))))))
theorem zql(T:Facts K mg A):FnOk P w K mg base CX0 9 A.zpm A.zpn ["hall", "one", "other"] (spc K true z8d) :=
 Fun.dat (k:=8) (F:=zcW) T.zps.fn zqj rfl rfl (fun cdv A outer s H E hr=>have hu:=hr.units
  (z0b (z0g (z0c (zfW T) T.zcv hr rfl (z03 (z00 0) (z03 (z00 1) (z03 (z00 2) z07)))))))
theorem zlo(T:Facts K mg A):FnOk P w K mg base CX0 9 A.zeE A.zeF ["hall"] (spc K false z2t) :=
 Fun.dat (k:=8) (F:=z5r) T.zeP.fn zlj rfl rfl (fun cdv A outer s H E hr=>have hu:=hr.units
  (z0b (z0g (z0F (g:=(Tg.many [0,1])) (z0d (N:=["weights", "part"]) (nt:=2) (js:=[]) ["hall"] (z04 z7u).names rfl rfl rfl (by decide +kernel)) rfl (z1D (z0c (zem T) T.zb3 hr rfl (z03 (z00 0) z07))) (fun _ _ _ _ _=>z3r rfl (z0R (z0J (ndp ["weights", "part"]) rfl (Or.inl rfl) (Or.inr rfl)) (z0R (z0J (ndp ["weights", "part"]) rfl (Or.inl rfl) (Or.inr rfl)) z3q))) (jlt [0,1] 2) (fun _ _ _ _ _=>(zf1 (z0W (o_ne hu) (z00 1) z09 (z0u _)))) (fun _ _ _ _ _=>(z3p (z03 (z00 0) (z03 (z00 1) z07)))) (jlt [] 1)))))
theorem zqm(T:Facts K mg A):FnOk P w K mg base CX0 2 A.zpo A.zpp ["way", "scale"] (spc K true z5s) :=
 Fun.dat (k:=1) (F:=zfh) T.zpt.fn zqk rfl rfl (fun cdv A outer s H E hr=>have hu:=hr.units
  (z0b (z0g (z0c (zka T) T.zjt hr rfl (z03 (z0c (zfO T) T.zcn hr rfl (z03 (z00 0) (z03 (p_ix (z00 1) z09 (fun _ _=>rfl)) z07))) (z03 (p_ix (z00 1) z09 (fun _ _=>rfl)) z07))))))
theorem z7C(T:Facts K mg A):FnOk P w K mg base CX0 1 A.z4r A.z4s ["scale", "found"] (spc K false z1q) :=
 Fun.dat (k:=0) (F:=z2L) T.z4w.fn z7v rfl rfl (fun cdv A outer s H E hr=>have hu:=hr.units
  (z0b (z0g (z3p (z03 (p_ix (z00 0) z09 (fun _ _=>rfl)) (z03 (p_if (z0W (o_eq hu) (p_ix (z00 0) z09 (fun _ _=>rfl)) z09 (z0u _)) (p_op z37 (z0z c_abs rfl T.n_abs (by decide +kernel) (z03 (z00 1) z07)) z09) (p_ix (z00 0) z09 (fun _ _=>rfl))) z07))))))
theorem zlp(T:Facts K mg A):FnOk P w K mg base CX0 10 A.zeG A.zeH ["hall", "one", "other"] (spc K false z4i) :=
 Fun.dat (k:=9) (F:=z4h) T.zeQ.fn z6h rfl rfl (fun cdv A outer s H E hr=>have hu:=hr.units
  (z08 (z0m (rels:=[]) (z0a (i:=3) (z0c (zei T) T.zdl hr rfl (z03 (z00 0) (z03 (z00 1) (z03 (z00 2) z07)))) z6h.nd rfl (Or.inl rfl) rfl (Or.inl rfl)))
   (z08 (z53 (rels:=[]) (g:=(Tg.one 4)) PassesOwn.never rfl (z1D (z0c (zlo T) T.zeP hr rfl (z03 (z00 0) z07))) (z0P z6h.nd rfl (Or.inl rfl) (Or.inl rfl)) (z08 (z0m (rels:=[]) (z0a (i:=5) (z0c (zqm T) T.zpt hr rfl (z03 (z00 3) (z03 (z00 4) z07))) z6h.nd rfl (Or.inl rfl) rfl (Or.inl rfl)))
   (z0b (s_if (z0W (o_ne hu) (z00 5) z09 (z0u _)) (z0b (z0g (z0c (z7C T) T.z4w hr rfl (z03 (z00 4) (z03 (z00 5) z07))))) z0D))))
   (z0b (z0g zlN)))))
theorem zlq(T:Facts K mg A):FnOk P w K mg base CX0 11 A.zeI A.zeJ ["hall", "one", "other"] (spc K false z4j) :=
 Fun.dat (k:=10) (F:=z7i) T.zeR.fn zbN rfl rfl (fun cdv A outer s H E hr=>have hu:=hr.units
  (z08 (z0m (rels:=[]) (z0a (i:=3) (z0c (zql T) T.zps hr rfl (z03 (z00 0) (z03 (z00 1) (z03 (z00 2) z07)))) zbN.nd rfl (Or.inl rfl) rfl (Or.inl rfl)))
   (z08 (s_if (z0W o_isN (z00 3) zlN (z0u _)) (z0b (z0g (z3p (z03 zjC (z03 (z0c (zlp T) T.zeQ hr rfl (z03 (z00 0) (z03 (z00 1) (z03 (z00 2) z07)))) z07))))) z0D)
   (z0b (z0g (z3p (z03 zjC (z03 (z00 3) z07))))))))
theorem z0V(T:Facts K mg A):FnOk P w K mg base CX0 1 A.z92 A.z93 ["_law_script", "_law_k"] (spc K true z0t) :=
 Fun.dat (k:=0) (F:=z5t) T.z0X.fn zde rfl rfl (fun cdv A outer s H E hr=>have hu:=hr.units
  (z08 (s_if (z0W o_lt (z00 1) (z0z z1F rfl T.z1O (by decide +kernel) (z03 (z00 0) z07)) (z0u _)) (z0b (z0g (p_ix (z00 0) (z00 1) (fun _ _=>rfl)))) z0D)
   (z08 (s_if (z0W (o_eq hu) (z00 0) (z46 z07) (z0u _)) (z0b (z0g z09)) z0D)
   (z0b (z0g (p_op z37 (p_op z52 (p_ix (z00 0) (p_op z2y (z00 1) (z0z z1F rfl T.z1O (by decide +kernel) (z03 (z00 0) z07))) (fun _ _=>rfl)) z09) (z00 1)))))))
theorem zaE(T:Facts K mg A):FnOk P w K mg base CX0 1 A.zcf A.zcg ["_law_found"] (spc K true z1T) :=
 Fun.dat (k:=0) (F:=z69) T.z8A.fn zfM rfl rfl (fun cdv A outer s H E hr=>have hu:=hr.units
  (z0b (z0g (zjE (z6Z (T := "int") rfl rfl T.z15 rfl T.n_int (by decide +kernel) (z00 0)) (zjD (p_not (z6Z (T := "bool") rfl rfl T.z15 rfl T.zpq (by decide +kernel) (z00 0))))))))
theorem z8W(T:Facts K mg A):FnOk P w K mg base CX0 2 A.zaS A.zaT ["_law_found", "_law_size"] (spc K true z3B) :=
 Fun.dat (k:=1) (F:=z6E) T.z6T.fn z8S rfl rfl (fun cdv A outer s H E hr=>have hu:=hr.units
  (z08 (s_if (PFW.pt (w_or (z44 (z3o (z6Z (T := "list") rfl rfl T.z15 rfl T.z36 (by decide +kernel) (z00 0)) (fun _=>rfl))) (z8E (z0W (o_ne hu) (z0z z1F rfl T.z1O (by decide +kernel) (z03 (z00 0) z07)) (z00 1) (z0u _))))) (z0b (z0g p_bl)) z0D)
   (z08 (z53 (rels:=[]) (g:=(Tg.one 2)) PassesOwn.never rfl (z1D (z00 0)) (z0P z8S.nd rfl (Or.inl rfl) (Or.inl rfl)) (z0b (s_if (z44 (z3o (z0c (zaE T) T.z8A hr rfl (z03 (z00 2) z07)) (fun _=>rfl))) (z0b (z0g p_bl)) z0D)))
   (z0b (z0g p_bl)))))
theorem zen(T:Facts K mg A):FnOk P w K mg base CX0 1 A.zaU A.zaV ["_law_cell", "_law_mode"] (spc K true z2M) :=
 Fun.dat (k:=0) (F:=z3C) T.zb4.fn z3O rfl rfl (fun cdv A outer s H E hr=>have hu:=hr.units
  (z08 (s_if (z0W (o_eq hu) (z00 1) z09 (z0u _)) (z08 (z0m (rels:=[]) (z0a (i:=2) (p_op z2y (z00 0) (p_op zlR z09 z09)) z3O.nd rfl (Or.inl rfl) rfl (Or.inl rfl)))
   (z08 (s_if (z0W (o_eq hu) (p_op z2y (p_op z4F (z00 0) (p_op zlR z09 z09)) z09) z09 (z0u _)) (z0b (z0g (zbl (z00 2)))) z0D)
   (z0b (z0g (z00 2))))) z0D)
   (z08 (z0m (rels:=[]) (z0a (i:=3) (p_ix (z46 (z03 z09 (z03 z09 z07))) (z00 1) (fun _ _=>rfl)) z3O.nd rfl (Or.inl rfl) rfl (Or.inl rfl)))
   (z08 (z0m (rels:=[]) (z0a (i:=2) (p_op z2y (z00 0) (z00 3)) z3O.nd rfl (Or.inl rfl) rfl (Or.inl rfl)))
   (z08 (s_if (z0W o_gt (z00 2) (p_op z4F (z00 3) z09) (z0u _)) (z0b (z0g (p_op zlQ (z00 2) (z00 3)))) z0D)
   (z0b (z0g (z00 2))))))))
theorem z7D(T:Facts K mg A):FnOk P w K mg base CX0 2 A.zkl A.zkm ["_law_script", "_law_at", "_law_size", "_law_mode"] (spc K true z2u) :=
 Fun.dat (k:=1) (F:=zcX) T.z7K.fn zmP rfl rfl (fun cdv A outer s H E hr=>have hu:=hr.units
  (z0b (z0g (z0F (g:=(Tg.one 0)) (z0d (N:=["_law_k", "_law_script", "_law_at", "_law_mode"]) (nt:=1) (js:=[0,1,3]) ["_law_script", "_law_at", "_law_size", "_law_mode"] (z04 z9p).names rfl rfl rfl (by decide +kernel)) rfl (z1o rfl T.z1y (z00 2)) (fun _ _ _ _ _=>z0P (ndp ["_law_k", "_law_script", "_law_at", "_law_mode"]) rfl (Or.inl rfl) (Or.inr rfl)) (show 0<1 by decide) (fun _ _ _ _ _=>z0C) (fun _ _ _ _ _=>(z0c (zen T) T.zb4 hr rfl (z03 (z0c (z0V T) T.z0X hr rfl (z03 (z00 1) (z03 (p_op z37 (z00 2) (z00 0)) z07))) (z03 (z00 3) z07)))) (jlt [0,1,3] 4)))))
theorem zfX(T:Facts K mg A):FnOk P w K mg base CX0 3 A.zch A.zci ["_law_script"] (spc K true z8e) :=
 Fun.dat (k:=2) (F:=zbH) T.zcw.fn z1w rfl rfl (fun cdv A outer s H E hr=>have hu:=hr.units
  (z08 (z0m (rels:=[]) (z0a (i:=1) (p_ix (z46 (z03 z09 (z03 z09 (z03 z09 (z03 z09 (z03 z09 z07)))))) (p_op z2y (z0c (z0V T) T.z0X hr rfl (z03 (z00 0) (z03 z09 z07))) z09) (fun _ _=>rfl)) z1w.nd rfl (Or.inr rfl) rfl (Or.inl rfl)))
   (z08 (z0m (rels:=[]) (z0a (i:=2) (p_op z37 z09 (p_op z2y (z0c (z0V T) T.z0X hr rfl (z03 (z00 0) (z03 z09 z07))) z09)) z1w.nd rfl (Or.inr rfl) rfl (Or.inl rfl)))
   (z08 (z0m (rels:=[]) (z0a (i:=3) (p_op z2y (z0c (z0V T) T.z0X hr rfl (z03 (z00 0) (z03 z09 z07))) z09) z1w.nd rfl (Or.inl rfl) rfl (Or.inl rfl)))
   (z08 (s_if (z0W (o_eq hu) (p_op z2y (z0c (z0V T) T.z0X hr rfl (z03 (z00 0) (z03 z09 z07))) z09) z09 (z0u _)) (z08 (z0m (rels:=[]) (z0a (i:=2) z09 z1w.nd rfl (Or.inr rfl) rfl (Or.inl rfl)))
   (z08 (z0m (rels:=[]) (z0a (i:=3) z09 z1w.nd rfl (Or.inl rfl) rfl (Or.inl rfl)))
   (z0b (z0m (rels:=[]) (z0a (i:=1) z09 z1w.nd rfl (Or.inr rfl) rfl (Or.inl rfl)))))) z0D)
   (z08 (s_if (z0W (o_eq hu) (z00 1) z09 (z0u _)) (z08 (z0m (rels:=[]) (z0a (i:=2) (p_op z37 z09 (p_op z2y (z00 2) z09)) z1w.nd rfl (Or.inr rfl) rfl (Or.inl rfl)))
   (z0b (z0m (rels:=[]) (z0a (i:=3) (p_op z2y (z00 3) z09) z1w.nd rfl (Or.inl rfl) rfl (Or.inl rfl))))) z0D)
   (z0b (z0g (z3p (z03 (z00 2) (z03 (z0F (g:=(Tg.one 0)) (z0d (N:=["_law_k", "_law_script", "_law_kinds", "_law_mode"]) (nt:=1) (js:=[0,2,1]) ["_law_script", "_law_mode", "_law_kinds", "_law_many"] (z04 z6i).names rfl rfl rfl (by decide +kernel)) rfl (z1o rfl T.z1y (z00 3)) (fun _ _ _ _ _=>z0P (ndp ["_law_k", "_law_script", "_law_kinds", "_law_mode"]) rfl (Or.inl rfl) (Or.inr rfl)) (show 0<1 by decide) (fun _ _ _ _ _=>z0C) (fun _ _ _ _ _=>(z0c (z7D T) T.z7K hr rfl (z03 (z00 1) (z03 (p_op z37 z09 (p_op z52 (z00 2) (z00 0))) (z03 (z00 2) (z03 (z00 3) z07)))))) (jlt [0,2,1] 4)) z07)))))))))))
theorem zeo(T:Facts K mg A):FnOk P w K mg base CX0 1 A.zkn A.zko ["_law_size", "_law_rows", "_law_times"] (spc K true z6a) :=
 Fun.dat (k:=0) (F:=zcY) T.zdm.fn z7x rfl rfl (fun cdv A outer s H E hr=>have hu:=hr.units
  (z08 (z0m (rels:=[]) (z0a (i:=3) (z0F (g:=(Tg.one 0)) (z0d (N:=["_law_k"]) (nt:=1) (js:=[]) ["_law_size", "_law_rows", "_law_times", "_law_made", "_law_j"] (z04 z7w).names rfl rfl rfl (by decide +kernel)) rfl (z1o rfl T.z1y (z00 0)) (fun _ _ _ _ _=>z0P (ndp ["_law_k"]) rfl (Or.inl rfl) (Or.inr rfl)) (show 0<1 by decide) (fun _ _ _ _ _=>z0C) (fun _ _ _ _ _=>z09) (jlt [] 5)) z7x.nd rfl (Or.inr rfl) rfl (Or.inl rfl)))
   (z08 (z53 (rels:=[]) (g:=(Tg.one 4)) PassesOwn.never rfl (z1o rfl T.z1y (z0z z1F rfl T.z1O (by decide +kernel) (z03 (z00 1) z07))) (z0P z7x.nd rfl (Or.inr rfl) (Or.inl rfl)) (z0b (z0m (rels:=[]) (z0a (i:=3) (z0F (g:=(Tg.one 0)) (z0d (N:=["_law_k", "_law_made", "_law_times", "_law_j", "_law_rows"]) (nt:=1) (js:=[3,2,4,1]) ["_law_size", "_law_rows", "_law_times", "_law_made", "_law_j"] (z04 z7w).names rfl rfl rfl (by decide +kernel)) rfl (z1o rfl T.z1y (z00 0)) (fun _ _ _ _ _=>z0P (ndp ["_law_k", "_law_made", "_law_times", "_law_j", "_law_rows"]) rfl (Or.inl rfl) (Or.inr rfl)) (show 0<1 by decide) (fun _ _ _ _ _=>z0C) (fun _ _ _ _ _=>(p_op z37 (p_ix (z00 1) (z00 0) (fun _ _=>rfl)) (p_op z52 (p_ix (z00 2) (z00 3) (fun _ _=>rfl)) (p_ix (p_ix (z00 4) (z00 3) (fun _ _=>rfl)) (z00 0) (fun _ _=>rfl))))) (jlt [3,2,4,1] 5)) z7x.nd rfl (Or.inr rfl) rfl (Or.inl rfl)))))
   (z0b (z0g (z00 3))))))
theorem z8y(T:Facts K mg A):FnOk P w K mg base CX0 1 A.zeK A.zeL ["_law_one", "_law_other", "_law_times"] (spc K true z3D) :=
 Fun.dat (k:=0) (F:=zae) T.z7L.fn zlk rfl rfl (fun cdv A outer s H E hr=>have hu:=hr.units
  (z0b (z0g (z0F (g:=(Tg.one 0)) (z0d (N:=["_law_k", "_law_one", "_law_times", "_law_other"]) (nt:=1) (js:=[0,2,1]) ["_law_one", "_law_other", "_law_times"] (z04 z7y).names rfl rfl rfl (by decide +kernel)) rfl (z1o rfl T.z1y (z0z z1F rfl T.z1O (by decide +kernel) (z03 (z00 0) z07))) (fun _ _ _ _ _=>z0P (ndp ["_law_k", "_law_one", "_law_times", "_law_other"]) rfl (Or.inl rfl) (Or.inr rfl)) (show 0<1 by decide) (fun _ _ _ _ _=>z0C) (fun _ _ _ _ _=>(p_op z37 (p_ix (z00 1) (z00 0) (fun _ _=>rfl)) (p_op z52 (z00 2) (p_ix (z00 3) (z00 0) (fun _ _=>rfl))))) (jlt [0,2,1] 3)))))
theorem zaF(T:Facts K mg A):FnOk P w K mg base CX0 1 A.zcj A.zck ["_law_weights", "_law_row_here"] (spc K true z2N) :=
 Fun.dat (k:=0) (F:=z8f) T.z8B.fn z50 rfl rfl (fun cdv A outer s H E hr=>have hu:=hr.units
  (z08 (z0m (rels:=[]) (z0a (i:=2) z09 z50.nd rfl (Or.inl rfl) rfl (Or.inl rfl)))
   (z08 (z53 (rels:=[]) (g:=(Tg.one 3)) PassesOwn.never rfl (z1o rfl T.z1y (z0z z1F rfl T.z1O (by decide +kernel) (z03 (z00 1) z07))) (z0P z50.nd rfl (Or.inl rfl) (Or.inl rfl)) (z0b (z0m (rels:=[]) (z0a (i:=2) (p_op z37 (z00 2) (p_op z52 (p_ix (z00 0) (z00 3) (fun _ _=>rfl)) (p_ix (z00 1) (z00 3) (fun _ _=>rfl)))) z50.nd rfl (Or.inl rfl) rfl (Or.inl rfl)))))
   (z0b (z0g (z00 2))))))
theorem zfY(T:Facts K mg A):FnOk P w K mg base CX0 3 A.zcl A.zcm ["_law_bills_here", "_law_one", "_law_other", "_law_uses"] (spc K true z4k) :=
 Fun.dat (k:=2) (F:=z8g) T.zcx.fn zfN rfl rfl (fun cdv A outer s H E hr=>have hu:=hr.units
  (z08 (s_if (z44 (z3o (z0c (z8W T) T.z6T hr rfl (z03 (z00 3) (z03 (z0z z1F rfl T.z1O (by decide +kernel) (z03 (z00 0) z07)) z07))) (fun _=>rfl))) (z0b (z0g p_bl)) z0D)
   (z0b (z0g (zdx (o_eq hu) (z0c (z8y T) T.z7L hr rfl (z03 (z00 1) (z03 (z0c (zeo T) T.zdm hr rfl (z03 (z0z z1F rfl T.z1O (by decide +kernel) (z03 (z00 1) z07)) (z03 (z00 0) (z03 (z00 3) z07)))) (z03 z09 z07)))) (z00 2) (z0u _))))))
theorem zep(T:Facts K mg A):FnOk P w K mg base CX0 3 A.zaW A.zaX ["_law_bills_here", "_law_one", "_law_other", "_law_scale"] (spc K true z3E) :=
 Fun.dat (k:=2) (F:=z6F) T.zb5.fn z8T rfl rfl (fun cdv A outer s H E hr=>have hu:=hr.units
  (z08 (s_if (PFW.pt (w_or (z44 (z3o (z6Z (T := "tuple") rfl rfl T.z15 rfl T.z7G (by decide +kernel) (z00 3)) (fun _=>rfl))) (w_or (z0W (o_ne hu) (z0z z1F rfl T.z1O (by decide +kernel) (z03 (z00 3) z07)) z09 (z0u _)) (z8E (z44 (z3o (z0c (zaE T) T.z8A hr rfl (z03 (p_ix (z00 3) z09 (fun _ _=>rfl)) z07)) (fun _=>rfl))))))) (z0b (z0g p_bl)) z0D)
   (z08 (s_if (PFW.pt (w_or (z44 (z3o (z0c (z8W T) T.z6T hr rfl (z03 (p_ix (z00 3) z09 (fun _ _=>rfl)) (z03 (z0z z1F rfl T.z1O (by decide +kernel) (z03 (z00 1) z07)) z07))) (fun _=>rfl))) (z8E (z0W o_lt (p_ix (z00 3) z09 (fun _ _=>rfl)) z09 (z0u _))))) (z0b (z0g p_bl)) z0D)
   (z08 (z53 (rels:=[]) (g:=(Tg.one 4)) PassesOwn.never rfl (z1D (z00 0)) (z0P z8T.nd rfl (Or.inl rfl) (Or.inl rfl)) (z0b (s_if (z0W (o_ne hu) (p_op z2y (z0c (zaF T) T.z8B hr rfl (z03 (p_ix (z00 3) z09 (fun _ _=>rfl)) (z03 (z00 4) z07))) (p_ix (z00 3) z09 (fun _ _=>rfl))) z09 (z0u _)) (z0b (z0g p_bl)) z0D)))
   (z0b (z0g (zdx (o_ne hu) (p_op z2y (z0c (zaF T) T.z8B hr rfl (z03 (p_ix (z00 3) z09 (fun _ _=>rfl)) (z03 (z0c (z8y T) T.z7L hr rfl (z03 (z00 2) (z03 (z00 1) (z03 (zbl z09) z07)))) z07))) (p_ix (z00 3) z09 (fun _ _=>rfl))) z09 (z0u _))))))))
theorem zdi(T:Facts K mg A):FnOk P w K mg base CX0 3 A.z94 A.z95 ["_law_script", "_law_kinds", "_law_bills_here"] (spc K true z5u) :=
 Fun.dat (k:=2) (F:=z31) T.z99.fn z2w rfl rfl (fun cdv A outer s H E hr=>have hu:=hr.units
  (z08 (z0m (rels:=[]) (z0a (i:=3) (z0c (z7D T) T.z7K hr rfl (z03 (z00 0) (z03 z09 (z03 (z00 1) (z03 (p_ix (z46 (z03 z09 (z03 z09 (z03 z09 z07)))) (p_op z2y (z0c (z0V T) T.z0X hr rfl (z03 (z00 0) (z03 z09 z07))) z09) (fun _ _=>rfl)) z07))))) z2w.nd rfl (Or.inl rfl) rfl (Or.inl rfl)))
   (z08 (z0m (rels:=[]) (z0a (i:=4) (z0c (z7D T) T.z7K hr rfl (z03 (z00 0) (z03 z09 (z03 (z00 1) (z03 (p_ix (z46 (z03 z09 (z03 z09 (z03 z09 z07)))) (p_op z2y (z0c (z0V T) T.z0X hr rfl (z03 (z00 0) (z03 z09 z07))) z09) (fun _ _=>rfl)) z07))))) z2w.nd rfl (Or.inl rfl) rfl (Or.inl rfl)))
   (z08 (s_if (z0W (o_eq hu) (p_op z2y (z0c (z0V T) T.z0X hr rfl (z03 (z00 0) (z03 z09 z07))) z09) z09 (z0u _)) (z08 (z0m (rels:=[]) (z0a (i:=5) (z0c (z7D T) T.z7K hr rfl (z03 (z00 0) (z03 z09 (z03 (z0z z1F rfl T.z1O (by decide +kernel) (z03 (z00 2) z07)) (z03 (p_op z2y (z0c (z0V T) T.z0X hr rfl (z03 (z00 0) (z03 z09 z07))) z09) z07))))) z2w.nd rfl (Or.inl rfl) rfl (Or.inl rfl)))
   (z0b (z0m (rels:=[]) (z0a (i:=4) (z0c (z8y T) T.z7L hr rfl (z03 (z00 3) (z03 (z0c (zeo T) T.zdm hr rfl (z03 (z00 1) (z03 (z00 2) (z03 (z00 5) z07)))) (z03 z09 z07)))) z2w.nd rfl (Or.inl rfl) rfl (Or.inl rfl))))) z0D)
   (z0b (z0g (z3p (z03 (z00 3) (z03 (z00 4) (z03 (zdx (o_eq hu) (p_op z2y (z0c (z0V T) T.z0X hr rfl (z03 (z00 0) (z03 z09 z07))) z09) z09 (z0u _)) z07))))))))))
theorem ok_law(T:Facts K mg A):FnOk P w K mg base CX0 12 A.a_law A.zkp ["_law_script"] (spc K true zk3) :=
 Fun.dat (k:=11) (F:=zmv) T.f_law.fn z5G rfl rfl (fun cdv A outer s H E hr=>have hu:=hr.units
  (z08 (z0m (rels:=[]) (z0a (i:=1) (z0c (zfX T) T.zcw hr rfl (z03 (z00 0) z07)) z5G.nd rfl (Or.inl rfl) rfl (Or.inl rfl)))
   (z08 (z0m (rels:=[]) (z0a (i:=2) (p_ix (z00 1) z09 (fun _ _=>rfl)) z5G.nd rfl (Or.inl rfl) rfl (Or.inl rfl)))
   (z08 (z0m (rels:=[]) (z0a (i:=3) (p_ix (z00 1) z09 (fun _ _=>rfl)) z5G.nd rfl (Or.inl rfl) rfl (Or.inl rfl)))
   (z08 (z0m (rels:=[]) (z0a (i:=4) (z0c (zfR T) T.zcq hr rfl (z03 (z00 2) (z03 (z0F (g:=(Tg.one 0)) (z0d (N:=["_law_bill"]) (nt:=1) (js:=[]) ["_law_script", "_law_drawn", "_law_kinds", "_law_bills_here", "_law_hall", "_law_found", "_law_handed", "_law_answer"] (z04 zk9).names rfl rfl rfl (by decide +kernel)) rfl (z1D (z00 3)) (fun _ _ _ _ _=>z0P (ndp ["_law_bill"]) rfl (Or.inl rfl) (Or.inr rfl)) (show 0<1 by decide) (fun _ _ _ _ _=>z0C) (fun _ _ _ _ _=>(z1A z6Y rfl T.z36 (by decide +kernel) (z03 (z00 0) z07))) (jlt [] 8)) z07))) z5G.nd rfl (Or.inl rfl) rfl (Or.inl rfl)))
   (z08 (z0m (rels:=[]) (z0a (i:=5) (z0c (zdi T) T.z99 hr rfl (z03 (z00 0) (z03 (z00 2) (z03 (z00 3) z07)))) z5G.nd rfl (Or.inl rfl) rfl (Or.inl rfl)))
   (z08 (z0m (rels:=[]) (z0a (i:=6) (z46 (z03 (z1A z6Y rfl T.z36 (by decide +kernel) (z03 (p_ix (z00 5) z09 (fun _ _=>rfl)) z07)) (z03 (z1A z6Y rfl T.z36 (by decide +kernel) (z03 (p_ix (z00 5) z09 (fun _ _=>rfl)) z07)) z07))) z5G.nd rfl (Or.inl rfl) rfl (Or.inl rfl)))
   (z08 (z0m (rels:=[]) (z0a (i:=7) (z0c (zlq T) T.zeR hr rfl (z03 (z00 4) (z03 (p_ix (z00 6) z09 (fun _ _=>rfl)) (z03 (p_ix (z00 6) z09 (fun _ _=>rfl)) z07)))) z5G.nd rfl (Or.inl rfl) rfl (Or.inl rfl)))
   (z08 (s_if (z0W (o_ne hu) (z00 6) (z46 (z03 (p_ix (z00 5) z09 (fun _ _=>rfl)) (z03 (p_ix (z00 5) z09 (fun _ _=>rfl)) z07))) (z0u _)) (z0b (z0g p_bl)) z0D)
   (z08 (s_if (PFW.pt (w_or (z44 (z3o (z6Z (T := "tuple") rfl rfl T.z15 rfl T.z7G (by decide +kernel) (z00 7)) (fun _=>rfl))) (z8E (z0W (o_ne hu) (z0z z1F rfl T.z1O (by decide +kernel) (z03 (z00 7) z07)) z09 (z0u _))))) (z0b (z0g p_bl)) z0D)
   (z08 (s_if (z0W (o_eq hu) (p_ix (z00 7) z09 (fun _ _=>rfl)) zjC (z0u _)) (z0b (z0g (z0c (zfY T) T.zcx hr rfl (z03 (z00 3) (z03 (p_ix (z00 5) z09 (fun _ _=>rfl)) (z03 (p_ix (z00 5) z09 (fun _ _=>rfl)) (z03 (p_ix (z00 7) z09 (fun _ _=>rfl)) z07))))))) z0D)
   (z08 (s_if (PFW.pt (w_or (z0W (o_ne hu) (p_ix (z00 7) z09 (fun _ _=>rfl)) zjC (z0u _)) (z8E (z3o (p_ix (z00 5) z09 (fun _ _=>rfl)) (fun _=>rfl))))) (z0b (z0g p_bl)) z0D)
   (z0b (z0g (z0c (zep T) T.zb5 hr rfl (z03 (z00 3) (z03 (p_ix (z00 5) z09 (fun _ _=>rfl)) (z03 (p_ix (z00 5) z09 (fun _ _=>rfl)) (z03 (p_ix (z00 7) z09 (fun _ _=>rfl)) z07)))))))))))))))))))
end
theorem zmR{l:PySem.W.OpenLaw}{w:World}{K:PySem.W.Frag}{h:Heap}{mg:Str→Option Value}{fa:Addr}(X:K.In h)(G:h.Ns mainGlobals mg)(hfa:mg "law" = some (.ref fa))
  {a0:Addr} (h0:Dh K "is_whole" z6I a0)
  {a1:Addr} (h1:Dh K "is_row" z7p a1)
  {a2:Addr} (h2:Dh K "noughts" z6c a2)
  {a3:Addr} (h3:Dh K "unit_row" z4U a3)
  {a4:Addr} (h4:Dh K "added" z9m a4)
  {a5:Addr} (h5:Dh K "taken" z9n a5)
  {a6:Addr} (h6:Dh K "scaled" z7q a6)
  {a7:Addr} (h7:Dh K "weighed" z6d a7)
  {a8:Addr} (h8:Dh K "head_at" z8m a8)
  {a9:Addr} (h9:Dh K "are_kinds" z5z a9)
  {a10:Addr} (h10:Dh K "is_bill" z6e a10)
  {a11:Addr} (h11:Dh K "need_kinds" z4V a11)
  {a12:Addr} (h12:Dh K "need_bill" z5A a12)
  {a13:Addr} (h13:Dh K "hall_by" z6f a13)
  {a14:Addr} (h14:Dh K "hall_of" z8n a14)
  {a15:Addr} (h15:Dh K "need_basket_of" z2O a15)
  {a16:Addr} (h16:Dh K "need_basket" z40 a16)
  {a17:Addr} (h17:Dh K "nought" zaw a17)
  {a18:Addr} (h18:Dh K "apart" zdb a18)
  {a19:Addr} (h19:Dh K "bridge" z5B a19)
  {a20:Addr} (h20:Dh K "rest" zfI a20)
  {a21:Addr} (h21:Dh K "product" z8o a21)
  {a22:Addr} (h22:Dh K "lowering" z6K a22)
  {a23:Addr} (h23:Dh K "lowered" z8p a23)
  {a24:Addr} (h24:Dh K "crossed" z8q a24)
  {a25:Addr} (h25:Dh K "turned_up" z5C a25)
  {a26:Addr} (h26:Dh K "with_row" z4X a26)
  {a27:Addr} (h27:Dh K "evened" zax a27)
  {a28:Addr} (h28:Dh K "climbed" z8s a28)
  {a29:Addr} (h29:Dh K "tagged_stair" z2v a29)
  {a30:Addr} (h30:Dh K "tags_at_nought" z1W a30)
  {a31:Addr} (h31:Dh K "stair" zdd a31)
  {a32:Addr} (h32:Dh K "stair_with_uses" z1E a32)
  {a33:Addr} (h33:Dh K "turned" z7t a33)
  {a34:Addr} (h34:Dh K "is_slant" z4Z a34)
  {a35:Addr} (h35:Dh K "rests" z9o a35)
  {a36:Addr} (h36:Dh K "slanted" z3l a36)
  {a37:Addr} (h37:Dh K "linked" zay a37)
  {a38:Addr} (h38:Dh K "chained" z6g a38)
  {a39:Addr} (h39:Dh K "measures" z1N a39)
  {a40:Addr} (h40:Dh K "settled" z8t a40)
  {a41:Addr} (h41:Dh K "plan" zfK a41)
  {a42:Addr} (h42:Dh K "scales" z7u a42)
  {a43:Addr} (h43:Dh K "tilt" zfL a43)
  {a44:Addr} (h44:Dh K "measured_scale" z2P a44)
  {a45:Addr} (h45:Dh K "denial" zaz a45)
  {a46:Addr} (h46:Dh K "judged" zaA a46)
  {a47:Addr} (h47:Dh K "_law_cell_at" z5E a47)
  {a48:Addr} (h48:Dh K "_law_whole" z8u a48)
  {a49:Addr} (h49:Dh K "_law_is_row" z6M a49)
  {a50:Addr} (h50:Dh K "_law_number" z6N a50)
  {a51:Addr} (h51:Dh K "_law_row" z9p a51)
  {a52:Addr} (h52:Dh K "_law_bills" z6i a52)
  {a53:Addr} (h53:Dh K "_law_sum" z7w a53)
  {a54:Addr} (h54:Dh K "_law_plus" z7y a54)
  {a55:Addr} (h55:Dh K "_law_heavy" z8v a55)
  {a56:Addr} (h56:Dh K "_law_leads" z8w a56)
  {a57:Addr} (h57:Dh K "_law_denies" z6O a57)
  {a58:Addr} (h58:Dh K "_law_baskets" z5F a58)
  {a59:Addr} (h59:Dh K "law" zk9 a59)
  (z_abs:PySem.W.nsIn K mainGlobals "abs" = some none)
  (z_all:PySem.W.nsIn K mainGlobals "all" = some none)
  (z_any:PySem.W.nsIn K mainGlobals "any" = some none)
  (z_bool:PySem.W.nsIn K mainGlobals "bool" = some none)
  (z_enumerate:PySem.W.nsIn K mainGlobals "enumerate" = some none)
  (z_int:PySem.W.nsIn K mainGlobals "int" = some none)
  (z_isinstance:PySem.W.nsIn K mainGlobals "isinstance" = some none)
  (z_len:PySem.W.nsIn K mainGlobals "len" = some none)
  (z_list:PySem.W.nsIn K mainGlobals "list" = some none)
  (z_range:PySem.W.nsIn K mainGlobals "range" = some none)
  (z_reversed:PySem.W.nsIn K mainGlobals "reversed" = some none)
  (z_sorted:PySem.W.nsIn K mainGlobals "sorted" = some none)
  (z_sum:PySem.W.nsIn K mainGlobals "sum" = some none)
  (z_tuple:PySem.W.nsIn K mainGlobals "tuple" = some none)
  (z_zip:PySem.W.nsIn K mainGlobals "zip" = some none)
  {z3e:Tok} (y_MOST_BILLS:PySem.W.nsIn K mainGlobals "MOST_BILLS" = some (some (.int 8 z3e)))
  {z3f:Tok} (y_MOST_KINDS:PySem.W.nsIn K mainGlobals "MOST_KINDS" = some (some (.int 6 z3f)))
  : ∃ fd:FuncData,(∀(s:Shared) (u:Value),BindsTo s fd ⟨[u],[]⟩ [("_law_script",u)])∧∀ base:Heap,K.In base→base.Ns mainGlobals mg→FnOk l.prog w K mg base CX0 12 fa fd ["_law_script"] (spc K true zk3):=by
 obtain⟨d0,q0,b0⟩:=h0.df (ps:=["value"]) X G (fun _ _ _ _ _ _=>us1 (fun _=>rfl))
 obtain⟨d1,q1,b1⟩:=h1.df (ps:=["value", "length"]) X G (fun _ _ _ _ _ _=>us2 (fun _ _=>rfl))
 obtain⟨d2,q2,b2⟩:=h2.df (ps:=["length"]) X G (fun _ _ _ _ _ _=>us1 (fun _=>rfl))
 obtain⟨d3,q3,b3⟩:=h3.df (ps:=["length", "one_at"]) X G (fun _ _ _ _ _ _=>us2 (fun _ _=>rfl))
 obtain⟨d4,q4,b4⟩:=h4.df (ps:=["one", "other"]) X G (fun _ _ _ _ _ _=>us2 (fun _ _=>rfl))
 obtain⟨d5,q5,b5⟩:=h5.df (ps:=["one", "other"]) X G (fun _ _ _ _ _ _=>us2 (fun _ _=>rfl))
 obtain⟨d6,q6,b6⟩:=h6.df (ps:=["row", "often"]) X G (fun _ _ _ _ _ _=>us2 (fun _ _=>rfl))
 obtain⟨d7,q7,b7⟩:=h7.df (ps:=["row", "weights"]) X G (fun _ _ _ _ _ _=>us2 (fun _ _=>rfl))
 obtain⟨d8,q8,b8⟩:=h8.df (ps:=["row"]) X G (fun _ _ _ _ _ _=>us1 (fun _=>rfl))
 obtain⟨d9,q9,b9⟩:=h9.df (ps:=["value"]) X G (fun _ _ _ _ _ _=>us1 (fun _=>rfl))
 obtain⟨d10,q10,b10⟩:=h10.df (ps:=["value", "kinds"]) X G (fun _ _ _ _ _ _=>us2 (fun _ _=>rfl))
 obtain⟨d11,q11,b11⟩:=h11.df (ps:=["kinds"]) X G (fun _ _ _ _ _ _=>us1 (fun _=>rfl))
 obtain⟨d12,q12,b12⟩:=h12.df (ps:=["bill", "kinds"]) X G (fun _ _ _ _ _ _=>us2 (fun _ _=>rfl))
 obtain⟨d13,q13,b13⟩:=h13.df (ps:=["kinds", "rows"]) X G (fun _ _ _ _ _ _=>us2 (fun _ _=>rfl))
 obtain⟨d14,q14,b14⟩:=h14.df (ps:=["kinds", "bills"]) X G (fun _ _ _ _ _ _=>us2 (fun _ _=>rfl))
 obtain⟨d15,q15,b15⟩:=h15.df (ps:=["kinds", "basket"]) X G (fun _ _ _ _ _ _=>us2 (fun _ _=>rfl))
 obtain⟨d16,q16,b16⟩:=h16.df (ps:=["hall", "basket"]) X G (fun _ _ _ _ _ _=>us2 (fun _ _=>rfl))
 obtain⟨d17,q17,b17⟩:=h17.df (ps:=["hall"]) X G (fun _ _ _ _ _ _=>us1 (fun _=>rfl))
 obtain⟨d18,q18,b18⟩:=h18.df (ps:=["hall", "one", "other"]) X G (fun _ _ _ _ _ _=>us3 (fun _ _ _=>rfl))
 obtain⟨d19,q19,b19⟩:=h19.df (ps:=["a", "b"]) X G (fun _ _ _ _ _ _=>us2 (fun _ _=>rfl))
 obtain⟨d20,q20,b20⟩:=h20.df (ps:=["a", "part"]) X G (fun _ _ _ _ _ _=>us2 (fun _ _=>rfl))
 obtain⟨d21,q21,b21⟩:=h21.df (ps:=["numbers"]) X G (fun _ _ _ _ _ _=>us1 (fun _=>rfl))
 obtain⟨d22,q22,b22⟩:=h22.df (ps:=["row", "rungs"]) X G (fun _ _ _ _ _ _=>us2 (fun _ _=>rfl))
 obtain⟨d23,q23,b23⟩:=h23.df (ps:=["row", "rungs"]) X G (fun _ _ _ _ _ _=>us2 (fun _ _=>rfl))
 obtain⟨d24,q24,b24⟩:=h24.df (ps:=["rung", "row"]) X G (fun _ _ _ _ _ _=>us2 (fun _ _=>rfl))
 obtain⟨d25,q25,b25⟩:=h25.df (ps:=["row"]) X G (fun _ _ _ _ _ _=>us1 (fun _=>rfl))
 obtain⟨d26,q26,b26⟩:=h26.df (ps:=["rungs", "row"]) X G (fun _ _ _ _ _ _=>us2 (fun _ _=>rfl))
 obtain⟨d27,q27,b27⟩:=h27.df (ps:=["rungs"]) X G (fun _ _ _ _ _ _=>us1 (fun _=>rfl))
 obtain⟨d28,q28,b28⟩:=h28.df (ps:=["rows"]) X G (fun _ _ _ _ _ _=>us1 (fun _=>rfl))
 obtain⟨d29,q29,b29⟩:=h29.df (ps:=["rows", "tags"]) X G (fun _ _ _ _ _ _=>us2 (fun _ _=>rfl))
 obtain⟨d30,q30,b30⟩:=h30.df (ps:=["rungs", "width"]) X G (fun _ _ _ _ _ _=>us2 (fun _ _=>rfl))
 obtain⟨d31,q31,b31⟩:=h31.df (ps:=["hall"]) X G (fun _ _ _ _ _ _=>us1 (fun _=>rfl))
 obtain⟨d32,q32,b32⟩:=h32.df (ps:=["hall"]) X G (fun _ _ _ _ _ _=>us1 (fun _=>rfl))
 obtain⟨d33,q33,b33⟩:=h33.df (ps:=["rows", "width"]) X G (fun _ _ _ _ _ _=>us2 (fun _ _=>rfl))
 obtain⟨d34,q34,b34⟩:=h34.df (ps:=["rows"]) X G (fun _ _ _ _ _ _=>us1 (fun _=>rfl))
 obtain⟨d35,q35,b35⟩:=h35.df (ps:=["row", "part"]) X G (fun _ _ _ _ _ _=>us2 (fun _ _=>rfl))
 obtain⟨d36,q36,b36⟩:=h36.df (ps:=["rows", "tags", "whole"]) X G (fun _ _ _ _ _ _=>us3 (fun _ _ _=>rfl))
 obtain⟨d37,q37,b37⟩:=h37.df (ps:=["one", "other"]) X G (fun _ _ _ _ _ _=>us2 (fun _ _=>rfl))
 obtain⟨d38,q38,b38⟩:=h38.df (ps:=["measured"]) X G (fun _ _ _ _ _ _=>us1 (fun _=>rfl))
 obtain⟨d39,q39,b39⟩:=h39.df (ps:=["hall"]) X G (fun _ _ _ _ _ _=>us1 (fun _=>rfl))
 obtain⟨d40,q40,b40⟩:=h40.df (ps:=["hall", "one", "other"]) X G (fun _ _ _ _ _ _=>us3 (fun _ _ _=>rfl))
 obtain⟨d41,q41,b41⟩:=h41.df (ps:=["hall", "one", "other"]) X G (fun _ _ _ _ _ _=>us3 (fun _ _ _=>rfl))
 obtain⟨d42,q42,b42⟩:=h42.df (ps:=["hall"]) X G (fun _ _ _ _ _ _=>us1 (fun _=>rfl))
 obtain⟨d43,q43,b43⟩:=h43.df (ps:=["way", "scale"]) X G (fun _ _ _ _ _ _=>us2 (fun _ _=>rfl))
 obtain⟨d44,q44,b44⟩:=h44.df (ps:=["scale", "found"]) X G (fun _ _ _ _ _ _=>us2 (fun _ _=>rfl))
 obtain⟨d45,q45,b45⟩:=h45.df (ps:=["hall", "one", "other"]) X G (fun _ _ _ _ _ _=>us3 (fun _ _ _=>rfl))
 obtain⟨d46,q46,b46⟩:=h46.df (ps:=["hall", "one", "other"]) X G (fun _ _ _ _ _ _=>us3 (fun _ _ _=>rfl))
 obtain⟨d47,q47,b47⟩:=h47.df (ps:=["_law_script", "_law_k"]) X G (fun _ _ _ _ _ _=>us2 (fun _ _=>rfl))
 obtain⟨d48,q48,b48⟩:=h48.df (ps:=["_law_found"]) X G (fun _ _ _ _ _ _=>us1 (fun _=>rfl))
 obtain⟨d49,q49,b49⟩:=h49.df (ps:=["_law_found", "_law_size"]) X G (fun _ _ _ _ _ _=>us2 (fun _ _=>rfl))
 obtain⟨d50,q50,b50⟩:=h50.df (ps:=["_law_cell", "_law_mode"]) X G (fun _ _ _ _ _ _=>us2 (fun _ _=>rfl))
 obtain⟨d51,q51,b51⟩:=h51.df (ps:=["_law_script", "_law_at", "_law_size", "_law_mode"]) X G (fun _ _ _ _ _ _=>us4 (fun _ _ _ _=>rfl))
 obtain⟨d52,q52,b52⟩:=h52.df (ps:=["_law_script"]) X G (fun _ _ _ _ _ _=>us1 (fun _=>rfl))
 obtain⟨d53,q53,b53⟩:=h53.df (ps:=["_law_size", "_law_rows", "_law_times"]) X G (fun _ _ _ _ _ _=>us3 (fun _ _ _=>rfl))
 obtain⟨d54,q54,b54⟩:=h54.df (ps:=["_law_one", "_law_other", "_law_times"]) X G (fun _ _ _ _ _ _=>us3 (fun _ _ _=>rfl))
 obtain⟨d55,q55,b55⟩:=h55.df (ps:=["_law_weights", "_law_row_here"]) X G (fun _ _ _ _ _ _=>us2 (fun _ _=>rfl))
 obtain⟨d56,q56,b56⟩:=h56.df (ps:=["_law_bills_here", "_law_one", "_law_other", "_law_uses"]) X G (fun _ _ _ _ _ _=>us4 (fun _ _ _ _=>rfl))
 obtain⟨d57,q57,b57⟩:=h57.df (ps:=["_law_bills_here", "_law_one", "_law_other", "_law_scale"]) X G (fun _ _ _ _ _ _=>us4 (fun _ _ _ _=>rfl))
 obtain⟨d58,q58,b58⟩:=h58.df (ps:=["_law_script", "_law_kinds", "_law_bills_here"]) X G (fun _ _ _ _ _ _=>us3 (fun _ _ _=>rfl))
 obtain⟨d59,q59,b59⟩:=h59.df (ps:=["_law_script"]) X G (fun _ _ _ _ _ _=>us1 (fun _=>rfl))
 have key:∃ A:Adr,Facts K mg A∧∀(s:Shared) (u:Value),BindsTo s A.zkp ⟨[u],[]⟩ [("_law_script",u)]:=⟨⟨a0,d0,a1,d1,a2,d2,a3,d3,a4,d4,a5,d5,a6,d6,a7,d7,a8,d8,a9,d9,a10,d10,a11,d11,a12,d12,a13,d13,a14,d14,a15,d15,a16,d16,a17,d17,a18,d18,a19,d19,a20,d20,a21,d21,a22,d22,a23,d23,a24,d24,a25,d25,a26,d26,a27,d27,a28,d28,a29,d29,a30,d30,a31,d31,a32,d32,a33,d33,a34,d34,a35,d35,a36,d36,a37,d37,a38,d38,a39,d39,a40,d40,a41,d41,a42,d42,a43,d43,a44,d44,a45,d45,a46,d46,a47,d47,a48,d48,a49,d49,a50,d50,a51,d51,a52,d52,a53,d53,a54,d54,a55,d55,a56,d56,a57,d57,a58,d58,a59,d59,z3e,z3f⟩,⟨PySem.W.mg_none_of X G z_abs,PySem.W.mg_none_of X G z_all,PySem.W.mg_none_of X G z_any,PySem.W.mg_none_of X G z_bool,PySem.W.mg_none_of X G z_enumerate,PySem.W.mg_none_of X G z_int,PySem.W.mg_none_of X G z_isinstance,PySem.W.mg_none_of X G z_len,PySem.W.mg_none_of X G z_list,PySem.W.mg_none_of X G z_range,PySem.W.mg_none_of X G z_reversed,PySem.W.mg_none_of X G z_sorted,PySem.W.mg_none_of X G z_sum,PySem.W.mg_none_of X G z_tuple,PySem.W.mg_none_of X G z_zip,PySem.W.mg_of X G y_MOST_BILLS,PySem.W.mg_of X G y_MOST_KINDS,q0,q1,q2,q3,q4,q5,q6,q7,q8,q9,q10,q11,q12,q13,q14,q15,q16,q17,q18,q19,q20,q21,q22,q23,q24,q25,q26,q27,q28,q29,q30,q31,q32,q33,q34,q35,q36,q37,q38,q39,q40,q41,q42,q43,q44,q45,q46,q47,q48,q49,q50,q51,q52,q53,q54,q55,q56,q57,q58,q59⟩,fun s u => .of_eq (b59 [u] rfl)⟩
 obtain⟨A,FF,hb⟩:=key
 have e:=hfa.symm.trans FF.f_law.mg
 cases e
 exact⟨A.zkp,hb,fun base _ _=>ok_law FF⟩
namespace H
noncomputable section
open PySem PySem.W PySem.Calls PyProof.Rows
abbrev pw:Program:=PySem.Challenge.pw_changehall_k10_whole_plan_or_denial
abbrev vs(s:String)(t:Nat):Value := .str (Str.ofString s) t
abbrev de(P:Params)(s:String)(t:Nat)(v:Value):DictEntry:=⟨PyData.keyHash P (Str.ofString s),.str (Str.ofString s) t,v⟩
abbrev N:=BT.node
abbrev E:=BT.nil
abbrev ins(t:BT)(l:List (Nat×Obj)):BT:=l.foldl (fun t x=>t.ins x.1 x.2) t
def fdT(s:Stmt)(g:Addr)(md cd:Value):FuncData:=match s with
 | .FunctionDef name args body _ _ _ scope _ _ _=>{ name:=name,qualname:=name,params:=args,body := .stmts body,scope:=scope,globals:=g,closure:=[],defaults := .none,kwdefaults := .none,pyModule:=md,code:=cd }
 | _=>default
abbrev tu(l:List Value):Obj:=⟨.type "tuple",none,.seq l.toArray 0,#[]⟩
abbrev fi(l:List Value):Obj:=⟨.none,none,.fields l.toArray,#[]⟩
abbrev fo(c:Value)(i:Nat)(g:Addr)(md cd:Value):Obj:=⟨c,none,.func (fdT (top i) g md cd),#[]⟩
abbrev co(a f:String)(t0 t1 t2:Nat)(l n z:Int)(r:Addr)(u:Bool)(v:Int)(s:Addr)(p q1 q2 q3:Value)(w:Int)(t3:Nat):Obj:=⟨.type "code",none,.fields #[vs a t0,vs a t1,vs f t2,.int l 0,.int n 0,.int 0 0,.int 0 0,.int z 0,.ref r,.bool u,.int v 0,.ref s,p,q1,q2,q3,.int w 0,.int l 0,vs f t3],#[]⟩
theorem te_go:@topGo=Fast.tw15667345088766844465:=Fast.te15667345088766844465
theorem te_sr:@segRun=Fast.tw14374325043358763698:=Fast.te14374325043358763698
theorem te_sT:@segRunT=Fast.tw10110043849684766642:=Fast.te10110043849684766642
theorem te_tr:@topRun=Fast.tw14082659384304107361:=Fast.te14082659384304107361
theorem te_tb:treeTable=Fast.tw14364793385576792824:=Fast.te14364793385576792824
theorem te_im:@importedModules=Fast.tw5923862056798008813:=Fast.te5923862056798008813
theorem te_seen:@seen=Fast.tw5160383126252970620:=Fast.te5160383126252970620
theorem te_recs:@recsOf=Fast.tw3399658132070893891:=Fast.te3399658132070893891
theorem te_owns:@ownsOf=Fast.tw5991557255702980513:=Fast.te5991557255702980513
theorem te_keys:@Heap.keysOk=Fast.tw10880121769531294198:=Fast.te10880121769531294198
theorem te_loose:@looseW=Fast.tw821141287760084731:=Fast.te821141287760084731
theorem te_lits:@litsOf=Fast.tw7409074990110511671:=Fast.te7409074990110511671
theorem te_clss:@clssOf=Fast.tw13664370479719496447:=Fast.te13664370479719496447
theorem te_acc:@Heap.accountedOkI=Fast.tw14722251495701143533:=Fast.te14722251495701143533
theorem te_tabl:@tablesOk=Fast.tw10994771534591457954:=Fast.te10994771534591457954
theorem te_tabs:@tabsOk=Fast.tw479339242167458305:=Fast.te479339242167458305
theorem te_pin:@pinSeenD=Fast.tw16090120013241838585:=Fast.te16090120013241838585
theorem te_drecs:@drecsOf=Fast.tw3247288618530077131:=Fast.te3247288618530077131
theorem te_pE:@plainSeenE=Fast.tw2386780881361962483:=Fast.te2386780881361962483
theorem te_pD:@plainSeenD=Fast.tw11698064438423848299:=Fast.te11698064438423848299
theorem te_wide:@wideSeen=Fast.tw7317090234206586261:=Fast.te7317090234206586261
theorem te_cls:@clsSeenW=Fast.tw7369524293546568484:=Fast.te7369524293546568484
theorem te_den:@denote=Fast.tw11892475500146522536:=Fast.te11892475500146522536
theorem te_ns:@Heap.nsMap=Fast.tw8920871248978507458:=Fast.te8920871248978507458
abbrev env:Env:={ scope:=pw.main.scope,locals:=mainNs,globals:=mainNs,cells:=[],code := .ref 13,frame:=some 14 }
abbrev cE:Code := .body (behindTheImports pw) env
abbrev fB:List Frame:=[topFrame ⟨0,0,0,0⟩]
abbrev ann:Option Value:=some (.ref 6)
abbrev o11a:=tu []
abbrev o12aL:List Value:=[]
abbrev o12a:=fi o12aL
abbrev o13a:=co "<module>" "/claim/cut.py" 182 183 184 1 0 0 11 false 181 12 .none .none .none .none 185 186
abbrev o14a:Obj:=⟨.type "frame",none,.plain,#[Option.some (PySem.Value.ref 13),Option.some (PySem.Value.ref 3),Option.some (PySem.Value.ref 3),Option.none,Option.some (PySem.Value.str (PySem.Str.ofString "__main__") 164),Option.none,Option.some (PySem.Value.ref 0)]⟩
abbrev ha(P:Params):Heap:=⟨⟨[boot_o_0 P,boot_o_1 P,boot_o_2 P,boot_o_3 P,boot_o_4 P,boot_o_5 P,boot_o_6 P,boot_o_7 P,boot_o_8 P,boot_o_9 P,boot_o_10 P,o11a,o12a,o13a,o14a]⟩,{ }⟩
theorem run_a(w:World)(os:OsState):topGo treeTable pw w 11 ann 12 ⟨boot_heap w.params,#[],boot_drawn,boot_toks,os⟩ (topStub pw)=some (⟨ha w.params,#[],{ },187,os⟩,⟨denote treeTable cE,cE,⟨0,0,0,0⟩,fB⟩):=by
 rewrite[te_go,te_den,te_tb];kernel_rfl
abbrev t0(P:Params):BT:=(N (boot_o_0 P) (N (boot_o_1 P) (N (boot_o_3 P) (N (boot_o_7 P) E E) (N (o11a) E E)) (N (boot_o_5 P) (N (boot_o_9 P) E E) (N (o13a) E E))) (N (boot_o_2 P) (N (boot_o_4 P) (N (boot_o_8 P) E E) (N (o12a) E E)) (N (boot_o_6 P) (N (boot_o_10 P) E E) (N (o14a) E E))))
abbrev s0(w:World)(os:OsState):SharedT:=⟨t0 w.params,15,{ },#[],{ },187,os⟩
theorem run_b(w:World)(os:OsState):segRun treeTable pw w 11 ann 1 1 ⟨ha w.params,#[],{ },187,os⟩ (blockOf (behindTheImports pw) env cE ⟨0,0,0,0⟩ fB)=some (.next,(s0 w os).abs,cE,⟨0,0,0,0⟩):=by
 rewrite[te_sr,te_tb];kernel_rfl
abbrev o3_1L(P:Params):List DictEntry:=[de P "__name__" 165 (vs "changehall.errors" 247),de P "__doc__" 166 .none,de P "__package__" 167 .none,de P "__loader__" 168 (.builtin "__main__.__loader__#opaque"),de P "__spec__" 169 .none,de P "__annotations__" 170 (.ref 6),de P "__builtins__" 171 (.ref 4),de P "__file__" 173 (vs "/claim/cut.py" 172),de P "__cached__" 174 .none,de P "is_whole" 195 (.ref 21),de P "is_row" 201 (.ref 26),de P "noughts" 207 (.ref 31),de P "unit_row" 213 (.ref 36),de P "added" 219 (.ref 41),de P "taken" 225 (.ref 46),de P "scaled" 231 (.ref 51),de P "weighed" 237 (.ref 56),de P "head_at" 246 (.ref 63)]
abbrev o3_1(P:Params):Obj:=⟨.type "dict",none,.dict (o3_1L P).toArray 18,#[]⟩
abbrev zmS:List Value:=o12aL++[.int 2 0,.int 0 0,.ref 20,.int 4 0,.int 0 0,.ref 25,.int 8 0,.int 0 0,.ref 30,.int 10 0,.int 0 0,.ref 35,.int 12 0,.int 0 0,.ref 40,.int 14 0,.int 0 0,.ref 45,.int 16 0,.int 0 0,.ref 50,.int 18 0,.int 0 0,.ref 55,.int 20 0,.int 0 0,.ref 62]
abbrev o12_1:=fi zmS
abbrev zmT:=tu []
abbrev o16_1:=fi []
abbrev zmU:=tu [vs "value" 192]
abbrev zmV:=tu []
abbrev o19_1:=fo .none 1 0 .none .none
abbrev zmW:=co "is_whole" "/claim/cut.py" 189 190 191 2 1 3 15 true 181 16 .none (.ref 17) (.ref 18) (.ref 19) 193 194
abbrev zmX:=fo (.type "function") 1 3 (vs "changehall.rows" 187) (.ref 20)
abbrev zmY:=tu []
abbrev o23_1:=fi []
abbrev o24_1:=fo .none 2 0 .none .none
abbrev zmZ:=co "is_row" "/claim/cut.py" 196 197 198 4 2 3 22 true 181 23 .none .none .none (.ref 24) 199 200
abbrev zn:=fo (.type "function") 2 3 (vs "changehall.rows" 187) (.ref 25)
abbrev zn0:=tu []
abbrev o28_1:=fi []
abbrev o29_1:=fo .none 3 0 .none .none
abbrev zn1:=co "noughts" "/claim/cut.py" 202 203 204 8 1 3 27 true 181 28 .none .none .none (.ref 29) 205 206
abbrev zn2:=fo (.type "function") 3 3 (vs "changehall.rows" 187) (.ref 30)
abbrev zn3:=tu []
abbrev o33_1:=fi []
abbrev o34_1:=fo .none 4 0 .none .none
abbrev zn4:=co "unit_row" "/claim/cut.py" 208 209 210 10 2 3 32 true 181 33 .none .none .none (.ref 34) 211 212
abbrev zn5:=fo (.type "function") 4 3 (vs "changehall.rows" 187) (.ref 35)
abbrev zn6:=tu []
abbrev o38_1:=fi []
abbrev o39_1:=fo .none 5 0 .none .none
abbrev zn7:=co "added" "/claim/cut.py" 214 215 216 12 2 3 37 true 181 38 .none .none .none (.ref 39) 217 218
abbrev zn8:=fo (.type "function") 5 3 (vs "changehall.rows" 187) (.ref 40)
abbrev zn9:=tu []
abbrev o43_1:=fi []
abbrev o44_1:=fo .none 6 0 .none .none
abbrev zna:=co "taken" "/claim/cut.py" 220 221 222 14 2 3 42 true 181 43 .none .none .none (.ref 44) 223 224
abbrev znb:=fo (.type "function") 6 3 (vs "changehall.rows" 187) (.ref 45)
abbrev znc:=tu []
abbrev o48_1:=fi []
abbrev o49_1:=fo .none 7 0 .none .none
abbrev znd:=co "scaled" "/claim/cut.py" 226 227 228 16 2 3 47 true 181 48 .none .none .none (.ref 49) 229 230
abbrev zne:=fo (.type "function") 7 3 (vs "changehall.rows" 187) (.ref 50)
abbrev znf:=tu []
abbrev o53_1:=fi []
abbrev o54_1:=fo .none 8 0 .none .none
abbrev zng:=co "weighed" "/claim/cut.py" 232 233 234 18 2 3 52 true 181 53 .none .none .none (.ref 54) 235 236
abbrev znh:=fo (.type "function") 8 3 (vs "changehall.rows" 187) (.ref 55)
abbrev zni:=tu []
abbrev o58_1:=fi []
abbrev znj:=tu [vs "row" 241,vs "spot" 242,vs "number" 243]
abbrev znk:=tu []
abbrev o61_1:=fo .none 9 0 .none .none
abbrev znl:=co "head_at" "/claim/cut.py" 238 239 240 20 1 3 57 true 181 58 .none (.ref 59) (.ref 60) (.ref 61) 244 245
abbrev znm:=fo (.type "function") 9 3 (vs "changehall.rows" 187) (.ref 62)
abbrev t1(P:Params):BT:=ins (t0 P) [(3,o3_1 P),(12,o12_1),(15,zmT),(16,o16_1),(17,zmU),(18,zmV),(19,o19_1),(20,zmW),(21,zmX),(22,zmY),(23,o23_1),(24,o24_1),(25,zmZ),(26,zn),(27,zn0),(28,o28_1),(29,o29_1),(30,zn1),(31,zn2),(32,zn3),(33,o33_1),(34,o34_1),(35,zn4),(36,zn5),(37,zn6),(38,o38_1),(39,o39_1),(40,zn7),(41,zn8),(42,zn9),(43,o43_1),(44,o44_1),(45,zna),(46,znb),(47,znc),(48,o48_1),(49,o49_1),(50,znd),(51,zne),(52,znf),(53,o53_1),(54,o54_1),(55,zng),(56,znh),(57,zni),(58,o58_1),(59,znj),(60,znk),(61,o61_1),(62,znl),(63,znm)]
abbrev s1(w:World)(os:OsState):SharedT:=⟨t1 w.params,64,{ },#[],{ },249,os⟩
abbrev l0:List Stmt:=[top 0,top 1,top 2,top 3,top 4,top 5,top 6,top 7,top 8,top 9,top 10]
theorem run_0(w:World)(os:OsState):segRunT treeTable pw w 11 ann 1 261 (s0 w os) (piecesOf l0 env cE ⟨0,0,0,0⟩ fB)=some (.next,s1 w os,cE,⟨25,0,25,8⟩):=by
 rewrite[te_sT,te_tb];kernel_rfl
abbrev o3_2L(P:Params):List DictEntry:=de P "__name__" 165 (vs "changehall.errors" 247)::(o3_1L P).tail++[de P "HallError" 266 (.ref 73),de P "NoHall" 282 (.ref 86)]
abbrev o3_2(P:Params):Obj:=⟨.type "dict",none,.dict (o3_2L P).toArray 20,#[]⟩
abbrev znn:List Value:=zmS++[.int 26 0,.int 0 0,.ref 69,.int 28 0,.int 0 0,.ref 82]
abbrev o12_2:=fi znn
abbrev zno:=tu [.type "ValueError"]
abbrev o65_2:Obj:=⟨.type "builtin_function_or_method",none,.fields #[.builtin "type.__prepare__",.type "type"],#[]⟩
abbrev o66_2L(P:Params):List DictEntry:=[de P "__module__" 256 (vs "changehall.errors" 247),de P "__qualname__" 258 (vs "HallError" 257),de P "__firstlineno__" 260 (.int 26 259),de P "__static_attributes__" 261 (.ref 71)]
abbrev o66_2(P:Params):Obj:=⟨.type "dict",none,.dict (o66_2L P).toArray 4,#[]⟩
abbrev o67_2:=tu []
abbrev o68_2:=fi []
abbrev o69_2:=co "HallError" "/claim/cut.py" 251 252 253 26 0 0 67 false 181 68 .none .none .none .none 254 255
abbrev o70_2:Obj:=⟨.type "frame",none,.plain,#[Option.some (PySem.Value.ref 69),Option.some (PySem.Value.ref 3),Option.some (PySem.Value.ref 66),Option.none,Option.some (PySem.Value.str (PySem.Str.ofString "changehall.errors") 247),Option.none,Option.some (PySem.Value.ref 0)]⟩
abbrev znp:=tu []
abbrev o72_2L(P:Params):List DictEntry:=[de P "__module__" 256 (vs "changehall.errors" 247),de P "__firstlineno__" 260 (.int 26 259),de P "__static_attributes__" 261 (.ref 71),de P "__weakref__" 263 (.ref 74),de P "__doc__" 264 .none]
abbrev znq(P:Params):Obj:=⟨.type "dict",none,.dict (o72_2L P).toArray 3,#[]⟩
abbrev o73_2:Obj:=⟨.type "type",none,.cls ({ name:=PySem.Str.ofString "HallError",bases:=[PySem.Value.type "ValueError"],mro:=[PySem.Value.ref 73,PySem.Value.type "ValueError",PySem.Value.type "Exception",PySem.Value.type "BaseException",PySem.Value.type "object"],ns:=72,qualname:=PySem.Str.ofString "HallError",subclasses:=[PySem.Value.ref 86] }),#[Option.some (PySem.Value.ref 64),Option.none,Option.some (PySem.Value.str (PySem.Str.ofString "HallError") 249),Option.some (PySem.Value.str (PySem.Str.ofString "HallError") 257),Option.some (PySem.Value.builtin "ValueError.__new__"),Option.some (PySem.Value.bool Bool.true)]⟩
abbrev znr:Obj:=⟨.type "getset_descriptor",none,.fields #[vs "__weakref__" 262,.ref 73,.builtin "ExceptionGroup.__weakref__",.none],#[]⟩
abbrev o75_2:Obj:=⟨.type "super",none,.fields #[.ref 73,.ref 73,.ref 73],#[]⟩
abbrev o76_2:Obj:=⟨.type "builtin_function_or_method",none,.fields #[.builtin "object.__init_subclass__",.ref 73],#[]⟩
abbrev zns:=tu [.ref 73]
abbrev o78_2:Obj:=⟨.type "builtin_function_or_method",none,.fields #[.builtin "type.__prepare__",.type "type"],#[]⟩
abbrev o79_2L(P:Params):List DictEntry:=[de P "__module__" 274 (vs "changehall.errors" 247),de P "__qualname__" 276 (vs "NoHall" 275),de P "__firstlineno__" 278 (.int 28 277),de P "__static_attributes__" 279 (.ref 84)]
abbrev o79_2(P:Params):Obj:=⟨.type "dict",none,.dict (o79_2L P).toArray 4,#[]⟩
abbrev o80_2:=tu []
abbrev o81_2:=fi []
abbrev o82_2:=co "NoHall" "/claim/cut.py" 269 270 271 28 0 0 80 false 181 81 .none .none .none .none 272 273
abbrev o83_2:Obj:=⟨.type "frame",none,.plain,#[Option.some (PySem.Value.ref 82),Option.some (PySem.Value.ref 3),Option.some (PySem.Value.ref 79),Option.none,Option.some (PySem.Value.str (PySem.Str.ofString "changehall.errors") 247),Option.none,Option.some (PySem.Value.ref 0)]⟩
abbrev znt:=tu []
abbrev o85_2L(P:Params):List DictEntry:=[de P "__module__" 274 (vs "changehall.errors" 247),de P "__firstlineno__" 278 (.int 28 277),de P "__static_attributes__" 279 (.ref 84),de P "__doc__" 280 .none]
abbrev znu(P:Params):Obj:=⟨.type "dict",none,.dict (o85_2L P).toArray 2,#[]⟩
abbrev znv:Obj:=⟨.type "type",none,.cls ({ name:=PySem.Str.ofString "NoHall",bases:=[PySem.Value.ref 73],mro:=[PySem.Value.ref 86,PySem.Value.ref 73,PySem.Value.type "ValueError",PySem.Value.type "Exception",PySem.Value.type "BaseException",PySem.Value.type "object"],ns:=85,qualname:=PySem.Str.ofString "NoHall" }),#[Option.some (PySem.Value.ref 77),Option.none,Option.some (PySem.Value.str (PySem.Str.ofString "NoHall") 267),Option.some (PySem.Value.str (PySem.Str.ofString "NoHall") 275),Option.some (PySem.Value.builtin "ValueError.__new__"),Option.some (PySem.Value.bool Bool.true)]⟩
abbrev o87_2:Obj:=⟨.type "super",none,.fields #[.ref 86,.ref 86,.ref 86],#[]⟩
abbrev o88_2:Obj:=⟨.type "builtin_function_or_method",none,.fields #[.builtin "object.__init_subclass__",.ref 86],#[]⟩
abbrev t2(P:Params):BT:=ins (t1 P) [(3,o3_2 P),(12,o12_2),(64,zno),(65,o65_2),(66,o66_2 P),(67,o67_2),(68,o68_2),(69,o69_2),(70,o70_2),(71,znp),(72,znq P),(73,o73_2),(74,znr),(75,o75_2),(76,o76_2),(77,zns),(78,o78_2),(79,o79_2 P),(80,o80_2),(81,o81_2),(82,o82_2),(83,o83_2),(84,znt),(85,znu P),(86,znv),(87,o87_2),(88,o88_2)]
abbrev s2(w:World)(os:OsState):SharedT:=⟨t2 w.params,89,{ },#[],{ },283,os⟩
abbrev l1:List Stmt:=[top 11,top 12]
theorem run_1(w:World)(os:OsState):segRunT treeTable pw w 11 ann 1 400 (s1 w os) (piecesOf l1 env cE ⟨25,0,25,8⟩ fB)=some (.next,s2 w os,cE,⟨28,0,29,8⟩):=by
 rewrite[te_sT,te_tb];kernel_rfl
abbrev o3_3L(P:Params):List DictEntry:=de P "__name__" 165 (vs "changehall.halls" 299)::(o3_2L P).tail++[de P "NoBasket" 298 (.ref 98),de P "MOST_KINDS" 302 (.int 6 301),de P "MOST_BILLS" 304 (.int 8 303),de P "are_kinds" 311 (.ref 107),de P "is_bill" 317 (.ref 112),de P "need_kinds" 324 (.ref 119),de P "need_bill" 332 (.ref 126),de P "hall_of" 341 (.ref 133)]
abbrev o3_3(P:Params):Obj:=⟨.type "dict",none,.dict (o3_3L P).toArray 28,#[]⟩
abbrev znw:List Value:=znn++[.int 30 0,.int 0 0,.ref 94,.int 35 0,.int 0 0,.ref 106,.int 37 0,.int 0 0,.ref 111,.int 39 0,.int 0 0,.ref 118,.int 42 0,.int 0 0,.ref 125,.int 45 0,.int 0 0,.ref 132]
abbrev o12_3:=fi znw
abbrev znx:Obj:=⟨.type "type",none,.cls ({ name:=PySem.Str.ofString "HallError",bases:=[PySem.Value.type "ValueError"],mro:=[PySem.Value.ref 73,PySem.Value.type "ValueError",PySem.Value.type "Exception",PySem.Value.type "BaseException",PySem.Value.type "object"],ns:=72,qualname:=PySem.Str.ofString "HallError",subclasses:=[PySem.Value.ref 86,PySem.Value.ref 98] }),#[Option.some (PySem.Value.ref 64),Option.none,Option.some (PySem.Value.str (PySem.Str.ofString "HallError") 249),Option.some (PySem.Value.str (PySem.Str.ofString "HallError") 257),Option.some (PySem.Value.builtin "ValueError.__new__"),Option.some (PySem.Value.bool Bool.true)]⟩
abbrev zny:=tu [.ref 73]
abbrev o90_3:Obj:=⟨.type "builtin_function_or_method",none,.fields #[.builtin "type.__prepare__",.type "type"],#[]⟩
abbrev o91_3L(P:Params):List DictEntry:=[de P "__module__" 290 (vs "changehall.errors" 247),de P "__qualname__" 292 (vs "NoBasket" 291),de P "__firstlineno__" 294 (.int 30 293),de P "__static_attributes__" 295 (.ref 96)]
abbrev o91_3(P:Params):Obj:=⟨.type "dict",none,.dict (o91_3L P).toArray 4,#[]⟩
abbrev o92_3:=tu []
abbrev o93_3:=fi []
abbrev o94_3:=co "NoBasket" "/claim/cut.py" 285 286 287 30 0 0 92 false 181 93 .none .none .none .none 288 289
abbrev o95_3:Obj:=⟨.type "frame",none,.plain,#[Option.some (PySem.Value.ref 94),Option.some (PySem.Value.ref 3),Option.some (PySem.Value.ref 91),Option.none,Option.some (PySem.Value.str (PySem.Str.ofString "changehall.errors") 247),Option.none,Option.some (PySem.Value.ref 0)]⟩
abbrev znz:=tu []
abbrev o97_3L(P:Params):List DictEntry:=[de P "__module__" 290 (vs "changehall.errors" 247),de P "__firstlineno__" 294 (.int 30 293),de P "__static_attributes__" 295 (.ref 96),de P "__doc__" 296 .none]
abbrev znA(P:Params):Obj:=⟨.type "dict",none,.dict (o97_3L P).toArray 2,#[]⟩
abbrev znB:Obj:=⟨.type "type",none,.cls ({ name:=PySem.Str.ofString "NoBasket",bases:=[PySem.Value.ref 73],mro:=[PySem.Value.ref 98,PySem.Value.ref 73,PySem.Value.type "ValueError",PySem.Value.type "Exception",PySem.Value.type "BaseException",PySem.Value.type "object"],ns:=97,qualname:=PySem.Str.ofString "NoBasket" }),#[Option.some (PySem.Value.ref 89),Option.none,Option.some (PySem.Value.str (PySem.Str.ofString "NoBasket") 283),Option.some (PySem.Value.str (PySem.Str.ofString "NoBasket") 291),Option.some (PySem.Value.builtin "ValueError.__new__"),Option.some (PySem.Value.bool Bool.true)]⟩
abbrev o99_3:Obj:=⟨.type "super",none,.fields #[.ref 98,.ref 98,.ref 98],#[]⟩
abbrev znC:Obj:=⟨.type "builtin_function_or_method",none,.fields #[.builtin "object.__init_subclass__",.ref 98],#[]⟩
abbrev zfZ:=tu []
abbrev znD:=fi []
abbrev zg0:=tu [vs "value" 308]
abbrev zg1:=tu []
abbrev znE:=fo .none 17 0 .none .none
abbrev zg2:=co "are_kinds" "/claim/cut.py" 305 306 307 35 1 3 101 true 181 102 .none (.ref 103) (.ref 104) (.ref 105) 309 310
abbrev zg3:=fo (.type "function") 17 3 (vs "changehall.halls" 299) (.ref 106)
abbrev zg4:=tu []
abbrev znF:=fi []
abbrev znG:=fo .none 18 0 .none .none
abbrev zg5:=co "is_bill" "/claim/cut.py" 312 313 314 37 2 3 108 true 181 109 .none .none .none (.ref 110) 315 316
abbrev zg6:=fo (.type "function") 18 3 (vs "changehall.halls" 299) (.ref 111)
abbrev zg7:=tu []
abbrev znH:=fi []
abbrev zg8:=tu [vs "kinds" 321]
abbrev zg9:=tu []
abbrev znI:=fo .none 19 0 .none .none
abbrev zga:=co "need_kinds" "/claim/cut.py" 318 319 320 39 1 3 113 true 181 114 .none (.ref 115) (.ref 116) (.ref 117) 322 323
abbrev zgb:=fo (.type "function") 19 3 (vs "changehall.halls" 299) (.ref 118)
abbrev zgc:=tu []
abbrev znJ:=fi []
abbrev zgd:=tu [vs "bill" 328,vs "kinds" 329]
abbrev zge:=tu []
abbrev znK:=fo .none 20 0 .none .none
abbrev zgf:=co "need_bill" "/claim/cut.py" 325 326 327 42 2 3 120 true 181 121 .none (.ref 122) (.ref 123) (.ref 124) 330 331
abbrev zgg:=fo (.type "function") 20 3 (vs "changehall.halls" 299) (.ref 125)
abbrev zgh:=tu []
abbrev znL:=fi []
abbrev zgi:=tu [vs "kinds" 336,vs "bills" 337,vs "bill" 338]
abbrev zgj:=tu []
abbrev znM:=fo .none 21 0 .none .none
abbrev zgk:=co "hall_of" "/claim/cut.py" 333 334 335 45 2 3 127 true 181 128 .none (.ref 129) (.ref 130) (.ref 131) 339 340
abbrev zgl:=fo (.type "function") 21 3 (vs "changehall.halls" 299) (.ref 132)
abbrev t3(P:Params):BT:=ins (t2 P) [(3,o3_3 P),(12,o12_3),(73,znx),(89,zny),(90,o90_3),(91,o91_3 P),(92,o92_3),(93,o93_3),(94,o94_3),(95,o95_3),(96,znz),(97,znA P),(98,znB),(99,o99_3),(100,znC),(101,zfZ),(102,znD),(103,zg0),(104,zg1),(105,znE),(106,zg2),(107,zg3),(108,zg4),(109,znF),(110,znG),(111,zg5),(112,zg6),(113,zg7),(114,znH),(115,zg8),(116,zg9),(117,znI),(118,zga),(119,zgb),(120,zgc),(121,znJ),(122,zgd),(123,zge),(124,znK),(125,zgf),(126,zgg),(127,zgh),(128,znL),(129,zgi),(130,zgj),(131,znM),(132,zgk),(133,zgl)]
abbrev s3(w:World)(os:OsState):SharedT:=⟨t3 w.params,134,{ },#[],{ },342,os⟩
abbrev l2:List Stmt:=[top 13,top 14,top 15,top 16,top 17,top 18,top 19,top 20,top 21]
theorem run_2(w:World)(os:OsState):segRunT treeTable pw w 11 ann 1 386 (s2 w os) (piecesOf l2 env cE ⟨28,0,29,8⟩ fB)=some (.next,s3 w os,cE,⟨45,0,51,32⟩):=by
 rewrite[te_sT,te_tb];kernel_rfl
abbrev o3_4L(P:Params):List DictEntry:=de P "__name__" 165 (vs "changehall.stairs" 405)::(o3_3L P).tail++[de P "hall_by" 347 (.ref 138),de P "need_basket_of" 355 (.ref 145),de P "need_basket" 363 (.ref 152),de P "nought" 370 (.ref 159),de P "apart" 379 (.ref 166),de P "bridge" 387 (.ref 171),de P "rest" 395 (.ref 178),de P "product" 404 (.ref 185),de P "lowering" 419 (.ref 192),de P "lowered" 427 (.ref 199),de P "crossed" 439 (.ref 206),de P "turned_up" 446 (.ref 213)]
abbrev o3_4(P:Params):Obj:=⟨.type "dict",none,.dict (o3_4L P).toArray 40,#[]⟩
abbrev znN:List Value:=znw++[.int 52 0,.int 0 0,.ref 137,.int 54 0,.int 0 0,.ref 144,.int 57 0,.int 0 0,.ref 151,.int 59 0,.int 0 0,.ref 158,.int 61 0,.int 0 0,.ref 165,.int 66 0,.int 0 0,.ref 170,.int 77 0,.int 0 0,.ref 177,.int 81 0,.int 0 0,.ref 184,.int 87 0,.int 0 0,.ref 191,.int 97 0,.int 0 0,.ref 198,.int 99 0,.int 0 0,.ref 205,.int 105 0,.int 0 0,.ref 212]
abbrev o12_4:=fi znN
abbrev zgm:=tu []
abbrev znO:=fi []
abbrev znP:=fo .none 22 0 .none .none
abbrev zgn:=co "hall_by" "/claim/cut.py" 342 343 344 52 2 3 134 true 181 135 .none .none .none (.ref 136) 345 346
abbrev zgo:=fo (.type "function") 22 3 (vs "changehall.halls" 299) (.ref 137)
abbrev zgp:=tu []
abbrev znQ:=fi []
abbrev zgq:=tu [vs "kinds" 351,vs "basket" 352]
abbrev zgr:=tu []
abbrev znR:=fo .none 23 0 .none .none
abbrev zgs:=co "need_basket_of" "/claim/cut.py" 348 349 350 54 2 3 139 true 181 140 .none (.ref 141) (.ref 142) (.ref 143) 353 354
abbrev zgt:=fo (.type "function") 23 3 (vs "changehall.halls" 299) (.ref 144)
abbrev zgu:=tu []
abbrev znS:=fi []
abbrev zgv:=tu [vs "hall" 359,vs "basket" 360]
abbrev zgw:=tu []
abbrev znT:=fo .none 24 0 .none .none
abbrev zgx:=co "need_basket" "/claim/cut.py" 356 357 358 57 2 3 146 true 181 147 .none (.ref 148) (.ref 149) (.ref 150) 361 362
abbrev zgy:=fo (.type "function") 24 3 (vs "changehall.halls" 299) (.ref 151)
abbrev zgz:=tu []
abbrev znU:=fi []
abbrev zgA:=tu [vs "hall" 367]
abbrev zgB:=tu []
abbrev znV:=fo .none 25 0 .none .none
abbrev zgC:=co "nought" "/claim/cut.py" 364 365 366 59 1 3 153 true 181 154 .none (.ref 155) (.ref 156) (.ref 157) 368 369
abbrev zgD:=fo (.type "function") 25 3 (vs "changehall.halls" 299) (.ref 158)
abbrev zgE:=tu []
abbrev znW:=fi []
abbrev zgF:=tu [vs "hall" 374,vs "one" 375,vs "other" 376]
abbrev zgG:=tu []
abbrev znX:=fo .none 26 0 .none .none
abbrev zgH:=co "apart" "/claim/cut.py" 371 372 373 61 3 3 160 true 181 161 .none (.ref 162) (.ref 163) (.ref 164) 377 378
abbrev zgI:=fo (.type "function") 26 3 (vs "changehall.halls" 299) (.ref 165)
abbrev zgJ:=tu []
abbrev znY:=fi []
abbrev znZ:=fo .none 28 0 .none .none
abbrev zgK:=co "bridge" "/claim/cut.py" 382 383 384 66 2 3 167 true 181 168 .none .none .none (.ref 169) 385 386
abbrev zgL:=fo (.type "function") 28 3 (vs "changehall.whole" 380) (.ref 170)
abbrev zgM:=tu []
abbrev zo0:=fi []
abbrev zgN:=tu [vs "a" 391,vs "part" 392]
abbrev zgO:=tu []
abbrev zo1:=fo .none 29 0 .none .none
abbrev zgP:=co "rest" "/claim/cut.py" 388 389 390 77 2 3 172 true 181 173 .none (.ref 174) (.ref 175) (.ref 176) 393 394
abbrev zgQ:=fo (.type "function") 29 3 (vs "changehall.whole" 380) (.ref 177)
abbrev zgR:=tu []
abbrev zo2:=fi []
abbrev zgS:=tu [vs "numbers" 399,vs "found" 400,vs "number" 401]
abbrev zgT:=tu []
abbrev zo3:=fo .none 30 0 .none .none
abbrev zgU:=co "product" "/claim/cut.py" 396 397 398 81 1 3 179 true 181 180 .none (.ref 181) (.ref 182) (.ref 183) 402 403
abbrev zgV:=fo (.type "function") 30 3 (vs "changehall.whole" 380) (.ref 184)
abbrev zgW:=tu []
abbrev zo4:=fi []
abbrev zgX:=tu [vs "row" 410,vs "rungs" 411,vs "left" 412,vs "counts" 413,vs "rung" 414,vs "spot" 415,vs "often" 416]
abbrev zgY:=tu []
abbrev zo5:=fo .none 32 0 .none .none
abbrev zgZ:=co "lowering" "/claim/cut.py" 407 408 409 87 2 3 186 true 181 187 .none (.ref 188) (.ref 189) (.ref 190) 417 418
abbrev zh:=fo (.type "function") 32 3 (vs "changehall.stairs" 405) (.ref 191)
abbrev zh0:=tu []
abbrev zo6:=fi []
abbrev zh1:=tu [vs "row" 423,vs "rungs" 424]
abbrev zh2:=tu []
abbrev zo7:=fo .none 33 0 .none .none
abbrev zh3:=co "lowered" "/claim/cut.py" 420 421 422 97 2 3 193 true 181 194 .none (.ref 195) (.ref 196) (.ref 197) 425 426
abbrev zh4:=fo (.type "function") 33 3 (vs "changehall.stairs" 405) (.ref 198)
abbrev zh5:=tu []
abbrev zo8:=fi []
abbrev zh6:=tu [vs "rung" 431,vs "row" 432,vs "spot" 433,vs "found" 434,vs "upper" 435,vs "lower" 436]
abbrev zh7:=tu []
abbrev zo9:=fo .none 34 0 .none .none
abbrev zh8:=co "crossed" "/claim/cut.py" 428 429 430 99 2 3 200 true 181 201 .none (.ref 202) (.ref 203) (.ref 204) 437 438
abbrev zh9:=fo (.type "function") 34 3 (vs "changehall.stairs" 405) (.ref 205)
abbrev zha:=tu []
abbrev zoa:=fi []
abbrev zhb:=tu [vs "row" 443]
abbrev zhc:=tu []
abbrev zob:=fo .none 35 0 .none .none
abbrev zhd:=co "turned_up" "/claim/cut.py" 440 441 442 105 1 3 207 true 181 208 .none (.ref 209) (.ref 210) (.ref 211) 444 445
abbrev zhe:=fo (.type "function") 35 3 (vs "changehall.stairs" 405) (.ref 212)
abbrev t4(P:Params):BT:=ins (t3 P) [(3,o3_4 P),(12,o12_4),(134,zgm),(135,znO),(136,znP),(137,zgn),(138,zgo),(139,zgp),(140,znQ),(141,zgq),(142,zgr),(143,znR),(144,zgs),(145,zgt),(146,zgu),(147,znS),(148,zgv),(149,zgw),(150,znT),(151,zgx),(152,zgy),(153,zgz),(154,znU),(155,zgA),(156,zgB),(157,znV),(158,zgC),(159,zgD),(160,zgE),(161,znW),(162,zgF),(163,zgG),(164,znX),(165,zgH),(166,zgI),(167,zgJ),(168,znY),(169,znZ),(170,zgK),(171,zgL),(172,zgM),(173,zo0),(174,zgN),(175,zgO),(176,zo1),(177,zgP),(178,zgQ),(179,zgR),(180,zo2),(181,zgS),(182,zgT),(183,zo3),(184,zgU),(185,zgV),(186,zgW),(187,zo4),(188,zgX),(189,zgY),(190,zo5),(191,zgZ),(192,zh),(193,zh0),(194,zo6),(195,zh1),(196,zh2),(197,zo7),(198,zh3),(199,zh4),(200,zh5),(201,zo8),(202,zh6),(203,zh7),(204,zo9),(205,zh8),(206,zh9),(207,zha),(208,zoa),(209,zhb),(210,zhc),(211,zob),(212,zhd),(213,zhe)]
abbrev s4(w:World)(os:OsState):SharedT:=⟨t4 w.params,214,{ },#[],{ },447,os⟩
abbrev l3:List Stmt:=[top 22,top 23,top 24,top 25,top 26,top 27,top 28,top 29,top 30,top 31,top 32,top 33,top 34,top 35]
theorem run_3(w:World)(os:OsState):segRunT treeTable pw w 11 ann 1 380 (s3 w os) (piecesOf l3 env cE ⟨45,0,51,32⟩ fB)=some (.next,s4 w os,cE,⟨105,0,106,66⟩):=by
 rewrite[te_sT,te_tb];kernel_rfl
abbrev o3_5L(P:Params):List DictEntry:=de P "__name__" 165 (vs "changehall.grids" 496)::(o3_4L P).tail++[de P "with_row" 452 (.ref 218),de P "evened" 461 (.ref 225),de P "climbed" 470 (.ref 232),de P "tagged_stair" 476 (.ref 237),de P "tags_at_nought" 482 (.ref 242),de P "stair" 489 (.ref 249),de P "stair_with_uses" 495 (.ref 254),de P "turned" 503 (.ref 259),de P "is_slant" 509 (.ref 264),de P "rests" 515 (.ref 269),de P "slanted" 521 (.ref 274),de P "linked" 534 (.ref 281),de P "chained" 540 (.ref 286),de P "measures" 546 (.ref 291)]
abbrev o3_5(P:Params):Obj:=⟨.type "dict",none,.dict (o3_5L P).toArray 54,#[]⟩
abbrev zoc:List Value:=znN++[.int 107 0,.int 0 0,.ref 217,.int 118 0,.int 0 0,.ref 224,.int 123 0,.int 0 0,.ref 231,.int 128 0,.int 0 0,.ref 236,.int 130 0,.int 0 0,.ref 241,.int 132 0,.int 0 0,.ref 248,.int 134 0,.int 0 0,.ref 253,.int 138 0,.int 0 0,.ref 258,.int 140 0,.int 0 0,.ref 263,.int 145 0,.int 0 0,.ref 268,.int 147 0,.int 0 0,.ref 273,.int 157 0,.int 0 0,.ref 280,.int 164 0,.int 0 0,.ref 285,.int 172 0,.int 0 0,.ref 290]
abbrev o12_5:=fi zoc
abbrev zhf:=tu []
abbrev zod:=fi []
abbrev zoe:=fo .none 36 0 .none .none
abbrev zhg:=co "with_row" "/claim/cut.py" 447 448 449 107 2 3 214 true 181 215 .none .none .none (.ref 216) 450 451
abbrev zhh:=fo (.type "function") 36 3 (vs "changehall.stairs" 405) (.ref 217)
abbrev zhi:=tu []
abbrev zof:=fi []
abbrev zhj:=tu [vs "rungs" 456,vs "found" 457,vs "rung" 458]
abbrev zhk:=tu []
abbrev zog:=fo .none 37 0 .none .none
abbrev zhl:=co "evened" "/claim/cut.py" 453 454 455 118 1 3 219 true 181 220 .none (.ref 221) (.ref 222) (.ref 223) 459 460
abbrev zhm:=fo (.type "function") 37 3 (vs "changehall.stairs" 405) (.ref 224)
abbrev zhn:=tu []
abbrev zoh:=fi []
abbrev zho:=tu [vs "rows" 465,vs "rungs" 466,vs "row" 467]
abbrev zhp:=tu []
abbrev zoi:=fo .none 38 0 .none .none
abbrev zhq:=co "climbed" "/claim/cut.py" 462 463 464 123 1 3 226 true 181 227 .none (.ref 228) (.ref 229) (.ref 230) 468 469
abbrev zhr:=fo (.type "function") 38 3 (vs "changehall.stairs" 405) (.ref 231)
abbrev zhs:=tu []
abbrev zoj:=fi []
abbrev zok:=fo .none 39 0 .none .none
abbrev zht:=co "tagged_stair" "/claim/cut.py" 471 472 473 128 2 3 233 true 181 234 .none .none .none (.ref 235) 474 475
abbrev zhu:=fo (.type "function") 39 3 (vs "changehall.stairs" 405) (.ref 236)
abbrev zhv:=tu []
abbrev zol:=fi []
abbrev zom:=fo .none 40 0 .none .none
abbrev zhw:=co "tags_at_nought" "/claim/cut.py" 477 478 479 130 2 3 238 true 181 239 .none .none .none (.ref 240) 480 481
abbrev zhx:=fo (.type "function") 40 3 (vs "changehall.stairs" 405) (.ref 241)
abbrev zhy:=tu []
abbrev zon:=fi []
abbrev zhz:=tu [vs "hall" 486]
abbrev zhA:=tu []
abbrev zoo:=fo .none 41 0 .none .none
abbrev zhB:=co "stair" "/claim/cut.py" 483 484 485 132 1 3 243 true 181 244 .none (.ref 245) (.ref 246) (.ref 247) 487 488
abbrev zhC:=fo (.type "function") 41 3 (vs "changehall.stairs" 405) (.ref 248)
abbrev zhD:=tu []
abbrev zop:=fi []
abbrev zoq:=fo .none 42 0 .none .none
abbrev zhE:=co "stair_with_uses" "/claim/cut.py" 490 491 492 134 1 3 250 true 181 251 .none .none .none (.ref 252) 493 494
abbrev zhF:=fo (.type "function") 42 3 (vs "changehall.stairs" 405) (.ref 253)
abbrev zhG:=tu []
abbrev zor:=fi []
abbrev zos:=fo .none 44 0 .none .none
abbrev zhH:=co "turned" "/claim/cut.py" 498 499 500 138 2 3 255 true 181 256 .none .none .none (.ref 257) 501 502
abbrev zhI:=fo (.type "function") 44 3 (vs "changehall.grids" 496) (.ref 258)
abbrev zhJ:=tu []
abbrev zot:=fi []
abbrev zou:=fo .none 45 0 .none .none
abbrev zhK:=co "is_slant" "/claim/cut.py" 504 505 506 140 1 3 260 true 181 261 .none .none .none (.ref 262) 507 508
abbrev zhL:=fo (.type "function") 45 3 (vs "changehall.grids" 496) (.ref 263)
abbrev zhM:=tu []
abbrev zov:=fi []
abbrev zow:=fo .none 46 0 .none .none
abbrev zhN:=co "rests" "/claim/cut.py" 510 511 512 145 2 3 265 true 181 266 .none .none .none (.ref 267) 513 514
abbrev zhO:=fo (.type "function") 46 3 (vs "changehall.grids" 496) (.ref 268)
abbrev zhP:=tu []
abbrev zox:=fi []
abbrev zoy:=fo .none 47 0 .none .none
abbrev zhQ:=co "slanted" "/claim/cut.py" 516 517 518 147 3 3 270 true 181 271 .none .none .none (.ref 272) 519 520
abbrev zhR:=fo (.type "function") 47 3 (vs "changehall.grids" 496) (.ref 273)
abbrev zhS:=tu []
abbrev zoz:=fi []
abbrev zhT:=tu [vs "one" 525,vs "other" 526,vs "found" 527,vs "common" 528,vs "least" 529,vs "upper" 530,vs "lower" 531]
abbrev zhU:=tu []
abbrev zoA:=fo .none 48 0 .none .none
abbrev zhV:=co "linked" "/claim/cut.py" 522 523 524 157 2 3 275 true 181 276 .none (.ref 277) (.ref 278) (.ref 279) 532 533
abbrev zhW:=fo (.type "function") 48 3 (vs "changehall.grids" 496) (.ref 280)
abbrev zhX:=tu []
abbrev zoB:=fi []
abbrev zoC:=fo .none 49 0 .none .none
abbrev zhY:=co "chained" "/claim/cut.py" 535 536 537 164 1 3 282 true 181 283 .none .none .none (.ref 284) 538 539
abbrev zhZ:=fo (.type "function") 49 3 (vs "changehall.grids" 496) (.ref 285)
abbrev zi:=tu []
abbrev zoD:=fi []
abbrev zoE:=fo .none 50 0 .none .none
abbrev zi0:=co "measures" "/claim/cut.py" 541 542 543 172 1 3 287 true 181 288 .none .none .none (.ref 289) 544 545
abbrev zi1:=fo (.type "function") 50 3 (vs "changehall.grids" 496) (.ref 290)
abbrev t5(P:Params):BT:=ins (t4 P) [(3,o3_5 P),(12,o12_5),(214,zhf),(215,zod),(216,zoe),(217,zhg),(218,zhh),(219,zhi),(220,zof),(221,zhj),(222,zhk),(223,zog),(224,zhl),(225,zhm),(226,zhn),(227,zoh),(228,zho),(229,zhp),(230,zoi),(231,zhq),(232,zhr),(233,zhs),(234,zoj),(235,zok),(236,zht),(237,zhu),(238,zhv),(239,zol),(240,zom),(241,zhw),(242,zhx),(243,zhy),(244,zon),(245,zhz),(246,zhA),(247,zoo),(248,zhB),(249,zhC),(250,zhD),(251,zop),(252,zoq),(253,zhE),(254,zhF),(255,zhG),(256,zor),(257,zos),(258,zhH),(259,zhI),(260,zhJ),(261,zot),(262,zou),(263,zhK),(264,zhL),(265,zhM),(266,zov),(267,zow),(268,zhN),(269,zhO),(270,zhP),(271,zox),(272,zoy),(273,zhQ),(274,zhR),(275,zhS),(276,zoz),(277,zhT),(278,zhU),(279,zoA),(280,zhV),(281,zhW),(282,zhX),(283,zoB),(284,zoC),(285,zhY),(286,zhZ),(287,zi),(288,zoD),(289,zoE),(290,zi0),(291,zi1)]
abbrev s5(w:World)(os:OsState):SharedT:=⟨t5 w.params,292,{ },#[],{ },547,os⟩
abbrev l4:List Stmt:=[top 36,top 37,top 38,top 39,top 40,top 41,top 42,top 43,top 44,top 45,top 46,top 47,top 48,top 49,top 50]
theorem run_4(w:World)(os:OsState):segRunT treeTable pw w 11 ann 1 396 (s4 w os) (piecesOf l4 env cE ⟨105,0,106,66⟩ fB)=some (.next,s5 w os,cE,⟨172,0,180,84⟩):=by
 rewrite[te_sT,te_tb];kernel_rfl
abbrev o3_6L(P:Params):List DictEntry:=de P "__name__" 165 (vs "law_changehall_k10_whole_plan_or_denial" 615)::(o3_5L P).tail++[de P "plan" 557 (.ref 298),de P "settled" 568 (.ref 305),de P "scales" 576 (.ref 310),de P "tilt" 584 (.ref 317),de P "measured_scale" 592 (.ref 324),de P "denial" 604 (.ref 331),de P "judged" 614 (.ref 338),de P "_law_cell_at" 624 (.ref 345),de P "_law_whole" 631 (.ref 352),de P "_law_is_row" 640 (.ref 359),de P "_law_number" 650 (.ref 366),de P "_law_row" 656 (.ref 371)]
abbrev o3_6(P:Params):Obj:=⟨.type "dict",none,.dict (o3_6L P).toArray 66,#[]⟩
abbrev zoF:List Value:=zoc++[.int 182 0,.int 0 0,.ref 297,.int 184 0,.int 0 0,.ref 304,.int 191 0,.int 0 0,.ref 309,.int 193 0,.int 0 0,.ref 316,.int 195 0,.int 0 0,.ref 323,.int 197 0,.int 0 0,.ref 330,.int 204 0,.int 0 0,.ref 337,.int 210 0,.int 0 0,.ref 344,.int 216 0,.int 0 0,.ref 351,.int 218 0,.int 0 0,.ref 358,.int 225 0,.int 0 0,.ref 365,.int 236 0,.int 0 0,.ref 370]
abbrev o12_6:=fi zoF
abbrev zi2:=tu []
abbrev zoG:=fi []
abbrev zi3:=tu [vs "hall" 552,vs "one" 553,vs "other" 554]
abbrev zi4:=tu []
abbrev zoH:=fo .none 52 0 .none .none
abbrev zi5:=co "plan" "/claim/cut.py" 549 550 551 182 3 3 292 true 181 293 .none (.ref 294) (.ref 295) (.ref 296) 555 556
abbrev zi6:=fo (.type "function") 52 3 (vs "changehall.plans" 547) (.ref 297)
abbrev zi7:=tu []
abbrev zoI:=fi []
abbrev zi8:=tu [vs "hall" 561,vs "one" 562,vs "other" 563,vs "back" 564,vs "left" 565]
abbrev zi9:=tu []
abbrev zoJ:=fo .none 53 0 .none .none
abbrev zia:=co "settled" "/claim/cut.py" 558 559 560 184 3 3 299 true 181 300 .none (.ref 301) (.ref 302) (.ref 303) 566 567
abbrev zib:=fo (.type "function") 53 3 (vs "changehall.plans" 547) (.ref 304)
abbrev zic:=tu []
abbrev zoK:=fi []
abbrev zoL:=fo .none 55 0 .none .none
abbrev zid:=co "scales" "/claim/cut.py" 571 572 573 191 1 3 306 true 181 307 .none .none .none (.ref 308) 574 575
abbrev zie:=fo (.type "function") 55 3 (vs "changehall.scales" 569) (.ref 309)
abbrev zif:=tu []
abbrev zoM:=fi []
abbrev zig:=tu [vs "way" 580,vs "scale" 581]
abbrev zih:=tu []
abbrev zoN:=fo .none 56 0 .none .none
abbrev zii:=co "tilt" "/claim/cut.py" 577 578 579 193 2 3 311 true 181 312 .none (.ref 313) (.ref 314) (.ref 315) 582 583
abbrev zij:=fo (.type "function") 56 3 (vs "changehall.scales" 569) (.ref 316)
abbrev zik:=tu []
abbrev zoO:=fi []
abbrev zil:=tu [vs "scale" 588,vs "found" 589]
abbrev zim:=tu []
abbrev zoP:=fo .none 57 0 .none .none
abbrev zin:=co "measured_scale" "/claim/cut.py" 585 586 587 195 2 3 318 true 181 319 .none (.ref 320) (.ref 321) (.ref 322) 590 591
abbrev zio:=fo (.type "function") 57 3 (vs "changehall.scales" 569) (.ref 323)
abbrev ziq:=tu []
abbrev zoQ:=fi []
abbrev zir:=tu [vs "hall" 596,vs "one" 597,vs "other" 598,vs "way" 599,vs "scale" 600,vs "found" 601]
abbrev zis:=tu []
abbrev zoR:=fo .none 58 0 .none .none
abbrev zit:=co "denial" "/claim/cut.py" 593 594 595 197 3 3 325 true 181 326 .none (.ref 327) (.ref 328) (.ref 329) 602 603
abbrev ziu:=fo (.type "function") 58 3 (vs "changehall.scales" 569) (.ref 330)
abbrev ziv:=tu []
abbrev zoS:=fi []
abbrev ziw:=tu [vs "hall" 608,vs "one" 609,vs "other" 610,vs "uses" 611]
abbrev zix:=tu []
abbrev zoT:=fo .none 59 0 .none .none
abbrev ziy:=co "judged" "/claim/cut.py" 605 606 607 204 3 3 332 true 181 333 .none (.ref 334) (.ref 335) (.ref 336) 612 613
abbrev ziz:=fo (.type "function") 59 3 (vs "changehall.scales" 569) (.ref 337)
abbrev ziA:=tu []
abbrev zoU:=fi []
abbrev ziB:=tu [vs "_law_script" 620,vs "_law_k" 621]
abbrev ziC:=tu []
abbrev zoV:=fo .none 61 0 .none .none
abbrev ziD:=co "_law_cell_at" "/claim/cut.py" 617 618 619 210 2 3 339 true 181 340 .none (.ref 341) (.ref 342) (.ref 343) 622 623
abbrev ziE:=fo (.type "function") 61 3 (vs "law_changehall_k10_whole_plan_or_denial" 615) (.ref 344)
abbrev ziF:=tu []
abbrev zoW:=fi []
abbrev ziG:=tu [vs "_law_found" 628]
abbrev ziH:=tu []
abbrev zoX:=fo .none 62 0 .none .none
abbrev ziI:=co "_law_whole" "/claim/cut.py" 625 626 627 216 1 3 346 true 181 347 .none (.ref 348) (.ref 349) (.ref 350) 629 630
abbrev ziJ:=fo (.type "function") 62 3 (vs "law_changehall_k10_whole_plan_or_denial" 615) (.ref 351)
abbrev ziK:=tu []
abbrev zoY:=fi []
abbrev ziL:=tu [vs "_law_found" 635,vs "_law_size" 636,vs "_law_number_here" 637]
abbrev ziM:=tu []
abbrev zoZ:=fo .none 63 0 .none .none
abbrev ziN:=co "_law_is_row" "/claim/cut.py" 632 633 634 218 2 3 353 true 181 354 .none (.ref 355) (.ref 356) (.ref 357) 638 639
abbrev ziO:=fo (.type "function") 63 3 (vs "law_changehall_k10_whole_plan_or_denial" 615) (.ref 358)
abbrev ziP:=tu []
abbrev zp0:=fi []
abbrev ziQ:=tu [vs "_law_cell" 644,vs "_law_mode" 645,vs "_law_number_here" 646,vs "_law_wide" 647]
abbrev ziR:=tu []
abbrev zp1:=fo .none 64 0 .none .none
abbrev ziS:=co "_law_number" "/claim/cut.py" 641 642 643 225 2 3 360 true 181 361 .none (.ref 362) (.ref 363) (.ref 364) 648 649
abbrev ziT:=fo (.type "function") 64 3 (vs "law_changehall_k10_whole_plan_or_denial" 615) (.ref 365)
abbrev ziU:=tu []
abbrev zp2:=fi []
abbrev zp3:=fo .none 65 0 .none .none
abbrev ziV:=co "_law_row" "/claim/cut.py" 651 652 653 236 4 3 367 true 181 368 .none .none .none (.ref 369) 654 655
abbrev ziW:=fo (.type "function") 65 3 (vs "law_changehall_k10_whole_plan_or_denial" 615) (.ref 370)
abbrev t6(P:Params):BT:=ins (t5 P) [(3,o3_6 P),(12,o12_6),(292,zi2),(293,zoG),(294,zi3),(295,zi4),(296,zoH),(297,zi5),(298,zi6),(299,zi7),(300,zoI),(301,zi8),(302,zi9),(303,zoJ),(304,zia),(305,zib),(306,zic),(307,zoK),(308,zoL),(309,zid),(310,zie),(311,zif),(312,zoM),(313,zig),(314,zih),(315,zoN),(316,zii),(317,zij),(318,zik),(319,zoO),(320,zil),(321,zim),(322,zoP),(323,zin),(324,zio),(325,ziq),(326,zoQ),(327,zir),(328,zis),(329,zoR),(330,zit),(331,ziu),(332,ziv),(333,zoS),(334,ziw),(335,zix),(336,zoT),(337,ziy),(338,ziz),(339,ziA),(340,zoU),(341,ziB),(342,ziC),(343,zoV),(344,ziD),(345,ziE),(346,ziF),(347,zoW),(348,ziG),(349,ziH),(350,zoX),(351,ziI),(352,ziJ),(353,ziK),(354,zoY),(355,ziL),(356,ziM),(357,zoZ),(358,ziN),(359,ziO),(360,ziP),(361,zp0),(362,ziQ),(363,ziR),(364,zp1),(365,ziS),(366,ziT),(367,ziU),(368,zp2),(369,zp3),(370,ziV),(371,ziW)]
abbrev s6(w:World)(os:OsState):SharedT:=⟨t6 w.params,372,{ },#[],{ },657,os⟩
abbrev l5:List Stmt:=[top 51,top 52,top 53,top 54,top 55,top 56,top 57,top 58,top 59,top 60,top 61,top 62,top 63,top 64,top 65]
theorem run_5(w:World)(os:OsState):segRunT treeTable pw w 11 ann 1 392 (s5 w os) (piecesOf l5 env cE ⟨172,0,180,84⟩ fB)=some (.next,s6 w os,cE,⟨236,0,237,111⟩):=by
 rewrite[te_sT,te_tb];kernel_rfl
abbrev o3_7L(P:Params):List DictEntry:=de P "__name__" 165 (vs "law_changehall_k10_whole_plan_or_denial" 615)::(o3_6L P).tail++[de P "_law_bills" 662 (.ref 376),de P "_law_sum" 668 (.ref 381),de P "_law_plus" 674 (.ref 386),de P "_law_heavy" 684 (.ref 393),de P "_law_leads" 694 (.ref 400),de P "_law_denies" 705 (.ref 407),de P "_law_baskets" 717 (.ref 414),de P "law" 723 (.ref 419)]
abbrev o3_7(P:Params):Obj:=⟨.type "dict",none,.dict (o3_7L P).toArray 74,#[]⟩
abbrev o12_7L:List Value:=zoF++[.int 238 0,.int 0 0,.ref 375,.int 250 0,.int 0 0,.ref 380,.int 255 0,.int 0 0,.ref 385,.int 257 0,.int 0 0,.ref 392,.int 262 0,.int 0 0,.ref 399,.int 266 0,.int 0 0,.ref 406,.int 275 0,.int 0 0,.ref 413,.int 282 0,.int 0 0,.ref 418]
abbrev o12_7:=fi o12_7L
abbrev ziX:=tu []
abbrev zp4:=fi []
abbrev zp5:=fo .none 66 0 .none .none
abbrev ziY:=co "_law_bills" "/claim/cut.py" 657 658 659 238 1 3 372 true 181 373 .none .none .none (.ref 374) 660 661
abbrev ziZ:=fo (.type "function") 66 3 (vs "law_changehall_k10_whole_plan_or_denial" 615) (.ref 375)
abbrev zj:=tu []
abbrev zp6:=fi []
abbrev zp7:=fo .none 67 0 .none .none
abbrev zj0:=co "_law_sum" "/claim/cut.py" 663 664 665 250 3 3 377 true 181 378 .none .none .none (.ref 379) 666 667
abbrev zj1:=fo (.type "function") 67 3 (vs "law_changehall_k10_whole_plan_or_denial" 615) (.ref 380)
abbrev zj2:=tu []
abbrev zp8:=fi []
abbrev zp9:=fo .none 68 0 .none .none
abbrev zj3:=co "_law_plus" "/claim/cut.py" 669 670 671 255 3 3 382 true 181 383 .none .none .none (.ref 384) 672 673
abbrev zj4:=fo (.type "function") 68 3 (vs "law_changehall_k10_whole_plan_or_denial" 615) (.ref 385)
abbrev zj5:=tu []
abbrev zpa:=fi []
abbrev zj6:=tu [vs "_law_weights" 678,vs "_law_row_here" 679,vs "_law_made" 680,vs "_law_k" 681]
abbrev zj7:=tu []
abbrev zpb:=fo .none 69 0 .none .none
abbrev zj8:=co "_law_heavy" "/claim/cut.py" 675 676 677 257 2 3 387 true 181 388 .none (.ref 389) (.ref 390) (.ref 391) 682 683
abbrev zj9:=fo (.type "function") 69 3 (vs "law_changehall_k10_whole_plan_or_denial" 615) (.ref 392)
abbrev zja:=tu []
abbrev zpc:=fi []
abbrev zjb:=tu [vs "_law_bills_here" 688,vs "_law_one" 689,vs "_law_other" 690,vs "_law_uses" 691]
abbrev zjc:=tu []
abbrev zpd:=fo .none 70 0 .none .none
abbrev zjd:=co "_law_leads" "/claim/cut.py" 685 686 687 262 4 3 394 true 181 395 .none (.ref 396) (.ref 397) (.ref 398) 692 693
abbrev zje:=fo (.type "function") 70 3 (vs "law_changehall_k10_whole_plan_or_denial" 615) (.ref 399)
abbrev zjf:=tu []
abbrev zpe:=fi []
abbrev zjg:=tu [vs "_law_bills_here" 698,vs "_law_one" 699,vs "_law_other" 700,vs "_law_scale" 701,vs "_law_bill" 702]
abbrev zjh:=tu []
abbrev zpf:=fo .none 71 0 .none .none
abbrev zji:=co "_law_denies" "/claim/cut.py" 695 696 697 266 4 3 401 true 181 402 .none (.ref 403) (.ref 404) (.ref 405) 703 704
abbrev zjj:=fo (.type "function") 71 3 (vs "law_changehall_k10_whole_plan_or_denial" 615) (.ref 406)
abbrev zjk:=tu []
abbrev zpg:=fi []
abbrev zjl:=tu [vs "_law_script" 709,vs "_law_kinds" 710,vs "_law_bills_here" 711,vs "_law_one" 712,vs "_law_other" 713,vs "_law_uses" 714]
abbrev zjm:=tu []
abbrev zph:=fo .none 72 0 .none .none
abbrev zjn:=co "_law_baskets" "/claim/cut.py" 706 707 708 275 3 3 408 true 181 409 .none (.ref 410) (.ref 411) (.ref 412) 715 716
abbrev zjo:=fo (.type "function") 72 3 (vs "law_changehall_k10_whole_plan_or_denial" 615) (.ref 413)
abbrev zjp:=tu []
abbrev zpi:=fi []
abbrev zpj:=fo .none 73 0 .none .none
abbrev zjq:=co "law" "/claim/cut.py" 718 719 720 282 1 3 415 true 181 416 .none .none .none (.ref 417) 721 722
abbrev zjr:=fo (.type "function") 73 3 (vs "law_changehall_k10_whole_plan_or_denial" 615) (.ref 418)
abbrev t7(P:Params):BT:=ins (t6 P) [(3,o3_7 P),(12,o12_7),(372,ziX),(373,zp4),(374,zp5),(375,ziY),(376,ziZ),(377,zj),(378,zp6),(379,zp7),(380,zj0),(381,zj1),(382,zj2),(383,zp8),(384,zp9),(385,zj3),(386,zj4),(387,zj5),(388,zpa),(389,zj6),(390,zj7),(391,zpb),(392,zj8),(393,zj9),(394,zja),(395,zpc),(396,zjb),(397,zjc),(398,zpd),(399,zjd),(400,zje),(401,zjf),(402,zpe),(403,zjg),(404,zjh),(405,zpf),(406,zji),(407,zjj),(408,zjk),(409,zpg),(410,zjl),(411,zjm),(412,zph),(413,zjn),(414,zjo),(415,zjp),(416,zpi),(417,zpj),(418,zjq),(419,zjr)]
abbrev s7(w:World)(os:OsState):SharedT:=⟨t7 w.params,420,{ },#[],{ },724,os⟩
abbrev l6:List Stmt:=[top 66,top 67,top 68,top 69,top 70,top 71,top 72,top 73]
theorem run_6(w:World)(os:OsState):segRunT treeTable pw w 11 ann 1 236 (s6 w os) (piecesOf l6 env cE ⟨236,0,237,111⟩ fB)=some (.next,s7 w os,cE,⟨282,0,298,85⟩):=by
 rewrite[te_sT,te_tb];kernel_rfl
def h1(P:Params):Heap:=⟨⟨[boot_o_0 P,boot_o_1 P,boot_o_2 P,o3_7 P,boot_o_4 P,boot_o_5 P,boot_o_6 P,boot_o_7 P,boot_o_8 P,boot_o_9 P,boot_o_10 P,o11a,o12_7,o13a,o14a,zmT,o16_1,zmU,zmV,o19_1,zmW,zmX,zmY,o23_1,o24_1,zmZ,zn,zn0,o28_1,o29_1,zn1,zn2,zn3,o33_1,o34_1,zn4,zn5,zn6,o38_1,o39_1,zn7,zn8,zn9,o43_1,o44_1,zna,znb,znc,o48_1,o49_1,znd,zne,znf,o53_1,o54_1,zng,znh,zni,o58_1,znj,znk,o61_1,znl,znm,zno,o65_2,o66_2 P,o67_2,o68_2,o69_2,o70_2,znp,znq P,znx,znr,o75_2,o76_2,zns,o78_2,o79_2 P,o80_2,o81_2,o82_2,o83_2,znt,znu P,znv,o87_2,o88_2,zny,o90_3,o91_3 P,o92_3,o93_3,o94_3,o95_3,znz,znA P,znB,o99_3,znC,zfZ,znD,zg0,zg1,znE,zg2,zg3,zg4,znF,znG,zg5,zg6,zg7,znH,zg8,zg9,znI,zga,zgb,zgc,znJ,zgd,zge,znK,zgf,zgg,zgh,znL,zgi,zgj,znM,zgk,zgl,zgm,znO,znP,zgn,zgo,zgp,znQ,zgq,zgr,znR,zgs,zgt,zgu,znS,zgv,zgw,znT,zgx,zgy,zgz,znU,zgA,zgB,znV,zgC,zgD,zgE,znW,zgF,zgG,znX,zgH,zgI,zgJ,znY,znZ,zgK,zgL,zgM,zo0,zgN,zgO,zo1,zgP,zgQ,zgR,zo2,zgS,zgT,zo3,zgU,zgV,zgW,zo4,zgX,zgY,zo5,zgZ,zh,zh0,zo6,zh1,zh2,zo7,zh3,zh4,zh5,zo8,zh6,zh7,zo9,zh8,zh9,zha,zoa,zhb,zhc,zob,zhd,zhe,zhf,zod,zoe,zhg,zhh,zhi,zof,zhj,zhk,zog,zhl,zhm,zhn,zoh,zho,zhp,zoi,zhq,zhr,zhs,zoj,zok,zht,zhu,zhv,zol,zom,zhw,zhx,zhy,zon,zhz,zhA,zoo,zhB,zhC,zhD,zop,zoq,zhE,zhF,zhG,zor,zos,zhH,zhI,zhJ,zot,zou,zhK,zhL,zhM,zov,zow,zhN,zhO,zhP,zox,zoy,zhQ,zhR,zhS,zoz,zhT,zhU,zoA,zhV,zhW,zhX,zoB,zoC,zhY,zhZ,zi,zoD,zoE,zi0,zi1,zi2,zoG,zi3,zi4,zoH,zi5,zi6,zi7,zoI,zi8,zi9,zoJ,zia,zib,zic,zoK,zoL,zid,zie,zif,zoM,zig,zih,zoN,zii,zij,zik,zoO,zil,zim,zoP,zin,zio,ziq,zoQ,zir,zis,zoR,zit,ziu,ziv,zoS,ziw,zix,zoT,ziy,ziz,ziA,zoU,ziB,ziC,zoV,ziD,ziE,ziF,zoW,ziG,ziH,zoX,ziI,ziJ,ziK,zoY,ziL,ziM,zoZ,ziN,ziO,ziP,zp0,ziQ,ziR,zp1,ziS,ziT,ziU,zp2,zp3,ziV,ziW,ziX,zp4,zp5,ziY,ziZ,zj,zp6,zp7,zj0,zj1,zj2,zp8,zp9,zj3,zj4,zj5,zpa,zj6,zj7,zpb,zj8,zj9,zja,zpc,zjb,zjc,zpd,zjd,zje,zjf,zpe,zjg,zjh,zpf,zji,zjj,zjk,zpg,zjl,zjm,zph,zjn,zjo,zjp,zpi,zpj,zjq,zjr]⟩,{ }⟩
abbrev z0v:Drawn:={ }
theorem run_z(w:World)(os:OsState):topRun treeTable pw w 11 ann 2 (s7 w os).abs ⟨doneF .next,cE,⟨282,0,298,85⟩,fB⟩=some ⟨h1 w.params,#[],z0v,724,os⟩:=by
 rewrite[te_tr,te_tb];kernel_rfl
theorem zqn:behindTheImports pw=(l0++(l1++(l2++(l3++(l4++(l5++(l6++[]))))))):=by kernel_rfl
theorem run_all(w:World)(os:OsState):topRun treeTable pw w 11 ann (12+(1+(261+(400+(386+(380+(396+(392+(236+2))))))))) ⟨boot_heap w.params,#[],boot_drawn,boot_toks,os⟩ (topStub pw)=some ⟨h1 w.params,#[],z0v,724,os⟩ :=
 go_top (run_a w os) (piece_block (env:=env) (run_b w os) (by rw[zqn];exact(piece_app (segRun_of (run_0 w os)) (piece_app (segRun_of (run_1 w os)) (piece_app (segRun_of (run_2 w os)) (piece_app (segRun_of (run_3 w os)) (piece_app (segRun_of (run_4 w os)) (piece_app (segRun_of (run_5 w os)) (piece_app (segRun_of (run_6 w os)) (run_z w os))))))))))
abbrev keep:List Nat:=[1,2,3,4,5,6,7,8,9,11,12,13,15,16,17,18,19,20,21,22,23,24,25,26,28,29,30,32,33,34,35,36,37,38,39,40,41,42,44,45,46,47,48,49,50,52,53,55,56,57,58,59,61,62,63,64,65,66,67,68,69,70,71,72,73]
def K:Params→PySem.W.Frag:=fun P=>(nat_lit 2,boot_o_2 P)::(nat_lit 3,o3_7 P)::(nat_lit 15,zmT)::(nat_lit 17,zmU)::(nat_lit 18,zmV)::(nat_lit 20,zmW)::(nat_lit 21,zmX)::(nat_lit 22,zmY)::(nat_lit 25,zmZ)::(nat_lit 26,zn)::(nat_lit 27,zn0)::(nat_lit 30,zn1)::(nat_lit 31,zn2)::(nat_lit 32,zn3)::(nat_lit 35,zn4)::(nat_lit 36,zn5)::(nat_lit 37,zn6)::(nat_lit 40,zn7)::(nat_lit 41,zn8)::(nat_lit 42,zn9)::(nat_lit 45,zna)::(nat_lit 46,znb)::(nat_lit 47,znc)::(nat_lit 50,znd)::(nat_lit 51,zne)::(nat_lit 52,znf)::(nat_lit 55,zng)::(nat_lit 56,znh)::(nat_lit 57,zni)::(nat_lit 59,znj)::(nat_lit 60,znk)::(nat_lit 62,znl)::(nat_lit 63,znm)::(nat_lit 64,zno)::(nat_lit 71,znp)::(nat_lit 72,znq P)::(nat_lit 73,znx)::(nat_lit 74,znr)::(nat_lit 77,zns)::(nat_lit 84,znt)::(nat_lit 85,znu P)::(nat_lit 86,znv)::(nat_lit 89,zny)::(nat_lit 96,znz)::(nat_lit 97,znA P)::(nat_lit 98,znB)::(nat_lit 101,zfZ)::(nat_lit 103,zg0)::(nat_lit 104,zg1)::(nat_lit 106,zg2)::(nat_lit 107,zg3)::(nat_lit 108,zg4)::(nat_lit 111,zg5)::(nat_lit 112,zg6)::(nat_lit 113,zg7)::(nat_lit 115,zg8)::(nat_lit 116,zg9)::(nat_lit 118,zga)::(nat_lit 119,zgb)::(nat_lit 120,zgc)::(nat_lit 122,zgd)::(nat_lit 123,zge)::(nat_lit 125,zgf)::(nat_lit 126,zgg)::(nat_lit 127,zgh)::(nat_lit 129,zgi)::(nat_lit 130,zgj)::(nat_lit 132,zgk)::(nat_lit 133,zgl)::(nat_lit 134,zgm)::(nat_lit 137,zgn)::(nat_lit 138,zgo)::(nat_lit 139,zgp)::(nat_lit 141,zgq)::(nat_lit 142,zgr)::(nat_lit 144,zgs)::(nat_lit 145,zgt)::(nat_lit 146,zgu)::(nat_lit 148,zgv)::(nat_lit 149,zgw)::(nat_lit 151,zgx)::(nat_lit 152,zgy)::(nat_lit 153,zgz)::(nat_lit 155,zgA)::(nat_lit 156,zgB)::(nat_lit 158,zgC)::(nat_lit 159,zgD)::(nat_lit 160,zgE)::(nat_lit 162,zgF)::(nat_lit 163,zgG)::(nat_lit 165,zgH)::(nat_lit 166,zgI)::(nat_lit 167,zgJ)::(nat_lit 170,zgK)::(nat_lit 171,zgL)::(nat_lit 172,zgM)::(nat_lit 174,zgN)::(nat_lit 175,zgO)::(nat_lit 177,zgP)::(nat_lit 178,zgQ)::(nat_lit 179,zgR)::(nat_lit 181,zgS)::(nat_lit 182,zgT)::(nat_lit 184,zgU)::(nat_lit 185,zgV)::(nat_lit 186,zgW)::(nat_lit 188,zgX)::(nat_lit 189,zgY)::(nat_lit 191,zgZ)::(nat_lit 192,zh)::(nat_lit 193,zh0)::(nat_lit 195,zh1)::(nat_lit 196,zh2)::(nat_lit 198,zh3)::(nat_lit 199,zh4)::(nat_lit 200,zh5)::(nat_lit 202,zh6)::(nat_lit 203,zh7)::(nat_lit 205,zh8)::(nat_lit 206,zh9)::(nat_lit 207,zha)::(nat_lit 209,zhb)::(nat_lit 210,zhc)::(nat_lit 212,zhd)::(nat_lit 213,zhe)::(nat_lit 214,zhf)::(nat_lit 217,zhg)::(nat_lit 218,zhh)::(nat_lit 219,zhi)::(nat_lit 221,zhj)::(nat_lit 222,zhk)::(nat_lit 224,zhl)::(nat_lit 225,zhm)::(nat_lit 226,zhn)::(nat_lit 228,zho)::(nat_lit 229,zhp)::(nat_lit 231,zhq)::(nat_lit 232,zhr)::(nat_lit 233,zhs)::(nat_lit 236,zht)::(nat_lit 237,zhu)::(nat_lit 238,zhv)::(nat_lit 241,zhw)::(nat_lit 242,zhx)::(nat_lit 243,zhy)::(nat_lit 245,zhz)::(nat_lit 246,zhA)::(nat_lit 248,zhB)::(nat_lit 249,zhC)::(nat_lit 250,zhD)::(nat_lit 253,zhE)::(nat_lit 254,zhF)::(nat_lit 255,zhG)::(nat_lit 258,zhH)::(nat_lit 259,zhI)::(nat_lit 260,zhJ)::(nat_lit 263,zhK)::(nat_lit 264,zhL)::(nat_lit 265,zhM)::(nat_lit 268,zhN)::(nat_lit 269,zhO)::(nat_lit 270,zhP)::(nat_lit 273,zhQ)::(nat_lit 274,zhR)::(nat_lit 275,zhS)::(nat_lit 277,zhT)::(nat_lit 278,zhU)::(nat_lit 280,zhV)::(nat_lit 281,zhW)::(nat_lit 282,zhX)::(nat_lit 285,zhY)::(nat_lit 286,zhZ)::(nat_lit 287,zi)::(nat_lit 290,zi0)::(nat_lit 291,zi1)::(nat_lit 292,zi2)::(nat_lit 294,zi3)::(nat_lit 295,zi4)::(nat_lit 297,zi5)::(nat_lit 298,zi6)::(nat_lit 299,zi7)::(nat_lit 301,zi8)::(nat_lit 302,zi9)::(nat_lit 304,zia)::(nat_lit 305,zib)::(nat_lit 306,zic)::(nat_lit 309,zid)::(nat_lit 310,zie)::(nat_lit 311,zif)::(nat_lit 313,zig)::(nat_lit 314,zih)::(nat_lit 316,zii)::(nat_lit 317,zij)::(nat_lit 318,zik)::(nat_lit 320,zil)::(nat_lit 321,zim)::(nat_lit 323,zin)::(nat_lit 324,zio)::(nat_lit 325,ziq)::(nat_lit 327,zir)::(nat_lit 328,zis)::(nat_lit 330,zit)::(nat_lit 331,ziu)::(nat_lit 332,ziv)::(nat_lit 334,ziw)::(nat_lit 335,zix)::(nat_lit 337,ziy)::(nat_lit 338,ziz)::(nat_lit 339,ziA)::(nat_lit 341,ziB)::(nat_lit 342,ziC)::(nat_lit 344,ziD)::(nat_lit 345,ziE)::(nat_lit 346,ziF)::(nat_lit 348,ziG)::(nat_lit 349,ziH)::(nat_lit 351,ziI)::(nat_lit 352,ziJ)::(nat_lit 353,ziK)::(nat_lit 355,ziL)::(nat_lit 356,ziM)::(nat_lit 358,ziN)::(nat_lit 359,ziO)::(nat_lit 360,ziP)::(nat_lit 362,ziQ)::(nat_lit 363,ziR)::(nat_lit 365,ziS)::(nat_lit 366,ziT)::(nat_lit 367,ziU)::(nat_lit 370,ziV)::(nat_lit 371,ziW)::(nat_lit 372,ziX)::(nat_lit 375,ziY)::(nat_lit 376,ziZ)::(nat_lit 377,zj)::(nat_lit 380,zj0)::(nat_lit 381,zj1)::(nat_lit 382,zj2)::(nat_lit 385,zj3)::(nat_lit 386,zj4)::(nat_lit 387,zj5)::(nat_lit 389,zj6)::(nat_lit 390,zj7)::(nat_lit 392,zj8)::(nat_lit 393,zj9)::(nat_lit 394,zja)::(nat_lit 396,zjb)::(nat_lit 397,zjc)::(nat_lit 399,zjd)::(nat_lit 400,zje)::(nat_lit 401,zjf)::(nat_lit 403,zjg)::(nat_lit 404,zjh)::(nat_lit 406,zji)::(nat_lit 407,zjj)::(nat_lit 408,zjk)::(nat_lit 410,zjl)::(nat_lit 411,zjm)::(nat_lit 413,zjn)::(nat_lit 414,zjo)::(nat_lit 415,zjp)::(nat_lit 418,zjq)::(nat_lit 419,zjr)::[]
abbrev Ka:List Addr:=[2,3,15,17,18,20,21,22,25,26,27,30,31,32,35,36,37,40,41,42,45,46,47,50,51,52,55,56,57,59,60,62,63,64,71,72,73,74,77,84,85,86,89,96,97,98,101,103,104,106,107,108,111,112,113,115,116,118,119,120,122,123,125,126,127,129,130,132,133,134,137,138,139,141,142,144,145,146,148,149,151,152,153,155,156,158,159,160,162,163,165,166,167,170,171,172,174,175,177,178,179,181,182,184,185,186,188,189,191,192,193,195,196,198,199,200,202,203,205,206,207,209,210,212,213,214,217,218,219,221,222,224,225,226,228,229,231,232,233,236,237,238,241,242,243,245,246,248,249,250,253,254,255,258,259,260,263,264,265,268,269,270,273,274,275,277,278,280,281,282,285,286,287,290,291,292,294,295,297,298,299,301,302,304,305,306,309,310,311,313,314,316,317,318,320,321,323,324,325,327,328,330,331,332,334,335,337,338,339,341,342,344,345,346,348,349,351,352,353,355,356,358,359,360,362,363,365,366,367,370,371,372,375,376,377,380,381,382,385,386,387,389,390,392,393,394,396,397,399,400,401,403,404,406,407,408,410,411,413,414,415,418,419]
theorem Ke(P:Params):Ka=(K P).map (·.1):=by kernel_rfl
abbrev qv:Program:=view pw keep
abbrev Xt:Shared→Bool:=fun s=>xlAt qv [] s&&recOk [] s
theorem opened:∀ w:World,(fencedOpening treeTable pw w 5014).map (fun s=>(s.heap,s.gens,s.drawn,s.toks))=some (boot_heap w.params,Array.mk [],boot_drawn,boot_toks):=boot_open (by kernel_rfl) (by kernel_rfl) (fun s=>by kernel_rfl)
theorem sized(w:World):((boot_heap w.params).isNs mainGlobals&&(Array.mk []:Array GenState).size==0,(boot_heap w.params).objs.size,(boot_heap w.params).nsMap mainGlobals "__annotations__")=(true,11,ann):=by
 rewrite[te_ns];kernel_rfl
theorem lk0(w:World)(os:OsState):(staticsOk (importedModules pw.main.body) (boot_heap w.params) (h1 w.params)&&namesBound pw (h1 w.params)&&gensDone ⟨h1 w.params,#[],z0v,724,os⟩&&laidKept (boot_heap w.params) (h1 w.params))=true:=by
 rewrite[te_im];kernel_rfl
theorem lk1(w:World)(os:OsState):seen ((recsOf qv).map (·.name)) (ownsOf qv) [] { (⟨h1 w.params,#[],z0v,724,os⟩:Shared)with gens:=#[] }=expectedOf qv:=by
 rewrite[te_seen,te_recs,te_owns];kernel_rfl
theorem lk2(w:World)(os:OsState):(⟨h1 w.params,#[],z0v,724,os⟩:Shared).heap.bltView=bltViewBooted:=by
 kernel_rfl
theorem lk3(w:World)(os:OsState):((⟨h1 w.params,#[],z0v,724,os⟩:Shared).heap.keysOk (looseW qv []) ((recsOf qv).map (·.name)) ((litsOf qv).map (·.1)) ((clssOf qv (looseW qv [])).map (·.name))&&(⟨h1 w.params,#[],z0v,724,os⟩:Shared).heap.accountedOkI (importedModules pw.main.body)&&(⟨h1 w.params,#[],z0v,724,os⟩:Shared).heap.isNs mainGlobals&&(⟨h1 w.params,#[],z0v,724,os⟩:Shared).heap.isNs builtinsNs&&tablesOk qv (⟨h1 w.params,#[],z0v,724,os⟩:Shared).heap&&Xt ⟨h1 w.params,#[],z0v,724,os⟩&&(if true=true then(⟨h1 w.params,#[],z0v,724,os⟩:Shared).gens.size==0 else !leftWithCleanup (⟨h1 w.params,#[],z0v,724,os⟩:Shared).gens))=true:=by
 rewrite[te_keys,te_loose,te_recs,te_lits,te_clss,te_acc,te_im,te_tabl];kernel_rfl
theorem lk4(w:World)(os:OsState):tabsOk qv ⟨h1 w.params,#[],z0v,724,os⟩=true:=by
 rewrite[te_tabs];kernel_rfl
theorem lk5(w:World)(os:OsState):pinSeenD qv (drecsOf qv) ⟨h1 w.params,#[],z0v,724,os⟩=pinGoodD (drecsOf qv):=by
 rewrite[te_pin,te_drecs];kernel_rfl
theorem lk6(w:World)(os:OsState):plainSeenE qv (looseW qv []) ⟨h1 w.params,#[],z0v,724,os⟩=plainGoodE qv (looseW qv []):=by
 rewrite[te_pE,te_loose];kernel_rfl
theorem lk7(w:World)(os:OsState):plainSeenD qv [] ⟨h1 w.params,#[],z0v,724,os⟩=plainGoodD qv []:=by
 rewrite[te_pD];kernel_rfl
theorem lk8(w:World)(os:OsState):wideSeen qv ⟨h1 w.params,#[],z0v,724,os⟩=wideGood qv:=by
 rewrite[te_wide];kernel_rfl
theorem lk9(w:World)(os:OsState):clsSeenW qv [] ⟨h1 w.params,#[],z0v,724,os⟩=clsGoodW qv []:=by
 rewrite[te_cls];kernel_rfl
theorem lk10(w:World)(os:OsState):Hook.obs (kHook K Ka Ke) ⟨h1 w.params,#[],z0v,724,os⟩=Hook.val (kHook K Ka Ke) w:=by
 kernel_rfl
theorem sn(w:World)(os:OsState):openSeen qv [] (importedModules pw.main.body) Xt true ⟨h1 w.params,#[],z0v,724,os⟩=(seen ((recsOf qv).map (·.name)) (ownsOf qv) [] { (⟨h1 w.params,#[],z0v,724,os⟩:Shared)with gens:=#[] },(⟨h1 w.params,#[],z0v,724,os⟩:Shared).heap.bltView,((⟨h1 w.params,#[],z0v,724,os⟩:Shared).heap.keysOk (looseW qv []) ((recsOf qv).map (·.name)) ((litsOf qv).map (·.1)) ((clssOf qv (looseW qv [])).map (·.name))&&(⟨h1 w.params,#[],z0v,724,os⟩:Shared).heap.accountedOkI (importedModules pw.main.body)&&(⟨h1 w.params,#[],z0v,724,os⟩:Shared).heap.isNs mainGlobals&&(⟨h1 w.params,#[],z0v,724,os⟩:Shared).heap.isNs builtinsNs&&tablesOk qv (⟨h1 w.params,#[],z0v,724,os⟩:Shared).heap&&Xt ⟨h1 w.params,#[],z0v,724,os⟩&&(if true=true then(⟨h1 w.params,#[],z0v,724,os⟩:Shared).gens.size==0 else !leftWithCleanup (⟨h1 w.params,#[],z0v,724,os⟩:Shared).gens)),tabsOk qv ⟨h1 w.params,#[],z0v,724,os⟩,pinSeenD qv (drecsOf qv) ⟨h1 w.params,#[],z0v,724,os⟩,plainSeenE qv (looseW qv []) ⟨h1 w.params,#[],z0v,724,os⟩,plainSeenD qv [] ⟨h1 w.params,#[],z0v,724,os⟩,wideSeen qv ⟨h1 w.params,#[],z0v,724,os⟩,clsSeenW qv [] ⟨h1 w.params,#[],z0v,724,os⟩):=by kernel_rfl
theorem gd:openGood qv []=(expectedOf qv,bltViewBooted,true,true,pinGoodD (drecsOf qv),plainGoodE qv (looseW qv []),plainGoodD qv [],wideGood qv,clsGoodW qv []):=by kernel_rfl
theorem lkS(w:World)(os:OsState):openSeen qv [] (importedModules pw.main.body) Xt true ⟨h1 w.params,#[],z0v,724,os⟩=openGood qv []:=(sn w os).trans (Eq.trans (looks_pair (lk1 w os) (looks_pair (lk2 w os) (looks_pair (lk3 w os) (looks_pair (lk4 w os) (looks_pair (lk5 w os) (looks_pair (lk6 w os) (looks_pair (lk7 w os) (looks_pair (lk8 w os) (lk9 w os))))))))) gd.symm)
theorem left:LeftO pw qv [] Xt (Hook.obs (kHook K Ka Ke)) (Hook.val (kHook K Ka Ke)) 5014 :=
 LeftO.of_pieces (H₀:=boot_heap) (H₁:=h1) (gs₀:=Array.mk []) (gs₁:=#[]) (d₀:=boot_drawn) (d₁:=z0v) (k₀:=boot_toks) (k₁:=724) (m₀:=11) (ann:=ann) (M:=(12+(1+(261+(400+(386+(380+(396+(392+(236+2)))))))))) opened sized run_all (by kernel_rfl) (fun w=>funext fun os =>
  looks_pair (lk0 w os) (looks_pair (lkS w os) (lk10 w os)))
end
end H
end K10
open PySem PySem.W PyProof.Rows
set_option maxRecDepth 100000 in
set_option maxHeartbeats 0 in
theorem PySem.Challenge.cw_changehall_k10_whole_plan_or_denial_holds : PySem.Challenge.rw_changehall_k10_whole_plan_or_denial.Holds := by
 w_on;o_law
 refine PySem.W.holds_open (q:=K10.H.qv) (loose:=[]) (Xt:=K10.H.Xt) (XP:=XL K10.H.qv []) (Yf:=Hook.obs (kHook K10.H.K K10.H.Ka K10.H.Ke)) (Ya:=Hook.val (kHook K10.H.K K10.H.Ka K10.H.Ke)) (YP:=Hook.says (kHook K10.H.K K10.H.Ka K10.H.Ke)) (N:=5014) K10.H.left (Hook.of _) (Hook.keeps _) (fun s e=>xl_of s (Bool.and_eq_true_iff.mp e).1) XL.keeps (by rfl) (by rfl) (by rfl) (fun s e=>recFacts_of (Bool.and_eq_true_iff.mp e).2) (by rfl) (by first|assumption|decide +kernel) (by decide +kernel) ⟨rfl,rfl,rfl,rfl,rfl,by decide +kernel⟩ ?hw ?hc
 (case hw=>w_witness2)
 k_fill
 refine L2.zkH (x := "_law_script") (k:=12) (fr:=true) (c:=K10.zk3) (l:=PySem.Challenge.rw_changehall_k10_whole_plan_or_denial) rfl rfl (fun w h Y=>PySem.W.kIn_of Y) ?F (fun ns hl=>K10.zmJ ns hl) ⟨rfl,by decide,by decide⟩
 case F =>
  intro w mg fa h KX G hmg
  refine' K10.zmR KX G hmg (L2.dh ?e0 ?l0 ?c0 ?k0) (L2.dh ?e1 ?l1 ?c1 ?k1) (L2.dh ?e2 ?l2 ?c2 ?k2) (L2.dh ?e3 ?l3 ?c3 ?k3) (L2.dh ?e4 ?l4 ?c4 ?k4) (L2.dh ?e5 ?l5 ?c5 ?k5) (L2.dh ?e6 ?l6 ?c6 ?k6) (L2.dh ?e7 ?l7 ?c7 ?k7) (L2.dh ?e8 ?l8 ?c8 ?k8) (L2.dh ?e9 ?l9 ?c9 ?k9) (L2.dh ?e10 ?l10 ?c10 ?k10) (L2.dh ?e11 ?l11 ?c11 ?k11) (L2.dh ?e12 ?l12 ?c12 ?k12) (L2.dh ?e13 ?l13 ?c13 ?k13) (L2.dh ?e14 ?l14 ?c14 ?k14) (L2.dh ?e15 ?l15 ?c15 ?k15) (L2.dh ?e16 ?l16 ?c16 ?k16) (L2.dh ?e17 ?l17 ?c17 ?k17) (L2.dh ?e18 ?l18 ?c18 ?k18) (L2.dh ?e19 ?l19 ?c19 ?k19) (L2.dh ?e20 ?l20 ?c20 ?k20) (L2.dh ?e21 ?l21 ?c21 ?k21) (L2.dh ?e22 ?l22 ?c22 ?k22) (L2.dh ?e23 ?l23 ?c23 ?k23) (L2.dh ?e24 ?l24 ?c24 ?k24) (L2.dh ?e25 ?l25 ?c25 ?k25) (L2.dh ?e26 ?l26 ?c26 ?k26) (L2.dh ?e27 ?l27 ?c27 ?k27) (L2.dh ?e28 ?l28 ?c28 ?k28) (L2.dh ?e29 ?l29 ?c29 ?k29) (L2.dh ?e30 ?l30 ?c30 ?k30) (L2.dh ?e31 ?l31 ?c31 ?k31) (L2.dh ?e32 ?l32 ?c32 ?k32) (L2.dh ?e33 ?l33 ?c33 ?k33) (L2.dh ?e34 ?l34 ?c34 ?k34) (L2.dh ?e35 ?l35 ?c35 ?k35) (L2.dh ?e36 ?l36 ?c36 ?k36) (L2.dh ?e37 ?l37 ?c37 ?k37) (L2.dh ?e38 ?l38 ?c38 ?k38) (L2.dh ?e39 ?l39 ?c39 ?k39) (L2.dh ?e40 ?l40 ?c40 ?k40) (L2.dh ?e41 ?l41 ?c41 ?k41) (L2.dh ?e42 ?l42 ?c42 ?k42) (L2.dh ?e43 ?l43 ?c43 ?k43) (L2.dh ?e44 ?l44 ?c44 ?k44) (L2.dh ?e45 ?l45 ?c45 ?k45) (L2.dh ?e46 ?l46 ?c46 ?k46) (L2.dh ?e47 ?l47 ?c47 ?k47) (L2.dh ?e48 ?l48 ?c48 ?k48) (L2.dh ?e49 ?l49 ?c49 ?k49) (L2.dh ?e50 ?l50 ?c50 ?k50) (L2.dh ?e51 ?l51 ?c51 ?k51) (L2.dh ?e52 ?l52 ?c52 ?k52) (L2.dh ?e53 ?l53 ?c53 ?k53) (L2.dh ?e54 ?l54 ?c54 ?k54) (L2.dh ?e55 ?l55 ?c55 ?k55) (L2.dh ?e56 ?l56 ?c56 ?k56) (L2.dh ?e57 ?l57 ?c57 ?k57) (L2.dh ?e58 ?l58 ?c58 ?k58) (L2.dh ?e59 ?l59 ?c59 ?k59) ?z_abs ?z_all ?z_any ?z_bool ?z_enumerate ?z_int ?z_isinstance ?z_len ?z_list ?z_range ?z_reversed ?z_sorted ?z_sum ?z_tuple ?z_zip ?y_MOST_BILLS ?y_MOST_KINDS
  all_goals try k_is

end
