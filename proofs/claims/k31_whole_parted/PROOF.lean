import PyProof.Rows.All
import Wide.All
import OpenK.AllK
import Wide.FinOn
import Lean
import PyProof.EqAt
import PyProof.EqKinds
import PyProof.TupleCall
import PyProof.CompFree
import PyProof.Cells
import PySem.Challenge.RW_changehall_k31_whole_parted
set_option Elab.async false
set_option linter.all false
set_option maxRecDepth 100000
set_option exponentiation.threshold 20000
section
local macro_rules|`(tactic| omega)=>`(tactic| first|lia|omega +splitDisjunctions)
set_option Elab.async false
set_option linter.all false
set_option maxRecDepth 100000
namespace L2
open PySem PySem.Spec PyProof.Rows
abbrev Key:=Sum Int Str
def keyIs:Key→Value→Bool
 | .inl k,v=>Value.isInt k v
 | .inr x,v=>Value.isStrOf x v
def keyH(w:World):Key→Int
 | .inl k=>hashInt k
 | .inr x=>hashStr w x
theorem z0Y:∀{k:Key} {v:Value},keyIs k v=true→(∃ i t,k=Sum.inl i∧v=Value.int i t)∨(∃ x t,k=Sum.inr x∧v=Value.str x t)
 | .inl i,v,h=>by
  obtain⟨t,e⟩:=Value.isInt_shape (k:=i) (v:=v) h
  exact .inl ⟨i,t,rfl,e⟩
 | .inr x,v,h=>by
  obtain⟨t,e⟩:=Value.isStrOf_shape (x:=x) (v:=v) h
  exact .inr ⟨x,t,rfl,e⟩
theorem key_ll(a b:Int):decide ((Sum.inl a:Key)=Sum.inl b)=(a==b):=by
 by_cases e:a=b
 · subst e;simp
 · have h:¬(Sum.inl a:Key)=Sum.inl b:=fun q=>e (Sum.inl.inj q)
   rw[decide_eq_false h]
   exact(beq_eq_false_iff_ne.mpr e).symm
theorem key_rr(a b:Str):decide ((Sum.inr a:Key)=Sum.inr b)=decide (a=b):=by
 by_cases e:a=b
 · subst e;simp
 · have h:¬(Sum.inr a:Key)=Sum.inr b:=fun q=>e (Sum.inr.inj q)
   rw[decide_eq_false h,decide_eq_false e]
theorem key_lr(a:Int)(b:Str):decide ((Sum.inl a:Key)=Sum.inr b)=false:=decide_eq_false (fun q=>nomatch q)
theorem key_rl(a:Str)(b:Int):decide ((Sum.inr a:Key)=Sum.inl b)=false:=decide_eq_false (fun q=>nomatch q)
def za1(prog:Program)(w:World):PySem.KeyKind prog w Key where
 is:=keyIs
 hash:=keyH w
 inj:=fun v a b ha hb=>by
  rcases z0Y ha with⟨i,t,rfl,rfl⟩|⟨x,t,rfl,rfl⟩
  · rcases z0Y hb with⟨j,u,rfl,e⟩|⟨y,u,rfl,e⟩
    · injection e with e1 _;rw[e1]
    · exact nomatch e
  · rcases z0Y hb with⟨j,u,rfl,e⟩|⟨y,u,rfl,e⟩
    · exact nomatch e
    · injection e with e1 _;rw[e1]
 byValue:=fun k v h=>by
  rcases z0Y h with⟨i,t,rfl,rfl⟩|⟨x,t,rfl,rfl⟩<;>rfl
 pyHash:=fun hv h=>by
  rcases z0Y hv with⟨i,t,rfl,rfl⟩|⟨x,t,rfl,rfl⟩
  · exact wpAny_pyHash_int h
  · exact wpAny_pyHash_str h
 eqBool:=fun hu hv h=>by
  rcases z0Y hu with⟨i,t,rfl,rfl⟩|⟨x,t,rfl,rfl⟩
  · rcases z0Y hv with⟨j,u,rfl,rfl⟩|⟨y,u,rfl,rfl⟩
    · rw[key_ll]at h;exact wpAny_eqBool_int h
    · rw[key_lr]at h;exact SeqAt.EqAt.int_str i t y u _ _ _ _ h
  · rcases z0Y hv with⟨j,u,rfl,rfl⟩|⟨y,u,rfl,rfl⟩
    · rw[key_rl]at h;exact SeqAt.EqAt.str_int x t j u _ _ _ _ h
    · rw[key_rr]at h;exact wpAny_eqBool_str h
 «strs»:=fun k x t v h=>by
  rcases z0Y h with⟨i,u,rfl,e⟩|⟨y,u,rfl,e⟩
  · exact nomatch e
  · injection e with e1 _
    subst e1
    cases v<;>rfl
end L2
namespace L2
open PySem PySem.Spec PyProof.Rows
inductive V where
 | non|bl (b:Bool)|int (i:Int)|str (x:Str)|byt (b:Array UInt8)|flt (b:UInt64)|ref (a:Addr)|ty (n:String)
 deriving DecidableEq
def RelV:V→Value→Prop
 | .non,u=>u=Value.none
 | .bl b,u=>u=Value.bool b
 | .int i,u=>∃ t,u=Value.int i t
 | .str x,u=>∃ t,u=Value.str x t
 | .byt b,u=>∃ t,u=Value.bytes b t
 | .flt b,u=>∃ t,u=Value.float b t
 | .ref a,u=>u=Value.ref a
 | .ty n,u=>u=Value.type n
abbrev Vals:List V→List Value→Prop:=Paired RelV
theorem Vals.length{xs:List V}{us:List Value}(r:Vals xs us):xs.length=us.length:=Paired.length r
theorem Vals.get:∀{xs:List V} {us:List Value} {i:Nat} {x:V},Vals xs us→xs[i]?=some x→∃ u,us[i]?=some u∧RelV x u
 | _,_,_,_,.nil,e=>by simp at e
 | _,_,0,_,.cons r _,e=>by simp at e;subst e;exact⟨_,rfl,r⟩
 | _,_,i+1,x,.cons _ t,e=>by
  obtain⟨u,h1,h2⟩:=Vals.get (i:=i) (x:=x) t (by simpa using e)
  exact⟨u,by simpa using h1,h2⟩
theorem Vals.set{x:V}{u:Value}(r:RelV x u):∀{xs:List V} {us:List Value} (i:Nat),Vals xs us→Vals (xs.set i x) (us.set i u)
 | _,_,_,.nil => .nil
 | _,_,0,.cons _ t => .cons r t
 | _,_,i+1,.cons q t => .cons q (Vals.set r i t)
theorem Vals.append:∀{xs ys:List V} {us ws:List Value},Vals xs us→Vals ys ws→Vals (xs++ys) (us++ws)
 | _,_,_,_,.nil,s=>s
 | _,_,_,_,.cons r t,s => .cons r (Vals.append t s)
theorem Vals.take:∀{xs:List V} {us:List Value} (n:Nat),Vals xs us→Vals (xs.take n) (us.take n)
 | _,_,0,_ => .nil
 | _,_,_+1,.nil => .nil
 | _,_,n+1,.cons r t => .cons r (Vals.take n t)
theorem Vals.drop:∀{xs:List V} {us:List Value} (n:Nat),Vals xs us→Vals (xs.drop n) (us.drop n)
 | _,_,0,r=>r
 | _,_,_+1,.nil => .nil
 | _,_,n+1,.cons _ t=>Vals.drop n t
theorem Vals.none_of:∀{xs:List V} {us:List Value} {i:Nat},Vals xs us→xs[i]?=none→us[i]?=none:=fun{xs us i} r e=>by
 have h1:=r.length
 have h2:xs.length≤i:=List.getElem?_eq_none_iff.mp e
 exact List.getElem?_eq_none_iff.mpr (by omega)
def RelO:Option V→Option Value→Prop
 | some v,some u=>RelV v u
 | none,none=>True
 | _,_=>False
def KV{κ:Type}:List (κ×V)→List (κ×Value)→Prop:=Paired fun(p:κ×V) (q:κ×Value)=>p.1=q.1∧RelV p.2 q.2
def kV:Key→V
 | .inl i => .int i
 | .inr x => .str x
inductive HO where
 | lst (xs:List V)
 | tup (xs:List V)
 | dK (kvs:List (Key×V))|dT (kvs:List (List Key×V))
 | set (S:Int→Bool) (n:Nat)
 | ins (C dx:Addr) (fs:List (Str×V))
 | own (x:Addr)
 | xd (fs:List (Str×V))
 | met (f x:Addr)
 | rng (lo hi:Int)
 | frz (o:Obj) (u:HO)
 | tbl (ps:Array Value)
 | ext (φ:Heap→Prop)
abbrev Hp:=Addr→Option HO
def upd(H:Hp)(a:Addr)(o:HO):Hp:=fun b=>if b=a then some o else H b
theorem z0S{H:Hp}{a:Addr}{o:HO}:upd H a o a=some o:=by unfold upd;rw[if_pos rfl]
theorem z0u{H:Hp}{a b:Addr}{o:HO}(h:b≠a):upd H a o b=H b:=by unfold upd;rw[if_neg h]
theorem z23{H:Hp}{a b:Addr}{o:HO}(h:H a=some o)(h':H b=none):a≠b:=by
 intro e;subst e;rw[h]at h';cases h'
section
variable (P:Program)(w:World)
def ObjOk(H:Hp)(h:Heap)(a:Addr):HO→Prop
 | .lst xs=>xs.length≤sizeLine∧∃(its:List Value) (n:Nat),Vals xs its∧h.get? a=some { cls := .type "list",data := .seq its.toArray n }
 | .tup xs=>xs.length≤sizeLine∧∃ its:List Value,Vals xs its∧IsTup h a its.toArray
 | .dK kvs=>kvs.length≤sizeLine∧(a==sysModules)=false∧∃ vs,KV kvs vs∧h.DictOf (za1 P w) a vs
 | .dT kvs=>kvs.length≤sizeLine∧(a==sysModules)=false∧∃ xs:List (List Key×Addr×Value),
  Paired (fun(p:List Key×V) (q:List Key×Addr×Value)=>p.1=q.1∧H q.2.1=some (.tup (p.1.map kV))∧RelV p.2 q.2.2) kvs xs ∧
  ∃ o es ep,h.get? a=some o∧o.ExactDict∧o.data = .dict es ep∧es.toList=xs.map (entryOfKey (tupleKind (za1 P w)))∧(xs.map (·.1)).Nodup
 | .set S n=>h.SetOf (intKind P w) a S n
 | .ins C dx fs=>H dx=some (.own a)∧fs.length≤1000∧dx≠a∧h.get? a=some (PySem.W.instObj C dx) ∧
  ∃ mA,h.Ns1 dx mA∧(∀ f,RelO (fs.lookup f) (mA f))∧PySem.Within mA (fs.map (·.1))
 | .own _=>∃ o,h.get? a=some o
 | .xd fs=>∃ mA,h.Ns1 a mA∧∀ f,RelO (fs.lookup f) (mA f)
 | .rng lo hi=>∃ t u v,h.get? a=some { cls := .type "range",data := .fields #[.int lo t,.int hi u,.int 1 v] }
 | .frz o u=>h.get? a=some o∧ObjOk H h a u
 | .tbl ps=>h.get? a=some { cls := .none,data := .fields ps }
 | .met f x=>h.get? a=some (PySem.W.methodObj (.ref f) (.ref x))
 | .ext φ=>φ h∧(∃ o,h.get? a=some o)∧∀ h1 h2:Heap,φ h1→(∀ o,h1.get? a=some o→h2.get? a=some o)→φ h2
def HOk(H:Hp)(h:Heap):Prop:=∀ a o,H a=some o→ObjOk P w H h a o
end
section
variable {P:Program}{w:World}{H H':Hp}{h h':Heap}{a:Addr}{o:HO}
theorem ObjOk.lt(x:ObjOk P w H h a o):a<h.objs.size:=by
 cases o with
 | lst xs=>obtain⟨_,_,_,_,e⟩:=x;exact Heap.lt_size e
 | tup xs=>obtain⟨_,_,_,p⟩:=x;exact p.lt
 | dK kvs=>obtain⟨_,_,_,_,o,_,_,e,_⟩:=x;exact Heap.lt_size e
 | dT kvs=>obtain⟨_,_,_,_,o,_,_,e,_⟩:=x;exact Heap.lt_size e
 | set S n=>obtain⟨o,_,_,_,e,_⟩:=x;exact Heap.lt_size e
 | ins C dx fs=>obtain⟨_,_,_,e,_⟩:=x;exact Heap.lt_size e
 | own y=>obtain⟨_,e⟩:=x;exact Heap.lt_size e
 | xd fs=>obtain⟨_,⟨_,_,_,e,_⟩,_⟩:=x;exact Heap.lt_size e
 | rng lo hi=>obtain⟨_,_,_,e⟩:=x;exact Heap.lt_size e
 | frz ob u=>obtain⟨e,_⟩:=x;exact Heap.lt_size e
 | tbl ps=>exact Heap.lt_size (show h.get? a=some _ from x)
 | met f y=>exact Heap.lt_size (show h.get? a=some _ from x)
 | ext φ=>obtain⟨_,⟨_,e⟩,_⟩:=x;exact Heap.lt_size e
theorem Paired.mapP{α β:Type}{F G:α→β→Prop}:∀{l₁:List α} {l₂:List β},Paired F l₁ l₂→(∀ a b,F a b→G a b)→Paired G l₁ l₂
 | _,_,.nil,_ => .nil
 | _,_,.cons r t,f => .cons (f _ _ r) (Paired.mapP t f)
theorem ObjOk.stay(x:ObjOk P w H h a o)(k:∀ b u,(b=a∨H b=some (.own a))→h.get? b=some u→h'.get? b=some u)
  (ho:∀ b,H b=some (.own a)→H' b=some (.own a)) (ht:∀ b xs,H b=some (.tup xs)→H' b=some (.tup xs)):ObjOk P w H' h' a o:=by
 induction o with
 | lst xs=>obtain⟨z,its,n,r,e⟩:=x;exact⟨z,its,n,r,k _ _ (.inl rfl) e⟩
 | tup xs=>obtain⟨z,its,r,ob,e,c⟩:=x;exact⟨z,its,r,ob,k _ _ (.inl rfl) e,c⟩
 | dK kvs=>obtain⟨z,y,vs,r,ob,es,ep,e,c⟩:=x;exact⟨z,y,vs,r,ob,es,ep,k _ _ (.inl rfl) e,c⟩
 | dT kvs =>
  obtain⟨z,y,xs,r,ob,es,ep,e,c⟩:=x
  exact⟨z,y,xs,Paired.mapP r fun p q z=>⟨z.1,ht _ _ z.2.1,z.2.2⟩,ob,es,ep,k _ _ (.inl rfl) e,c⟩
 | set S n=>obtain⟨ob,es,ep,t,e,c⟩:=x;exact⟨ob,es,ep,t,k _ _ (.inl rfl) e,c⟩
 | ins C dx fs =>
  obtain⟨d,z,ne,e,mA,⟨od,es,ep,e2,c⟩,r⟩:=x
  exact⟨ho _ d,z,ne,k _ _ (.inl rfl) e,mA,⟨od,es,ep,k _ _ (.inr d) e2,c⟩,r⟩
 | own y=>obtain⟨ob,e⟩:=x;exact⟨ob,k _ _ (.inl rfl) e⟩
 | xd fs=>obtain⟨mA,⟨od,es,ep,e,c⟩,r⟩:=x;exact⟨mA,⟨od,es,ep,k _ _ (.inl rfl) e,c⟩,r⟩
 | rng lo hi=>obtain⟨t,u,v,e⟩:=x;exact⟨t,u,v,k _ _ (.inl rfl) e⟩
 | frz ob u ih=>obtain⟨e,q⟩:=x;exact⟨k _ _ (.inl rfl) e,ih q⟩
 | tbl ps =>
  have e:h.get? a=some { cls := .none,data := .fields ps }:=x
  show h'.get? a=some { cls := .none,data := .fields ps }
  exact k a _ (.inl rfl) e
 | met f y =>
  have e:h.get? a=some (PySem.W.methodObj (.ref f) (.ref y)):=x
  show h'.get? a=some (PySem.W.methodObj (.ref f) (.ref y))
  exact k a _ (.inl rfl) e
 | ext φ=>obtain⟨p,⟨o,e⟩,st⟩:=x;exact⟨st _ _ p fun o q=>k _ _ (.inl rfl) q,⟨o,k _ _ (.inl rfl) e⟩,st⟩
theorem HOk.lt(x:HOk P w H h)(e:H a=some o):a<h.objs.size:=(x a o e).lt
theorem HOk.fresh(x:HOk P w H h)(e:h.objs.size≤a):H a=none:=by
 cases q:H a with
 | none=>rfl
 | some u=>exact absurd (Nat.lt_of_lt_of_le (x.lt q) e) (Nat.lt_irrefl _)
theorem HOk.kept(x:HOk P w H h)(k:∀ b u,h.get? b=some u→h'.get? b=some u):HOk P w H h':=fun a o e =>
 (x a o e).stay (fun b u _ q=>k b u q) (fun _ q=>q) fun _ _ q=>q
theorem HOk.laid(x:HOk P w H h)(k:∀ b u,h.get? b=some u→h'.get? b=some u)(hp:h.objs.size≤a)(new:ObjOk P w (upd H a o) h' a o):HOk P w (upd H a o) h':=fun b u e=>by
 have hn:=x.fresh hp
 by_cases hb:b=a
 · subst hb;rw[z0S]at e;cases e;exact new
 · rw[z0u hb]at e
   exact(x b u e).stay (fun c v _ q=>k c v q) (fun c q=>by rw[z0u (z23 q hn)];exact q) fun c xs q=>by rw[z0u (z23 q hn)];exact q
end
def Rd(H:Hp)(a:Addr)(u:HO):Prop:=H a=some u∨∃ o,H a=some (.frz o u)
theorem Rd.of{H:Hp}{a:Addr}{u:HO}(h:H a=some u):Rd H a u := .inl h
theorem Rd.ok{P:Program}{w:World}{H:Hp}{h:Heap}{a:Addr}{u:HO}(r:Rd H a u)(x:HOk P w H h):ObjOk P w H h a u:=by
 rcases r with r|⟨o,r⟩
 · exact x a u r
 · obtain⟨_,q⟩:=x a _ r
   exact q
def Mut:Option HO→Prop
 | some (.lst _)=>True
 | some (.dK _)=>True
 | some (.dT _)=>True
 | some (.set _ _)=>True
 | some (.ins _ _ _)=>True
 | some (.ext _)=>True
 | _=>False
section
variable {P:Program}{w:World}{H:Hp}{h h':Heap}{x e:Addr}{o':HO}
theorem HOk.write(ok:HOk P w H h)(mu:Mut (H x))(he:e=x∨H e=some (.own x))(k:∀ b u,b≠e→h.get? b=some u→h'.get? b=some u)(heo:∃ u,h'.get? e=some u)
   (new:ObjOk P w (upd H x o') h' x o'):HOk P w (upd H x o') h':=fun b u q=>by
 have nown:∀ c y,H c=some (.own y)→c≠x:=fun c y r z=>by subst z;rw[r]at mu;exact mu
 have ntup:∀ c xs,H c=some (.tup xs)→c≠x:=fun c xs r z=>by subst z;rw[r]at mu;exact mu
 by_cases hb:b=x
 · subst hb;rw[z0S]at q;cases q;exact new
 · rw[z0u hb]at q
   by_cases hbe:b=e
   · have q':H b=some (.own x):=by
       rcases he with z|z
       · exact absurd (hbe.trans z) hb
       · rw[hbe];exact z
     rw[q]at q';cases q'
     obtain⟨v,hv⟩:=heo
     exact⟨v,by rw[hbe];exact hv⟩
   · refine(ok b u q).stay (fun c v hc r=>k c v ?_ r) (fun c r=>by rw[z0u (nown c b r)];exact r) fun c xs r=>by rw[z0u (ntup c xs r)];exact r
     rcases hc with rfl|hc
     · exact hbe
     · rintro rfl
       rcases he with z|z
       · exact nown c b hc z
       · rw[hc]at z;cases z;exact hb rfl
end
structure Un(fs ex:List Addr)(H H':Hp)(h h':Heap):Prop where
 keep:∀ b o,h.get? b=some o→H b=none→b ∉ fs→b ∉ ex→h'.get? b=some o
 slot:∀ b o,h.get? b=some o→H b=none→b∈fs→b ∉ ex→∃ sl,h'.get? b=some { o with slots:=sl }
 free:∀ b o,h.get? b=some o→H b=none→b ∉ ex→H' b=none
 there:∀ b o,h.get? b=some o→b ∉ ex→∃ o',h'.get? b=some o'
 tups:∀ b xs,H b=some (.tup xs)→H' b=some (.tup xs)
 frzs:∀ b o u,H b=some (.frz o u)→H' b=some (.frz o u)
 tbls:∀ b ps,H b=some (.tbl ps)→∃ more,H' b=some (.tbl (ps++more))
section
variable {fs fs' ex ex':List Addr}{H H1 H2:Hp}{h h1 h2 h':Heap}{a x e:Addr}{o:HO}
theorem Un.any(u:Un fs ex H H1 h h1){b:Addr}{ob:Obj}(q:h.get? b=some ob)(n:H b=none)(hx:b ∉ ex):∃ sl,h1.get? b=some { ob with slots:=sl }:=by
 by_cases hb:b∈fs
 · exact u.slot b ob q n hb hx
 · exact⟨ob.slots,u.keep b ob q n hb hx⟩
theorem Un.trans(a:Un fs ex H H1 h h1)(b:Un fs ex H1 H2 h1 h2):Un fs ex H H2 h h2 where
 keep:=fun c ob q n hc hx=>b.keep c ob (a.keep c ob q n hc hx) (a.free c ob q n hx) hc hx
 slot:=fun c ob q n hc hx=>by
  obtain⟨sl,e1⟩:=a.slot c ob q n hc hx
  obtain⟨sl',e2⟩:=b.slot c _ e1 (a.free c ob q n hx) hc hx
  exact⟨sl',e2⟩
 free:=fun c ob q n hx=>by
  obtain⟨o',e1⟩:=a.there c ob q hx
  exact b.free c o' e1 (a.free c ob q n hx) hx
 there:=fun c ob q hx=>by
  obtain⟨o',e1⟩:=a.there c ob q hx
  exact b.there c o' e1 hx
 tups:=fun c xs q=>b.tups c xs (a.tups c xs q)
 frzs:=fun c ob xs q=>b.frzs c ob xs (a.frzs c ob xs q)
 tbls:=fun c ps q=>by
  obtain⟨m1,e1⟩:=a.tbls c ps q
  obtain⟨m2,e2⟩:=b.tbls c _ e1
  exact⟨m1++m2,by rw[e2,Array.append_assoc]⟩
theorem Un.kept(k:∀ b u,h.get? b=some u→h'.get? b=some u):Un fs ex H H h h' :=
 ⟨fun b ob q _ _ _=>k b ob q,fun b ob q _ _ _=>⟨ob.slots,k b ob q⟩,fun _ _ _ n _=>n,fun b ob q _=>⟨ob,k b ob q⟩,fun _ _ q=>q,fun _ _ _ q=>q,fun _ ps q=>⟨#[],by rw[q];simp⟩⟩
theorem Un.refl:Un fs ex H H h h:=Un.kept fun _ _ q=>q
theorem Un.laid(k:∀ b u,h.get? b=some u→h'.get? b=some u)(hp:h.objs.size≤a)(hn:H a=none):Un fs ex H (upd H a o) h h' where
 keep:=fun b u q _ _ _=>k b u q
 slot:=fun b u q _ _ _=>⟨u.slots,k b u q⟩
 free:=fun b u q n _=>by rw[z0u (Nat.ne_of_lt (Nat.lt_of_lt_of_le (Heap.lt_size q) hp))];exact n
 there:=fun b u q _=>⟨u,k b u q⟩
 tups:=fun b xs q=>by rw[z0u (z23 q hn)];exact q
 frzs:=fun b u xs q=>by rw[z0u (z23 q hn)];exact q
 tbls:=fun b ps q=>⟨#[],by rw[z0u (z23 q hn),q];simp⟩
theorem Un.write(mu:Mut (H x))(he:e=x∨H e=some (.own x))(k:∀ b u,b≠e→h.get? b=some u→h'.get? b=some u)(heo:∃ u,h'.get? e=some u):Un fs ex H (upd H x o) h h':=by
 have hx:∀ b,H b=none→b≠x:=fun b n z=>by subst z;rw[n]at mu;exact mu
 have hb:∀ b,H b=none→b≠e:=fun b n z=>by
   subst z
   rcases he with r|r
   · exact hx b n r
   · rw[n]at r;cases r
 have hm:∀ b u,H b=some u→¬Mut (some u)→b≠x:=fun b u q nm z=>by subst z;rw[q]at mu;exact nm mu
 refine⟨fun b u q n _ _=>k b u (hb b n) q,fun b u q n _ _=>⟨u.slots,k b u (hb b n) q⟩,fun b u q n _=>by rw[z0u (hx b n)];exact n,fun b u q _=>?_,
   fun b xs q=>by rw[z0u (hm b _ q fun z=>z)];exact q,fun b u xs q=>by rw[z0u (hm b _ q fun z=>z)];exact q,fun b ps q=>⟨#[],by rw[z0u (hm b _ q fun z=>z),q];simp⟩⟩
 by_cases hbe:b=e
 · subst hbe;exact heo
 · exact⟨u,k b u hbe q⟩
theorem Un.mono(u:Un fs ex H H1 h h1)(hs:∀ b∈fs,b∈fs')(hx:∀ b∈ex,b∈ex'):Un fs' ex' H H1 h h1 :=
 ⟨fun b ob q n hb he=>u.keep b ob q n (fun z=>hb (hs b z)) fun z=>he (hx b z),fun _ _ q n _ he=>u.any q n fun z=>he (hx _ z),fun b ob q n he=>u.free b ob q n fun z=>he (hx b z),fun b ob q he=>u.there b ob q fun z=>he (hx b z),u.tups,u.frzs,u.tbls⟩
end
def trk(h:Heap)(H:Hp):List Addr:=(List.range h.objs.size).filter fun a=>(H a).isSome
def hidT(h:Heap)(H:Hp):Heap:=PySem.W.hideAll h (trk h H)
theorem zgn(h:Heap)(H:Hp):(hidT h H).objs.size=h.objs.size:=PySem.W.hideAll_size _ _
theorem zh9{h:Heap}{H:Hp}{b:Addr}{o:Obj}(e:h.get? b=some o)(n:H b=none):(hidT h H).get? b=some o :=
 PySem.W.hideAll_get _ e fun hm=>by
  have q:(H b).isSome=true:=(List.mem_filter.mp hm).2
  rw[n]at q;simp at q
theorem zkC{h:Heap}{H:Hp}{b:Addr}{o:Obj}(e:(hidT h H).get? b=some o):h.get? b=some o∧H b=none:=by
 have e':h.get? b=some o:=PySem.W.of_hideAll (trk h H) e
 refine⟨e',?_⟩
 cases q:H b with
 | none=>rfl
 | some x =>
  have hm:b∈trk h H:=List.mem_filter.mpr ⟨List.mem_range.mpr (Heap.lt_size e'),by simp[q]⟩
  have z:(hidT h H).get? b=none:=PySem.W.hideAll_none (trk h H) hm
  rw[z]at e;cases e
def zkD(g h:Heap)(L:Addr):List (Addr×Obj):=(List.range h.objs.size).filterMap fun a=>if a=L∨(g.get? a).isSome=true then none else(h.get? a).map fun o=>(a,o)
def rest(g h:Heap)(L d:Addr):List (Addr×Obj):=(zkD g h L).filter fun p=>decide (p.1≠d)
end L2
namespace L2
open PySem PySem.Spec PyProof.Rows
structure Mod(K:PySem.W.Frag)(mg:Str→Option Value)(base:Heap):Prop where
 kin:K.In base
 glob:base.Ns mainGlobals mg
 blt:∃ mb,base.Ns builtinsNs mb∧∀ x:Str,x ≠ "__name__" → mb x=bootBuiltins x
 nolimit:base.NoLimit
structure Cx where
 prog:Program
 w:World
 K:PySem.W.Frag
 mg:Str→Option Value
 base:Heap
 A:Around
 N:List Str
 s₀:Shared
 H₀:Hp
 env:Env
 outer:List Env
 stack:List Env
 ex:List Addr
 fn:Str→Bool
 calm:Bool
 pn:List (Addr×Obj)
 xe:Value→Shared→Prop
def frs(l:List Env):List Addr:=l.filterMap (·.frame)
abbrev Cx.fs(X:Cx):List Addr:=frs X.outer
def Vis(sc:Scope)(x:Str):Prop:=sc.names.lookup x=some .local∨sc.names.lookup x=some .cell∨sc.names.lookup x=some .free
def Loc(sc:Scope)(x:Str):Prop:=sc.names.lookup x=some .local∨sc.names.lookup x=some .cell
def Look(env:Env)(h:Heap)(m:Str→Option Value)(x:Str)(u:Value):Prop :=
 (env.kindOf x=some .local∧m x=some u)∨((env.kindOf x=some .cell∨env.kindOf x=some .free)∧∃ c,env.cells.lookup x=some c∧h.IsCell c (some u))
structure Cx.Ok(X:Cx):Prop where
 mod:Mod X.K X.mg X.base
 kind:X.env.scope.kind = .function
 glob:X.env.globals=mainGlobals
 blt:X.env.builtins=builtinsNs
 above:X.s₀.heap.objs.size≤X.env.locals
 inj:∀ x y c,X.env.cells.lookup x=some c→X.env.cells.lookup y=some c→x=y
 has:∀ x,(X.env.kindOf x=some .cell∨X.env.kindOf x=some .free)→∃ c,X.env.cells.lookup x=some c
 cab:∀ x c,X.fn x=true→X.env.cells.lookup x=some c→X.s₀.heap.objs.size≤c
 hd:X.calm=true→X.A.handled=none
 frames:X.A.frames=some X.stack
 stk:X.stack=X.outer∨(X.stack=X.env::X.outer∧X.env.frame=some X.env.locals)
 exf:∀ b∈X.ex,b≠X.env.locals∧∀ x c,X.env.cells.lookup x=some c→c≠b
 bs:∀ b o,X.base.get? b=some o→X.s₀.heap.get? b=some o∧X.H₀ b=none
 bsz:X.base.objs.size≤X.s₀.heap.objs.size
 noex:∀ b o,X.base.get? b=some o→b ∉ X.ex
 exfs:∀ b∈X.ex,b ∉ X.fs
 funs:X.s₀.heap.FunFrames X.base X.outer
 frf:∀ b∈X.fs,X.H₀ b=none
structure Inv(X:Cx)(pins:List (Addr×Obj))(σ:List (Option V))(H:Hp)(s:Shared):Prop where
 ok:X.Ok
 os:s.os=X.s₀.os
 bare:AllBare s.gens
 base:Un X.fs X.ex X.H₀ H X.s₀.heap s.heap
 loc:∃ m,s.heap.Ns X.env.locals m∧∀(i:Nat) (x:Str) (v:V),X.N[i]?=some x→σ[i]?=some (some v)→Vis X.env.scope x→∃ u,RelV v u∧Look X.env s.heap m x u
 cell:∀ x c,X.env.cells.lookup x=some c→∃ v,s.heap.IsCell c v
 free:H X.env.locals=none
 freeC:∀ x c,X.env.cells.lookup x=some c→H c=none
 pin:∀ p∈X.pn++pins,s.heap.get? p.1=some p.2∧H p.1=none∧p.1≠X.env.locals∧p.1 ∉ X.fs∧∀ v,p.2.data ≠ .cell v
 hok:HOk X.prog X.w H s.heap
 len:σ.length=X.N.length
section
variable {X:Cx}{pins:List (Addr×Obj)}{σ:List (Option V)}{H H':Hp}{s:Shared}{h':Heap}
theorem Cx.Ok.nofr(ok:X.Ok){b:Addr}{o:Obj}(e:X.base.get? b=some o):b ∉ X.fs:=fun hb=>by
 have:=(ok.funs.mem hb).1
 rw[e]at this;cases this
theorem Inv.bs(I:Inv X pins σ H s):∀ b o,X.base.get? b=some o→s.heap.get? b=some o∧H b=none:=fun b o e =>
 ⟨I.base.keep b o (I.ok.bs b o e).1 (I.ok.bs b o e).2 (I.ok.nofr e) (I.ok.noex b o e),I.base.free b o (I.ok.bs b o e).1 (I.ok.bs b o e).2 (I.ok.noex b o e)⟩
theorem Inv.bk(I:Inv X pins σ H s):∀ b o,X.base.get? b=some o→s.heap.get? b=some o:=fun b o e=>(I.bs b o e).1
theorem Inv.mod(I:Inv X pins σ H s):Mod X.K X.mg X.base:=I.ok.mod
theorem Inv.kIn(I:Inv X pins σ H s):X.K.In s.heap:=I.ok.mod.kin.keeps I.bk
theorem Inv.nolimit(I:Inv X pins σ H s):s.heap.NoLimit:=I.ok.mod.nolimit.keeps I.bk
theorem Inv.fr(I:Inv X pins σ H s):∃ m,Fr X.base X.env.locals s.heap m :=
 let ⟨m,hn,_⟩:=I.loc
 ⟨m,hn,I.bk,Nat.le_trans I.ok.bsz I.ok.above⟩
theorem Inv.lt(I:Inv X pins σ H s):X.env.locals<s.heap.objs.size:=let ⟨_,hn,_⟩:=I.loc;hn.lt
theorem Inv.sz(I:Inv X pins σ H s):X.s₀.heap.objs.size≤s.heap.objs.size:=Nat.le_trans I.ok.above (Nat.le_of_lt I.lt)
theorem Inv.nofs(I:Inv X pins σ H s){a:Addr}(h:s.heap.objs.size≤a):a ∉ X.fs:=fun hb=>by
 obtain⟨_,o,ho,_⟩:=I.ok.funs.mem hb
 exact absurd (Nat.lt_of_lt_of_le (Heap.lt_size ho) (Nat.le_trans I.sz h)) (Nat.lt_irrefl _)
theorem Inv.cne(I:Inv X pins σ H s):∀ x c,X.env.cells.lookup x=some c→c≠X.env.locals:=fun x c e z=>by
 obtain⟨v,o,ho,hd⟩:=I.cell x c e
 obtain⟨m,⟨o',es,ep,ho',hd',_⟩,_⟩:=I.loc
 rw[z,ho']at ho;cases ho;rw[hd']at hd;cases hd
theorem Inv.funs(I:Inv X pins σ H s):s.heap.FunFrames X.base X.outer:=by
 have all:∀(l:List Env),(∀ b∈frs l,b∈X.fs)→X.s₀.heap.FunFrames X.base l→s.heap.FunFrames X.base l:=by
  intro l
  induction l with
  | nil=>intro _ _;trivial
  | cons env r ih =>
   intro hs hl
   obtain⟨hk,⟨L,o,hf,hn,ho,hd⟩,hr⟩:=hl
   have hL:L∈X.fs:=hs L (by unfold frs;rw[List.filterMap_cons,hf];exact List.mem_cons_self)
   obtain⟨sl,e⟩:=I.base.slot L o ho (I.ok.frf L hL) hL fun z=>I.ok.exfs L z hL
   exact⟨hk,⟨L,_,hf,hn,e,hd⟩,ih (fun b hb=>hs b (by unfold frs;rw[List.filterMap_cons,hf];exact List.mem_cons_of_mem _ hb)) hr⟩
 exact all X.outer (fun _ hb=>hb) I.ok.funs
theorem Inv.stack(I:Inv X pins σ H s):s.heap.FunFrames X.base X.stack:=by
 rcases I.ok.stk with e|⟨e,hf⟩
 · rw[e];exact I.funs
 · rw[e]
   obtain⟨m,hn,_⟩:=I.loc
   refine .cons (by rw[I.ok.kind];decide) hf hn ?_ I.funs
   exact Heap.get?_none_of_le (Nat.le_trans I.ok.bsz I.ok.above)
theorem Inv.stkSub(I:Inv X pins σ H s):∀ b∈frs X.stack,b∈X.env.locals::X.fs:=fun b hb=>by
 rcases I.ok.stk with e|⟨e,hf⟩
 · rw[e]at hb;exact List.mem_cons_of_mem _ hb
 · rw[e]at hb
   unfold frs at hb
   rw[List.filterMap_cons,hf]at hb
   exact hb
theorem Inv.stkFree(I:Inv X pins σ H s):∀ b∈frs X.stack,H b=none:=fun b hb=>by
 rcases List.mem_cons.mp (I.stkSub b hb)with e|hb
 · rw[e];exact I.free
 · obtain⟨_,o,ho,_⟩:=I.ok.funs.mem hb
   exact I.base.free b o ho (I.ok.frf b hb) fun z=>I.ok.exfs b z hb
theorem Inv.step{g':Array GenState}{t':Nat}{d':Drawn}{ch:List Addr}(I:Inv X pins σ H s)
   (hch:∀ b∈ch,(b∈X.ex∨X.s₀.heap.objs.size≤b)∧b≠X.env.locals∧(∀ x c,X.env.cells.lookup x=some c→c≠b)∧∀ p∈X.pn++pins,p.1≠b)
   (keep:∀ b o,b≠X.env.locals→b ∉ X.fs→b ∉ ch→s.heap.get? b=some o→H b=none→h'.get? b=some o)
   (slot:∀ b o,b≠X.env.locals→b∈X.fs→b ∉ ch→s.heap.get? b=some o→H b=none→∃ sl,h'.get? b=some { o with slots:=sl }) (free:∀ b o,b ∉ ch→s.heap.get? b=some o→H b=none→H' b=none)
   (there:∀ b o,b ∉ ch→s.heap.get? b=some o→∃ o',h'.get? b=some o')
   (tups:∀ b xs,H b=some (.tup xs)→H' b=some (.tup xs)) (frzs:∀ b o u,H b=some (.frz o u)→H' b=some (.frz o u)) (tbls:∀ b ps,H b=some (.tbl ps)→∃ more,H' b=some (.tbl (ps++more)))
   (ns:∀ m,s.heap.Ns X.env.locals m→h'.Ns X.env.locals m) (hok:HOk X.prog X.w H' h') (hg:AllBare g') :
   Inv X pins σ H' { s with heap:=h',gens:=g',drawn:=d',toks:=t' }:=by
 have neL:∀ b o,X.s₀.heap.get? b=some o→b≠X.env.locals:=fun b o e=>Nat.ne_of_lt (Nat.lt_of_lt_of_le (Heap.lt_size e) I.ok.above)
 have neC:∀ b o,X.s₀.heap.get? b=some o→b ∉ X.ex→b ∉ ch:=fun b o e hx hb=>by
   rcases(hch b hb).1 with z|z
   · exact hx z
   · exact absurd (Nat.lt_of_lt_of_le (Heap.lt_size e) z) (Nat.lt_irrefl _)
 have cellK:∀ x c,X.env.cells.lookup x=some c→∀ v,s.heap.IsCell c v→h'.IsCell c v:=fun x c e v hZ=>hZ.elim fun o hZ=>hZ.elim fun ho hd=>by
   have nch:c ∉ ch:=fun z=>(hch c z).2.2.1 x c e rfl
   by_cases hc:c∈X.fs
   · obtain⟨sl,q⟩:=slot c o (I.cne x c e) hc nch ho (I.freeC x c e)
     exact⟨_,q,hd⟩
   · exact⟨o,keep c o (I.cne x c e) hc nch ho (I.freeC x c e),hd⟩
 refine⟨I.ok,I.os,hg,⟨fun b o e n hb hx=>?_,fun b o e n hb hx=>?_,fun b o e n hx=>?_,fun b o e hx=>?_,fun b xs e=>tups b xs (I.base.tups b xs e),fun b o xs e=>frzs b o xs (I.base.frzs b o xs e),fun b ps e=>?_⟩,?_,fun x c e=>?_,?_,fun x c e=>?_,fun p hp=>?_,hok,I.len⟩
 · exact keep b o (neL b o e) hb (neC b o e hx) (I.base.keep b o e n hb hx) (I.base.free b o e n hx)
 · obtain⟨sl,e1⟩:=I.base.slot b o e n hb hx
   obtain⟨sl',e2⟩:=slot b _ (neL b o e) hb (neC b o e hx) e1 (I.base.free b o e n hx)
   exact⟨sl',e2⟩
 · obtain⟨o',e1⟩:=I.base.there b o e hx
   exact free b o' (neC b o e hx) e1 (I.base.free b o e n hx)
 · obtain⟨o',e1⟩:=I.base.there b o e hx
   exact there b o' (neC b o e hx) e1
 · obtain⟨m1,e1⟩:=I.base.tbls b ps e
   obtain⟨m2,e2⟩:=tbls b _ e1
   exact⟨m1++m2,by rw[e2,Array.append_assoc]⟩
 · obtain⟨m,hn,hl⟩:=I.loc
   refine⟨m,ns m hn,fun i x v e1 e2 e3=>?_⟩
   obtain⟨u,r,l⟩:=hl i x v e1 e2 e3
   refine⟨u,r,?_⟩
   rcases l with l|⟨k,c,e,z⟩
   · exact .inl l
   · exact .inr ⟨k,c,e,cellK x c e _ z⟩
 · obtain⟨v,z⟩:=I.cell x c e
   exact⟨v,cellK x c e v z⟩
 · obtain⟨m,⟨o,_,_,ho,_⟩,_⟩:=I.loc
   exact free _ o (fun z=>(hch _ z).2.1 rfl) ho I.free
 · obtain⟨v,o,ho,hd⟩:=I.cell x c e
   exact free c o (fun z=>(hch c z).2.2.1 x c e rfl) ho (I.freeC x c e)
 · obtain⟨e,n,ne,nf,d⟩:=I.pin p hp
   have nch:p.1 ∉ ch:=fun z=>(hch p.1 z).2.2.2 p hp rfl
   exact⟨keep p.1 p.2 ne nf nch e n,free p.1 p.2 nch e n,ne,nf,d⟩
theorem Inv.un{t':Nat}(I:Inv X pins σ H s)(u:Un X.fs [] H H' s.heap h')(hok:HOk X.prog X.w H' h'):Inv X pins σ H' { s with heap:=h',toks:=t' }:=by
 obtain⟨m,⟨o,es,ep,ho,r⟩,_⟩:=id I.loc
 obtain⟨sl,hL⟩:=u.any ho I.free (by simp)
 exact I.step (g':=s.gens) (d':=s.drawn) (ch:=[]) (fun _ z=>nomatch z) (fun b o _ hb _ e n=>u.keep b o e n hb (by simp)) (fun b o _ hb _ e n=>u.slot b o e n hb (by simp)) (fun b o _ e n=>u.free b o e n (by simp)) (fun b o _ e=>u.there b o e (by simp)) u.tups u.frzs u.tbls (fun m' hm=>by
  obtain⟨o',es',ep',ho',r'⟩:=hm
  rw[ho]at ho';cases ho'
  exact⟨_,es',ep',hL,r'⟩) hok I.bare
theorem Inv.call{g':Array GenState}{t':Nat}{d':Drawn}{ch:List Addr}(I:Inv X pins σ H s)(u:Un (frs X.stack) ch H H' s.heap h')(hok:HOk X.prog X.w H' h')(hg:AllBare g')
  (hch:∀ b∈ch,(b∈X.ex∨X.s₀.heap.objs.size≤b)∧b≠X.env.locals∧(∀ x c,X.env.cells.lookup x=some c→c≠b)∧∀ p∈X.pn++pins,p.1≠b) :
  Inv X pins σ H' { s with heap:=h',gens:=g',drawn:=d',toks:=t' }:=by
 obtain⟨m,⟨o,es,ep,ho,r⟩,_⟩:=id I.loc
 obtain⟨sl,hL⟩:=u.any ho I.free fun z=>(hch _ z).2.1 rfl
 exact I.step (ch:=ch) hch (fun b o hL hb hc e n=>u.keep b o e n (fun z=>(List.mem_cons.mp (I.stkSub b z)).elim hL hb) hc) (fun b o _ _ hc e n=>u.any e n hc) (fun b o hc e n=>u.free b o e n hc) (fun b o hc e=>u.there b o e hc) u.tups u.frzs u.tbls (fun m' hm=>by
  obtain⟨o',es',ep',ho',r'⟩:=hm
  rw[ho]at ho';cases ho'
  exact⟨_,es',ep',hL,r'⟩) hok hg
theorem Inv.turned{t':Nat}{it:Addr}(I:Inv X pins σ H s)(k:∀ b o,b≠it→s.heap.get? b=some o→h'.get? b=some o)(hn:H it=none)(hL:it≠X.env.locals)
   (h1:it∈X.ex∨X.s₀.heap.objs.size≤it) (h2:∀ x c,X.env.cells.lookup x=some c→c≠it) (h3:∀ p∈X.pn++pins,p.1≠it):Inv X pins σ H { s with heap:=h',toks:=t' }:=by
 have nit:∀ b u,H b=some u→b≠it:=fun b u e z=>by rw[z,hn]at e;cases e
 refine I.step (g':=s.gens) (d':=s.drawn) (ch:=[it]) (fun b hb=>?_) (fun b o _ _ hc e _=>k b o (fun z=>hc (by simp[z])) e) (fun b o _ _ hc e _=>⟨o.slots,k b o (fun z=>hc (by simp[z])) e⟩) (fun _ _ _ _ n=>n)
   (fun b o hc e=>⟨o,k b o (fun z=>hc (by simp[z])) e⟩) (fun _ _ e=>e) (fun _ _ _ e=>e) (fun b ps e=>⟨#[],by rw[e];simp⟩) (fun m hm=>?_) (fun b u e=>?_) I.bare
 · have e:b=it:=by simpa using hb
   subst e
   exact⟨h1,hL,h2,h3⟩
 · obtain⟨o,es,ep,ho,r⟩:=hm
   exact⟨o,es,ep,k _ o (Ne.symm hL) ho,r⟩
 · refine(I.hok b u e).stay (fun c v hc q=>k c v ?_ q) (fun _ q=>q) fun _ _ q=>q
   rcases hc with z|z
   · rw[z];exact nit b u e
   · exact nit c _ z
theorem Inv.tok(I:Inv X pins σ H s)(t:Nat):Inv X pins σ H { s with toks:=t }:=I.un (h':=s.heap) (t':=t) Un.refl I.hok
theorem Inv.kept{t':Nat}(I:Inv X pins σ H s)(k:∀ b u,s.heap.get? b=some u→h'.get? b=some u):Inv X pins σ H { s with heap:=h',toks:=t' }:=I.un (Un.kept k) (I.hok.kept k)
theorem Inv.laid{a:Addr}{o:HO}{t':Nat}(I:Inv X pins σ H s)(k:∀ b u,s.heap.get? b=some u→h'.get? b=some u)(hp:s.heap.objs.size≤a)(new:ObjOk X.prog X.w (upd H a o) h' a o):
 Inv X pins σ (upd H a o) { s with heap:=h',toks:=t' }:=I.un (Un.laid k hp (I.hok.fresh hp)) (I.hok.laid k hp new)
theorem Inv.write{x e:Addr}{o:HO}{t':Nat}(I:Inv X pins σ H s)(mu:Mut (H x))(he:e=x∨H e=some (.own x))(k:∀ b u,b≠e→s.heap.get? b=some u→h'.get? b=some u)(heo:∃ u,h'.get? e=some u)
 (new:ObjOk X.prog X.w (upd H x o) h' x o):Inv X pins σ (upd H x o) { s with heap:=h',toks:=t' }:=I.un (Un.write mu he k heo) (I.hok.write mu he k heo new)
theorem Inv.weak{σ':List (Option V)}(I:Inv X pins σ H s)(hl:σ'.length=σ.length)(w:∀(i:Nat) v,σ'[i]?=some (some v)→σ[i]?=some (some v)):Inv X pins σ' H s :=
 ⟨I.ok,I.os,I.bare,I.base,let ⟨m,hn,hl'⟩:=I.loc;⟨m,hn,fun i x v e1 e2 e3=>hl' i x v e1 (w i v e2) e3⟩,I.cell,I.free,I.freeC,I.pin,I.hok,hl.trans I.len⟩
theorem Inv.pins_of{pins':List (Addr×Obj)}(I:Inv X pins σ H s)(h:∀ p∈pins',s.heap.get? p.1=some p.2∧H p.1=none∧p.1≠X.env.locals∧p.1 ∉ X.fs∧∀ v,p.2.data ≠ .cell v):Inv X pins' σ H s :=
 ⟨I.ok,I.os,I.bare,I.base,I.loc,I.cell,I.free,I.freeC,fun p hp=>(List.mem_append.mp hp).elim (fun z=>I.pin p (List.mem_append_left _ z)) (h p),I.hok,I.len⟩
theorem zaL{N:List Str}(hN:N.Nodup){i j:Nat}{x:Str}(a:N[i]?=some x)(b:N[j]?=some x):i=j:=by
 obtain⟨h1,e1⟩:=List.getElem?_eq_some_iff.mp a
 obtain⟨h2,e2⟩:=List.getElem?_eq_some_iff.mp b
 exact(List.getElem_inj hN).mp (e1.trans e2.symm)
theorem z8V{M:Model}{A:Around}{E:Value→Shared→Prop}{i:Nat}{x:Str}{v:V}{u:Value}{Q:Unit→Shared→Prop}(I:Inv X pins σ H s)(hN:X.N.Nodup)(hi:X.N[i]?=some x)(hx:Loc X.env.scope x)(r:RelV v u)
   (h:∀ s',Inv X pins (σ.set i (some v)) H s'→(∃ a,Heap.SameBut a s.heap s'.heap∧(a=X.env.locals∨X.env.cells.lookup x=some a))→Q () s') (hf:X.fn x=true∨X.env.scope.names.lookup x=some .local:=by first|exact .inl rfl|exact .inr rfl|assumption):wpAny M A (storeName X.env x u) Q E s:=by
 obtain⟨m,hn,hl⟩:=id I.loc
 have hcls:(X.env.scope.kind == .class||(X.env.scope.kind == .module&&X.env.locals != X.env.globals))=false:=by rw[I.ok.kind];rfl
 have hiσ:i<σ.length:=by rw[I.len];exact(List.getElem?_eq_some_iff.mp hi).1
 have cne:=I.cne
 have tracked:∀{a:Addr} {h':Heap},(∃ o,s.heap.get? a=some o∧H a=none)→Heap.SameBut a s.heap h'→HOk X.prog X.w H h':=fun{a h'} ha hs b ob e=>by
   obtain⟨_,_,hfree⟩:=ha
   refine(I.hok b ob e).stay (fun c w' hc q=>(hs.2 c ?_).trans q) (fun _ q=>q) fun _ _ q=>q
   rintro rfl
   rcases hc with rfl|hc
   · rw[hfree]at e;cases e
   · rw[hfree]at hc;cases hc
 rcases hx with hk|hk
 · refine wpAny_storeName_local hk hn (fun h' hn' hs=>?_) hcls
   obtain⟨oL,_,_,hoL,_⟩:=id hn
   refine h _ ⟨I.ok,I.os,I.bare,⟨fun b o e n hb hx=>?_,fun b o e n hb hx=>?_,I.base.free,fun b o e hx=>?_,I.base.tups,I.base.frzs,I.base.tbls⟩,⟨_,hn',fun j y v' e1 e2 e3=>?_⟩,fun y c e=>?_,I.free,I.freeC,fun p hp=>?_,tracked ⟨oL,hoL,I.free⟩ hs,by simpa using I.len⟩ ⟨_,hs,.inl rfl⟩
   · exact(hs.2 b (Nat.ne_of_lt (Nat.lt_of_lt_of_le (Heap.lt_size e) I.ok.above))).trans (I.base.keep b o e n hb hx)
   · obtain⟨sl,e1⟩:=I.base.slot b o e n hb hx
     exact⟨sl,(hs.2 b (Nat.ne_of_lt (Nat.lt_of_lt_of_le (Heap.lt_size e) I.ok.above))).trans e1⟩
   · obtain⟨o',e1⟩:=I.base.there b o e hx
     exact⟨o',(hs.2 b (Nat.ne_of_lt (Nat.lt_of_lt_of_le (Heap.lt_size e) I.ok.above))).trans e1⟩
   · by_cases hj:j=i
     · subst hj
       rw[hi]at e1;cases e1
       rw[List.getElem?_set_self hiσ]at e2
       cases e2
       exact⟨u,r,.inl ⟨hk,by simp⟩⟩
     · rw[List.getElem?_set_ne (Ne.symm hj)]at e2
       obtain⟨u',r',q⟩:=hl j y v' e1 e2 e3
       refine⟨u',r',?_⟩
       rcases q with⟨k,e⟩|⟨k,c,e,z⟩
       · refine .inl ⟨k,?_⟩
         have:y≠x:=fun e=>hj (zaL hN e1 (e ▸ hi))
         simp[this,e]
       · exact .inr ⟨k,c,e,z.sameBut hs (cne y c e)⟩
   · obtain⟨w',z⟩:=I.cell y c e
     exact⟨w',z.sameBut hs (cne y c e)⟩
   · obtain⟨e,n,ne,nf,d⟩:=I.pin p hp
     exact⟨(hs.2 p.1 ne).trans e,n,ne,nf,d⟩
 · have hfn:X.fn x=true:=by
     rcases hf with z|z
     · exact z
     · rw[z]at hk;cases hk
   obtain⟨c,hc⟩:=I.ok.has x (.inl hk)
   obtain⟨w',z⟩:=I.cell x c hc
   refine wpAny_storeName_cell I.ok.kind hk hc z (fun h' hc' hs=>?_)
   obtain⟨oc,hoc,hocd⟩:=id z
   refine h { s with heap:=h' } ⟨I.ok,I.os,I.bare,⟨fun b o e n hb hx=>?_,fun b o e n hb hx=>?_,I.base.free,fun b o e hx=>?_,I.base.tups,I.base.frzs,I.base.tbls⟩,⟨m,hn.sameBut hs (Ne.symm (cne x c hc)),fun j y v' e1 e2 e3=>?_⟩,fun y c' e=>?_,I.free,I.freeC,fun p hp=>?_,tracked ⟨oc,hoc,I.freeC x c hc⟩ hs,by simpa using I.len⟩ ⟨c,hs,.inr hc⟩
   · exact(hs.2 b (Nat.ne_of_lt (Nat.lt_of_lt_of_le (Heap.lt_size e) (I.ok.cab x c hfn hc)))).trans (I.base.keep b o e n hb hx)
   · obtain⟨sl,e1⟩:=I.base.slot b o e n hb hx
     exact⟨sl,(hs.2 b (Nat.ne_of_lt (Nat.lt_of_lt_of_le (Heap.lt_size e) (I.ok.cab x c hfn hc)))).trans e1⟩
   · obtain⟨o',e1⟩:=I.base.there b o e hx
     exact⟨o',(hs.2 b (Nat.ne_of_lt (Nat.lt_of_lt_of_le (Heap.lt_size e) (I.ok.cab x c hfn hc)))).trans e1⟩
   · by_cases hj:j=i
     · subst hj
       rw[hi]at e1;cases e1
       rw[List.getElem?_set_self hiσ]at e2
       cases e2
       exact⟨u,r,.inr ⟨.inl hk,c,hc,hc'⟩⟩
     · rw[List.getElem?_set_ne (Ne.symm hj)]at e2
       obtain⟨u',r',q⟩:=hl j y v' e1 e2 e3
       refine⟨u',r',?_⟩
       rcases q with q|⟨k,c',e,z'⟩
       · exact .inl q
       · refine .inr ⟨k,c',e,z'.sameBut hs ?_⟩
         rintro rfl
         exact hj (zaL hN e1 (I.ok.inj _ _ _ e hc ▸ hi))
   · by_cases hcc:c'=c
     · subst hcc;exact⟨_,hc'⟩
     · obtain⟨w2,z2⟩:=I.cell y c' e
       exact⟨w2,z2.sameBut hs hcc⟩
   · obtain⟨e,n,ne,nf,d⟩:=I.pin p hp
     refine⟨(hs.2 p.1 ?_).trans e,n,ne,nf,d⟩
     intro q
     rw[q,hoc]at e
     have q':oc=p.2:=Option.some.inj e
     exact d w' (by rw[←q'];exact hocd)
theorem zaM{M:Model}{A:Around}{E:Value→Shared→Prop}{i:Nat}{x:Str}{v:V}{u:Value}{Q:Unit→Shared→Prop}(I:Inv X pins σ H s)(hN:X.N.Nodup)(hi:X.N[i]?=some x)(hx:Loc X.env.scope x)(r:RelV v u)
  (h:∀ s',Inv X pins (σ.set i (some v)) H s'→Q () s') (hf:X.fn x=true∨X.env.scope.names.lookup x=some .local:=by first|exact .inl rfl|exact .inr rfl|assumption):wpAny M A (storeName X.env x u) Q E s :=
 z8V I hN hi hx r (fun s' I' _=>h s' I') hf
theorem Inv.call'{s':Shared}{ch:List Addr}(I:Inv X pins σ H s)(ho:s'.os=s.os)(u:Un (frs X.stack) ch H H' s.heap s'.heap)(hok:HOk X.prog X.w H' s'.heap)(hg:AllBare s'.gens)
  (hch:∀ b∈ch,(b∈X.ex∨X.s₀.heap.objs.size≤b)∧b≠X.env.locals∧(∀ x c,X.env.cells.lookup x=some c→c≠b)∧∀ p∈X.pn++pins,p.1≠b):Inv X pins σ H' s':=by
 obtain⟨h',g',d',t',o'⟩:=s'
 have e:o'=s.os:=ho
 subst e
 exact I.call (g':=g') (t':=t') (d':=d') u hok hg hch
end
abbrev XK:=Value→Option Addr→Hp→Prop
abbrev St:=List (Option V)
abbrev VK:=V→Hp→Prop
abbrev TE:=St→Hp→VK→Prop
abbrev TT:=St→Hp→(Bool→Hp→Prop)→Prop
abbrev TA:=St→Hp→(List V→Hp→Prop)→Prop
structure Ends where
 nx:St→Hp→Prop
 rt:VK
 bk:St→Hp→Prop:=fun _ _=>False
 ct:St→Hp→Prop:=fun _ _=>False
abbrev TS:=Ends→St→Hp→Prop
def EP(X:Cx)(pins:List (Addr×Obj))(σ:St)(Q:VK)(u:Value)(s':Shared):Prop:=∃ v H',Inv X pins σ H' s'∧RelV v u∧Q v H'
def TP(X:Cx)(pins:List (Addr×Obj))(σ:St)(Q:Bool→Hp→Prop)(b:Bool)(s':Shared):Prop:=∃ H',Inv X pins σ H' s'∧Q b H'
def AP(X:Cx)(pins:List (Addr×Obj))(σ:St)(Q:List V→Hp→Prop)(us:List Value)(s':Shared):Prop:=∃ vs H',Inv X pins σ H' s'∧Vals vs us∧Q vs H'
def SP(X:Cx)(pins:List (Addr×Obj))(D:Ends)(f:Flow)(s':Shared):Prop :=
 match f with
 | .next=>∃ σ' H',Inv X pins σ' H' s'∧D.nx σ' H'
 | .brk=>∃ σ' H',Inv X pins σ' H' s'∧D.bk σ' H'
 | .cont=>∃ σ' H',Inv X pins σ' H' s'∧D.ct σ' H'
 | .ret u=>∃ v σ' H',Inv X pins σ' H' s'∧RelV v u∧D.rt v H'
def PE(X:Cx)(e:Expr)(t:TE):Prop :=
 ∀(pins:List (Addr×Obj)) (s:Shared) (σ:St) (H:Hp) (Q:VK),Inv X pins σ H s→t σ H Q→wpAny (model X.prog X.w) X.A (eval e X.env) (EP X pins σ Q) X.xe s
def PT(X:Cx)(e:Expr)(t:TT):Prop :=
 ∀(pins:List (Addr×Obj)) (s:Shared) (σ:St) (H:Hp) (Q:Bool→Hp→Prop),Inv X pins σ H s→t σ H Q→wpAny (model X.prog X.w) X.A (isTrue e X.env (eval e X.env)) (TP X pins σ Q) X.xe s
def PW(X:Cx)(e:Expr)(t:TT):Prop :=
 ∀(whole:Sem Value) (pins:List (Addr×Obj)) (s:Shared) (σ:St) (H:Hp) (Q:Bool→Hp→Prop),Inv X pins σ H s→t σ H Q→wpAny (model X.prog X.w) X.A (isTrue e X.env whole) (TP X pins σ Q) X.xe s
theorem PW.pt{X:Cx}{e:Expr}{t:TT}(h:PW X e t):PT X e t:=h _
def PA(X:Cx)(es:List Expr)(t:TA):Prop :=
 ∀(pos:Pos) (pins:List (Addr×Obj)) (s:Shared) (σ:St) (H:Hp) (Q:List V→Hp→Prop),Inv X pins σ H s→t σ H Q→wpAny (model X.prog X.w) X.A (spliced (backTo pos (starEach es X.env))) (AP X pins σ Q) X.xe s
def PS(X:Cx)(st:Stmt)(t:TS):Prop :=
 ∀(pins:List (Addr×Obj)) (s:Shared) (σ:St) (H:Hp) (D:Ends),Inv X pins σ H s→t D σ H→wpAny (model X.prog X.w) X.A (exec st X.env) (SP X pins D) X.xe s
def PSs(X:Cx)(st:List Stmt)(t:TS):Prop :=
 ∀(pins:List (Addr×Obj)) (s:Shared) (σ:St) (H:Hp) (D:Ends),Inv X pins σ H s→t D σ H→wpAny (model X.prog X.w) X.A (execs st X.env) (SP X pins D) X.xe s
theorem thn{α:Type}{t:Sem α}{Q Q':α→Shared→Prop}{M:Model}{A:Around}{E:Value→Shared→Prop}{s:Shared}(h:wpAny M A t Q E s)(hQ:∀ a s,Q a s→Q' a s):wpAny M A t Q' E s:=wpAny_mono h hQ fun _ _ x=>x
end L2
namespace L2
open PySem PySem.Spec PyProof.Rows
section
variable {X:Cx}
def tVar(i:Nat):TE:=fun σ H Q=>∃ v,σ[i]?=some (some v)∧Q v H
def tC(v:V):TE:=fun _ H Q=>Q v H
theorem za2{i:Nat}{x:Str}{pos:Pos}(hN:X.N[i]?=some x)(hv:Vis X.env.scope x)(hd:(x==("__debug__" : Str))=false:=by decide)(hcd:(x==("__classdict__" : Str))=false:=by decide):PE X (.Name x pos) (tVar i):=by
 intro pins s σ H Q I h
 obtain⟨v,e,h⟩:=h
 obtain⟨m,hn,hl⟩:=I.loc
 obtain⟨u,r,l⟩:=hl i x v hN e hv
 have fin:EP X pins σ Q u s:=⟨v,H,I,r,h⟩
 rcases l with⟨hk,hm⟩|⟨hk,c,hc,hcell⟩
 · exact wpAny_Name (wpAny_loadName_local I.ok.kind hk hn hm fin) hd
 · rcases hk with hk|hk
   · exact wpAny_Name (wpAny_loadName_cell I.ok.kind hk hc hcell fin) hd
   · exact wpAny_Name (wpAny_loadName_free I.ok.kind hk hc hcell fin hcd) hd
theorem pe_int{i j pos}:PE X (.Constant (.int i) j pos) (tC (.int i)):=fun _ _ _ H _ I h=>wpAny_Constant_int ⟨.int i,H,I.tok _,⟨_,rfl⟩,h⟩
theorem pe_bl{b j pos}:PE X (.Constant (.bool b) j pos) (tC (.bl b)):=fun _ _ _ H _ I h=>Constant_bool ⟨.bl b,H,I,rfl,h⟩
theorem pe_non{j pos}:PE X (.Constant .none j pos) (tC .non):=fun _ _ _ H _ I h=>Constant_none ⟨.non,H,I,rfl,h⟩
def Gl(X:Cx)(x:Str):Prop:=X.env.kindOf x=some .globalImplicit
theorem zft{E:Value→Shared→Prop}{pins:List (Addr×Obj)}{s:Shared}{σ:St}{H:Hp}{x:Str}{u:Value}{pos:Pos}{Q:Value→Shared→Prop}(I:Inv X pins σ H s)(hg:Gl X x)(hm:X.mg x=some u)(h:Q u s)
  (hd:(x==("__debug__" : Str))=false:=by decide):wpAny (model X.prog X.w) X.A (eval (.Name x pos) X.env) Q E s :=
 Calls.Name_function_global I.ok.kind hg (Calls.loadGlobal_global (by rw[I.ok.glob];exact I.mod.glob.keeps I.bk) hm h) hd
theorem z3X{E:Value→Shared→Prop}{pins:List (Addr×Obj)}{s:Shared}{σ:St}{H:Hp}{x:Str}{u:Value}{pos:Pos}{Q:Value→Shared→Prop}(I:Inv X pins σ H s)(hg:Gl X x)(hm:X.mg x=none)(hv:bootBuiltins x=some u)(h:Q u s)
  (hn:x ≠ "__name__" := by decide) (hd:(x==("__debug__" : Str))=false:=by decide):wpAny (model X.prog X.w) X.A (eval (.Name x pos) X.env) Q E s:=by
 obtain⟨mb,h1,h2⟩:=I.mod.blt
 exact Calls.Name_function_global I.ok.kind hg (Calls.loadGlobal_builtin (by rw[I.ok.glob];exact I.mod.glob.keeps I.bk) hm (by rw[I.ok.blt];exact h1.keeps I.bk) ((h2 x hn).trans hv) h) hd
theorem zfu{x:Str}{v:V}{u:Value}{pos:Pos}(hg:Gl X x)(hm:X.mg x=some u)(r:RelV v u)(hd:(x==("__debug__" : Str))=false:=by decide):PE X (.Name x pos) (tC v) :=
 fun _ _ _ H _ I h=>zft I hg hm ⟨v,H,I,r,h⟩ hd
theorem zkE{x:Str}{v:V}{u:Value}{pos:Pos}(hg:Gl X x)(hm:X.mg x=none)(hv:bootBuiltins x=some u)(r:RelV v u)(hn:x ≠ "__name__" := by decide)(hd:(x==("__debug__" : Str))=false:=by decide):PE X (.Name x pos) (tC v) :=
 fun _ _ _ H _ I h=>z3X I hg hm hv ⟨v,H,I,r,h⟩ hn hd
variable {a b:Expr}{ta tb:TE}{pos:Pos}
variable {tA tB':TT}{rest:List Expr}
def tAnd(t u:TT):TT:=fun σ H Q=>t σ H fun c H1=>if c=true then u σ H1 Q else Q false H1
def tOr(t u:TT):TT:=fun σ H Q=>t σ H fun c H1=>if c=true then Q true H1 else u σ H1 Q
def tNot(t:TT):TT:=fun σ H Q=>t σ H fun c H1=>Q (!c) H1
theorem zkF(ha:PT X a tA):PW X (.BoolOp .And [a] pos) tA:=by
 intro wh pins s σ H Q I h
 refine isTrue_and (thn (ha pins s σ H Q I h) fun c s1 e=>?_)
 cases c with
 | true=>exact isTrue_and_nil e
 | false=>exact e
theorem pw_or1(ha:PT X a tA):PW X (.BoolOp .Or [a] pos) tA:=by
 intro wh pins s σ H Q I h
 refine isTrue_or (thn (ha pins s σ H Q I h) fun c s1 e=>?_)
 cases c with
 | false=>exact isTrue_or_nil e
 | true=>exact e
theorem pw_and(ha:PT X a tA)(hb:PW X (.BoolOp .And (b::rest) pos) tB'):PW X (.BoolOp .And (a::b::rest) pos) (tAnd tA tB'):=by
 intro wh pins s σ H Q I h
 refine isTrue_and (thn (ha pins s σ H _ I h) ?_)
 rintro c s1 ⟨H1,I1,q1⟩
 cases c with
 | true=>exact hb wh pins s1 σ H1 Q I1 q1
 | false=>exact⟨H1,I1,q1⟩
theorem pw_or(ha:PT X a tA)(hb:PW X (.BoolOp .Or (b::rest) pos) tB'):PW X (.BoolOp .Or (a::b::rest) pos) (tOr tA tB'):=by
 intro wh pins s σ H Q I h
 refine isTrue_or (thn (ha pins s σ H _ I h) ?_)
 rintro c s1 ⟨H1,I1,q1⟩
 cases c with
 | true=>exact⟨H1,I1,q1⟩
 | false=>exact hb wh pins s1 σ H1 Q I1 q1
theorem pt_not(ha:PT X a tA):PT X (.UnaryOp .Not a pos) (tNot tA):=by
 intro pins s σ H Q I h
 exact isTrue_not (ha pins s σ H (fun c H1=>Q (!c) H1) I h)
def tAndV(ta tb:TE):TE:=fun σ H Q=>ta σ H fun x H1=>∃ c,x = .bl c∧if c=true then tb σ H1 Q else Q (.bl false) H1
def tNotV(ta:TE):TE:=fun σ H Q=>ta σ H fun x H1=>∃ c,x = .bl c∧Q (.bl (!c)) H1
theorem pe_one{op}{t:TE}(h:PE X a t):PE X (.BoolOp op [a] pos) t:=fun pins s σ H Q I hw=>BoolOp_one (h pins s σ H Q I hw)
theorem pe_and(ha:PE X a ta)(hb:PE X (.BoolOp .And (b::rest) pos) tb):PE X (.BoolOp .And (a::b::rest) pos) (tAndV ta tb):=by
 intro pins s σ H Q I h
 refine BoolOp_and (thn (ha pins s σ H _ I h) ?_)
 rintro v s1 ⟨x,H1,I1,r1,q1⟩
 obtain⟨c,rfl,q1⟩:=q1
 cases r1
 refine wpAny_truthy_bool ?_
 cases c with
 | true=>exact hb pins s1 σ H1 Q I1 q1
 | false=>exact⟨.bl false,H1,I1,rfl,q1⟩
theorem pe_not(ha:PE X a ta):PE X (.UnaryOp .Not a pos) (tNotV ta):=by
 intro pins s σ H Q I h
 refine UnaryOp_ (thn (ha pins s σ H _ I h) ?_)
 rintro v s1 ⟨x,H1,I1,r1,q1⟩
 obtain⟨c,rfl,q1⟩:=q1
 cases r1
 exact not_of (wpAny_truthy_bool ⟨.bl (!c),H1,I1,rfl,q1⟩)
def tIf(t:TT)(ta tb:TE):TE:=fun σ H Q=>t σ H fun c H1=>if c=true then ta σ H1 Q else tb σ H1 Q
theorem zha{c:Expr}(hc:PT X c tA)(ha:PE X a ta)(hb:PE X b tb):PE X (.IfExp c a b pos) (tIf tA ta tb):=by
 intro pins s σ H Q I h
 refine wpAny_IfExp (thn (hc pins s σ H _ I h) ?_)
 rintro d s1 ⟨H1,I1,q1⟩
 cases d with
 | true=>exact ha pins s1 σ H1 Q I1 q1
 | false=>exact hb pins s1 σ H1 Q I1 q1
end
end L2
namespace L2
open PySem PySem.Spec PyProof.Rows
def SqL(K:PySem.W.Frag)(H:Hp)(a:Addr)(xs:List V):Prop :=
 Rd H a (.lst xs) ∨
  ∃(o:Obj) (its:Array Value) (n:Nat),K.lookup a=some o∧o.cls = .type "list" ∧ o.dict=none∧o.data = .seq its n∧its.size≤sizeLine∧Vals xs its.toList
def SqT(K:PySem.W.Frag)(H:Hp)(a:Addr)(xs:List V):Prop :=
 Rd H a (.tup xs) ∨
  ∃(o:Obj) (its:Array Value) (n:Nat),K.lookup a=some o∧o.cls = .type "tuple" ∧ o.data = .seq its n∧its.size≤sizeLine∧Vals xs its.toList
def absV:Value→Option V
 | .none=>some .non
 | .bool b=>some (.bl b)
 | .int i _=>some (.int i)
 | .str x _=>some (.str x)
 | .bytes b _=>some (.byt b)
 | .float b _=>some (.flt b)
 | .ref a=>some (.ref a)
 | .type n=>some (.ty n)
 | _=>none
theorem RelV.abs{x:V}{u:Value}(r:RelV x u):absV u=some x:=by
 cases x with
 | non=>cases r;rfl
 | bl _=>cases r;rfl
 | int _=>obtain⟨t,rfl⟩:=r;rfl
 | str _=>obtain⟨t,rfl⟩:=r;rfl
 | byt _=>obtain⟨t,rfl⟩:=r;rfl
 | flt _=>obtain⟨t,rfl⟩:=r;rfl
 | ref _=>cases r;rfl
 | ty _=>cases r;rfl
theorem RelV.inj{x y:V}{u:Value}(r:RelV x u)(q:RelV y u):x=y:=Option.some.inj (r.abs.symm.trans q.abs)
theorem Vals.inj:∀{xs ys:List V} {us:List Value},Vals xs us→Vals ys us→xs=ys
 | _,_,_,.nil,.nil=>rfl
 | _,_,_,.cons r t,.cons r' t'=>by rw[r.inj r',Vals.inj t t']
section
variable {X:Cx}{pins:List (Addr×Obj)}{σ:St}{H:Hp}{s:Shared}{a:Addr}{xs ys:List V}
theorem SqL.of{K:PySem.W.Frag}(h:H a=some (.lst xs)):SqL K H a xs := .inl (.inl h)
theorem SqT.of{K:PySem.W.Frag}(h:H a=some (.tup xs)):SqT K H a xs := .inl (.inl h)
theorem Inv.list(I:Inv X pins σ H s)(h:SqL X.K H a xs):∃ its:List Value,Vals xs its∧PlainL s.heap a its.toArray∧xs.length≤sizeLine:=by
 rcases h with h|⟨o,its,n,hk,hc,hd,hs,hz,r⟩
 · obtain⟨z,its,n,r,e⟩:=h.ok I.hok
   exact⟨its,r,⟨_,n,e,rfl,rfl,rfl⟩,z⟩
 · refine⟨its.toList,r,⟨o,n,I.kIn a o hk,hc,hd,by simpa using hs⟩,?_⟩
   have e:=r.length
   simp only[Array.length_toList]at e
   omega
theorem Inv.tuple(I:Inv X pins σ H s)(h:SqT X.K H a xs):∃ its:List Value,Vals xs its∧IsTup s.heap a its.toArray∧xs.length≤sizeLine:=by
 rcases h with h|⟨o,its,n,hk,hc,hs,hz,r⟩
 · obtain⟨z,its,r,p⟩:=h.ok I.hok
   exact⟨its,r,p,z⟩
 · refine⟨its.toList,r,⟨o,I.kIn a o hk,hc,n,by simpa using hs⟩,?_⟩
   have e:=r.length
   simp only[Array.length_toList]at e
   omega
theorem Inv.list_inj(I:Inv X pins σ H s)(h:SqL X.K H a xs)(h':SqL X.K H a ys):xs=ys:=by
 obtain⟨its,r,⟨o,n,e,_,_,d⟩,_⟩:=I.list h
 obtain⟨its',r',⟨o',n',e',_,_,d'⟩,_⟩:=I.list h'
 rw[e]at e';cases e'
 rw[d]at d'
 injection d' with d1 _
 have:its=its':=by simpa using congrArg Array.toList d1
 subst this
 exact r.inj r'
theorem Inv.tuple_inj(I:Inv X pins σ H s)(h:SqT X.K H a xs)(h':SqT X.K H a ys):xs=ys:=by
 obtain⟨its,r,⟨o,e,_,n,d⟩,_⟩:=I.tuple h
 obtain⟨its',r',⟨o',e',_,n',d'⟩,_⟩:=I.tuple h'
 rw[e]at e';cases e'
 rw[d]at d'
 injection d' with d1 _
 have:its=its':=by simpa using congrArg Array.toList d1
 subst this
 exact r.inj r'
end
abbrev Cx.wish(X:Cx)(E:Value→Shared→Prop):Cx:={ X with xe:=E }
abbrev Cx.nox(X:Cx):Cx:=X.wish fun _ _=>False
theorem Cx.Ok.wish{X:Cx}(ok:X.Ok)(E:Value→Shared→Prop):(X.wish E).Ok :=
 ⟨ok.mod,ok.kind,ok.glob,ok.blt,ok.above,ok.inj,ok.has,ok.cab,ok.hd,ok.frames,ok.stk,ok.exf,ok.bs,ok.bsz,ok.noex,ok.exfs,ok.funs,ok.frf⟩
theorem Cx.Ok.unwish{X:Cx}{E:Value→Shared→Prop}(ok:(X.wish E).Ok):X.Ok :=
 ⟨ok.mod,ok.kind,ok.glob,ok.blt,ok.above,ok.inj,ok.has,ok.cab,ok.hd,ok.frames,ok.stk,ok.exf,ok.bs,ok.bsz,ok.noex,ok.exfs,ok.funs,ok.frf⟩
section
variable {X:Cx}{pins:List (Addr×Obj)}{σ:St}{H:Hp}{s:Shared}{E:Value→Shared→Prop}
theorem Inv.wish(I:Inv X pins σ H s)(E:Value→Shared→Prop):Inv (X.wish E) pins σ H s:=⟨I.ok.wish E,I.os,I.bare,I.base,I.loc,I.cell,I.free,I.freeC,I.pin,I.hok,I.len⟩
theorem Inv.unwish(I:Inv (X.wish E) pins σ H s):Inv X pins σ H s:=⟨I.ok.unwish,I.os,I.bare,I.base,I.loc,I.cell,I.free,I.freeC,I.pin,I.hok,I.len⟩
theorem SP.unwish{D:Ends}{f:Flow}{s':Shared}(h:SP (X.wish E) pins D f s'):SP X pins D f s':=by
 cases f with
 | next=>obtain⟨σ',H',I,q⟩:=h;exact⟨σ',H',I.unwish,q⟩
 | brk=>obtain⟨σ',H',I,q⟩:=h;exact⟨σ',H',I.unwish,q⟩
 | cont=>obtain⟨σ',H',I,q⟩:=h;exact⟨σ',H',I.unwish,q⟩
 | ret u=>obtain⟨v,σ',H',I,r,q⟩:=h;exact⟨v,σ',H',I.unwish,r,q⟩
theorem PE.nox{e:Expr}{t:TE}(h:PE X.nox e t):PE X e t:=fun pins s σ H Q I hw =>
 wpAny_mono (h pins s σ H Q (I.wish _) hw) (fun _ _ hZ=>hZ.elim fun v hZ=>hZ.elim fun H' hZ=>hZ.elim fun I' hZ=>hZ.elim fun r q=>⟨v,H',I'.unwish,r,q⟩) fun _ _ z=>False.elim z
theorem PT.nox{e:Expr}{t:TT}(h:PT X.nox e t):PT X e t:=fun pins s σ H Q I hw =>
 wpAny_mono (h pins s σ H Q (I.wish _) hw) (fun _ _ hZ=>hZ.elim fun H' hZ=>hZ.elim fun I' q=>⟨H',I'.unwish,q⟩) fun _ _ z=>False.elim z
theorem PSs.nox{st:List Stmt}{t:TS}(h:PSs X.nox st t):PSs X st t:=fun pins s σ H D I hw =>
 wpAny_mono (h pins s σ H D (I.wish _) hw) (fun _ _ q=>q.unwish) fun _ _ z=>False.elim z
end
section
variable {X:Cx}{st:Stmt}{rest:List Stmt}{t u:TS}{e:Expr}{te:TE}{pos:Pos}
def tNext:TS:=fun D σ H=>D.nx σ H
def tSeq(t u:TS):TS:=fun D σ H=>t { D with nx:=u D } σ H
theorem zkG:PSs X [] tNext:=fun _ _ σ H _ I h=>wpAny_execs_nil ⟨σ,H,I,h⟩
theorem zhb(h1:PS X st t)(h2:PSs X rest u):PSs X (st::rest) (tSeq t u):=by
 intro pins s σ H D I h
 refine wpAny_execs_cons (thn (h1 pins s σ H { D with nx:=u D } I h) fun f s1 q=>?_)
 cases f with
 | next =>
  obtain⟨σ',H',I',q⟩:=q
  exact h2 pins s1 σ' H' D I' q
 | ret v=>exact q
 | brk=>exact q
 | cont=>exact q
theorem zkH(h1:PS X st t):PSs X [st] t:=by
 intro pins s σ H D I h
 refine wpAny_execs_cons (thn (h1 pins s σ H D I h) fun f s1 q=>?_)
 cases f with
 | next=>exact wpAny_execs_nil q
 | ret v=>exact q
 | brk=>exact q
 | cont=>exact q
theorem Inv.quiet{pins:List (Addr×Obj)}{σ:St}{H:Hp}{s:Shared}(I:Inv X pins σ H s):interactive X.env=false:=by simp[interactive,I.ok.kind]
def tDrop(te:TE):TS:=fun D σ H=>te σ H fun _ H1=>D.nx σ H1
theorem za3(he:PE X e te)(hs:swapsWith e none pos.line X.env=pure false:=by rfl):PS X (.Expr e pos) (tDrop te):=by
 intro pins s σ H D I h
 exact wpAny_Expr_any (thn (he pins s σ H _ I h) fun v s1 hZ=>hZ.elim fun x hZ=>hZ.elim fun H1 hZ=>hZ.elim fun I1 hZ=>hZ.elim fun r1 q1=>⟨σ,H1,I1,q1⟩) I.quiet hs
def tRet(te:TE):TS:=fun D σ H=>te σ H D.rt
theorem ps_ret(he:PE X e te):PS X (.Return (some e) pos) (tRet te):=by
 intro pins s σ H D I h
 exact wpAny_Return_some (thn (he pins s σ H _ I h) fun v s1 hZ=>hZ.elim fun x hZ=>hZ.elim fun H1 hZ=>hZ.elim fun I1 hZ=>hZ.elim fun r1 q1=>⟨x,σ,H1,I1,r1,q1⟩)
def tIfS(c:TT)(t u:TS):TS:=fun D σ H=>c σ H fun b H1=>if b=true then t D σ H1 else u D σ H1
theorem ps_if{c:Expr}{a b:List Stmt}{tc:TT}(hc:PT X c tc)(ha:PSs X a t)(hb:PSs X b u):PS X (.If c a b pos) (tIfS tc t u):=by
 intro pins s σ H D I h
 refine wpAny_If (thn (hc pins s σ H _ I h) ?_)
 rintro d s1 ⟨H1,I1,q1⟩
 cases d with
 | true=>exact ha pins s1 σ H1 D I1 q1
 | false=>exact hb pins s1 σ H1 D I1 q1
end
abbrev TG:=V→St→Hp→(St→Hp→Prop)→Prop
abbrev TGs:=List V→St→Hp→(St→Hp→Prop)→Prop
def PG(X:Cx)(target:Expr)(t:TG):Prop :=
 ∀(pins:List (Addr×Obj)) (s:Shared) (σ:St) (H:Hp) (v:V) (u:Value) (Q:St→Hp→Prop),Inv X pins σ H s→RelV v u→t v σ H Q →
  wpAny (model X.prog X.w) X.A (assign target X.env u) (fun _ s'=>∃ σ' H',Inv X pins σ' H' s'∧Q σ' H') X.xe s
def PGs(X:Cx)(ts:List Expr)(t:TGs):Prop :=
 ∀(pins:List (Addr×Obj)) (s:Shared) (σ:St) (H:Hp) (vs:List V) (us:List Value) (Q:St→Hp→Prop),Inv X pins σ H s→Vals vs us→t vs σ H Q →
  wpAny (model X.prog X.w) X.A (assignInOrder ((assignEach ts X.env).map (·.2)) us) (fun _ s'=>∃ σ' H',Inv X pins σ' H' s'∧Q σ' H') X.xe s
abbrev TSet:=V→V→V→Hp→(Hp→Prop)→Prop
def PSet(X:Cx)(t:TSet):Prop :=
 ∀(pins:List (Addr×Obj)) (s:Shared) (σ:St) (H:Hp) (o i v:V) (ov iv u:Value) (Q:Hp→Prop),Inv X pins σ H s→RelV o ov→RelV i iv→RelV v u→t o i v H Q →
  wpAny (model X.prog X.w) X.A (setItem ov iv u) (fun _ s'=>∃ H',Inv X pins σ H' s'∧Q H') X.xe s
section
variable {X:Cx}{pos:Pos}
def z7u(i:Nat):TG:=fun v σ H Q=>Q (σ.set i (some v)) H
theorem z1q{i:Nat}{x:Str}(hN:X.N.Nodup)(hi:X.N[i]?=some x)(hx:Loc X.env.scope x)(hf:X.fn x=true∨X.env.scope.names.lookup x=some .local:=by first|exact .inl rfl|exact .inr rfl|assumption):PG X (.Name x pos) (z7u i):=by
 intro pins s σ H v u Q I r h
 exact wpAny_assign_Name (zaM I hN hi hx r (fun s' I'=>⟨_,H,I',h⟩) hf)
def gNil:TGs:=fun vs σ H Q=>vs=[]∧Q σ H
def gCons(t:TG)(u:TGs):TGs:=fun vs σ H Q=>∃ v r,vs=v::r∧t v σ H fun σ' H'=>u r σ' H' Q
theorem zkI:PGs X [] gNil:=by
 intro pins s σ H vs us Q I r h
 obtain⟨e,h⟩:=h
 subst e
 cases r
 exact assignInOrder_nil ⟨σ,H,I,h⟩
theorem zhc{e:Expr}{es:List Expr}{t:TG}{u:TGs}(h1:PG X e t)(h2:PGs X es u)
  (hs:(assignEach (e::es) X.env).map (·.2)=assign e X.env::(assignEach es X.env).map (·.2):=by rfl):PGs X (e::es) (gCons t u):=by
 intro pins s σ H vs us Q I r h
 obtain⟨v,vr,e1,h⟩:=h
 subst e1
 cases r with
 | cons r rr =>
  rw[hs]
  refine assignInOrder_cons (thn (h1 pins s σ H _ _ _ I r h) ?_)
  rintro _ s1 ⟨σ1,H1,I1,q1⟩
  exact h2 pins s1 σ1 H1 _ _ Q I1 rr q1
def gTup(K:PySem.W.Frag)(n:Nat)(t:TGs):TG:=fun v σ H Q=>∃ a xs,v = .ref a∧SqT K H a xs∧xs.length=n∧t xs σ H Q
theorem pg_tup{es:List Expr}{k:Nat}{t:TGs}{n:Nat}(hc:X.calm=true)(h:PGs X es t)
  (hn:(assignEach es X.env).length=n:=by rfl) (hst:(assignEach es X.env).findIdx? (·.1)=none:=by rfl):PG X (.Tuple es k pos) (gTup X.K n t):=by
 intro pins s σ H v u Q I r hw
 obtain⟨a,xs,e1,hq,hl,hw⟩:=hw
 subst e1
 cases r
 obtain⟨its,rv,ht,hz⟩:=I.tuple hq
 refine assign_Tuple_tuple (I.ok.hd hc) ht (by simp[hn,←hl,rv.length]) hst fun h' hx=>?_
 have I1:Inv X pins σ H { s with heap:=h' }:=I.kept (t':=s.toks) fun b o e=>hx b o (Nat.ne_of_lt (Heap.lt_size e)) e
 exact h pins _ σ H xs _ Q I1 (by simpa using rv) hw
def gSub(to ti:TE)(t:TSet):TG:=fun v σ H Q=>to σ H fun o H1=>ti σ H1 fun i H2=>t o i v H2 fun H3=>Q σ H3
theorem pg_sub{o i:Expr}{to ti:TE}{t:TSet}(ho:PE X o to)(hi:PE X i ti)(hs:PSet X t)
  (ha:∀ v,assign (.Subscript o i pos) X.env v=(do
   let ov ←holding [v] (eval o X.env)
   let iv ←holding [v,ov] (eval i X.env)
   standAt pos
   holding [v,ov,iv] (setItem ov iv v)
   release [v,ov,iv] []):=by intro _;rfl):PG X (.Subscript o i pos) (gSub to ti t):=by
 intro pins s σ H v u Q I r h
 rw[ha]
 refine wpAny_bind (wpAny_holding (thn (ho pins s σ H _ I h) ?_))
 rintro ov s1 ⟨x,H1,I1,r1,q1⟩
 refine wpAny_bind (wpAny_holding (thn (hi pins s1 σ H1 _ I1 q1) ?_))
 rintro iv s2 ⟨y,H2,I2,r2,q2⟩
 refine wpAny_bind (wpAny_standAt (wpAny_bind (wpAny_holding (thn (hs pins s2 σ H2 x y v ov iv u _ I2 r1 r2 r q2) ?_))))
 rintro _ s3 ⟨H3,I3,q3⟩
 exact wpAny_release ⟨σ,H3,I3,q3⟩
def tAsg(te:TE)(g:TG):TS:=fun D σ H=>te σ H fun x H1=>g x σ H1 D.nx
theorem ps_asg{tg e:Expr}{te:TE}{g:TG}(he:PE X e te)(hg:PG X tg g)(hs:swapsWithSole [tg] e pos.line X.env=pure false:=by rfl)(hw:swappedStores [tg] e X.env=pure none:=by rfl)
  (h1:(assignEach [tg] X.env).map (·.2)=[assign tg X.env]:=by rfl):PS X (.Assign [tg] e pos) (tAsg te g):=by
 intro pins s σ H D I h
 refine wpAny_Assign_stores (thn (he pins s σ H _ I h) fun v s1 hZ=>hZ.elim fun x hZ=>hZ.elim fun H1 hZ=>hZ.elim fun I1 hZ=>hZ.elim fun r1 q1=>?_) hs hw
 rw[h1]
 exact thn (hg pins s1 σ H1 x v _ I1 r1 q1) fun _ s2 q=>q
theorem ps_set{i:Nat}{x:Str}{e:Expr}{te:TE}{pos':Pos}(hN:X.N.Nodup)(hi:X.N[i]?=some x)(hx:Loc X.env.scope x)(he:PE X e te)(hs:swapsWith e (some (.Name x pos')) pos.line X.env=pure false:=by rfl)(hf:X.fn x=true∨X.env.scope.names.lookup x=some .local:=by first|exact .inl rfl|exact .inr rfl|assumption):
  PS X (.Assign [.Name x pos'] e pos) (tAsg te (z7u i)):=by
 intro pins s σ H D I h
 refine wpAny_Assign_Name (thn (he pins s σ H _ I h) fun v s1 hZ=>hZ.elim fun y hZ=>hZ.elim fun H1 hZ=>hZ.elim fun I1 hZ=>hZ.elim fun r1 q1=>?_) hs
 exact zaM I1 hN hi hx r1 (fun s2 I2=>⟨_,H1,I2,q1⟩) hf
end
section
variable {X:Cx}{pos:Pos}
def tWhile(c:TT)(tb:TS):TS:=fun D σ H=>∃ W:Nat→St→Hp→Prop,(∃ m,W m σ H)∧∀ m σ H,W m σ H →
 c σ H fun b H1=>if b=true then ∃ N:St→Hp→Prop,(∀ σ' H',N σ' H'→∃ m',m'<m∧W m' σ' H')∧tb { D with nx:=N,ct:=N,bk:=D.nx } σ H1 else D.nx σ H1
theorem zhd{c:Expr}{body:List Stmt}{tc:TT}{tb:TS}(hp:PassesOwn (model X.prog X.w) X.A X.env X.xe)(hc:PT X c tc)(hb:PSs X body tb):PS X (.While c body [] pos) (tWhile tc tb):=by
 intro pins s σ H D I h
 obtain⟨W,⟨m0,w0⟩,turn⟩:=h
 refine wpAny_While (codeAny_whileLoop (fun n s'=>∃ σ' H',Inv X pins σ' H' s'∧W n σ' H') ?_ m0 ⟨σ,H,I,w0⟩)
 rintro n s1 ⟨σ1,H1,I1,w1⟩
 refine wpAny_passesOwn hp (thn (hc pins s1 σ1 H1 _ I1 (turn n σ1 H1 w1)) ?_)
 rintro b s2 ⟨H2,I2,q2⟩
 cases b with
 | true =>
  obtain⟨N,hN,q2⟩:=q2
  rw[if_pos rfl]
  refine wpAny_passesOwn hp (thn (hb pins s2 σ1 H2 _ I2 q2) fun f s3 q3=>?_)
  cases f with
  | next =>
   obtain⟨σ3,H3,I3,n3⟩:=q3
   obtain⟨m',hm,w3⟩:=hN σ3 H3 n3
   exact⟨m',hm,σ3,H3,I3,w3⟩
  | cont =>
   obtain⟨σ3,H3,I3,n3⟩:=q3
   obtain⟨m',hm,w3⟩:=hN σ3 H3 n3
   exact⟨m',hm,σ3,H3,I3,w3⟩
  | brk=>exact q3
  | ret v=>exact q3
 | false =>
  rw[if_neg Bool.false_ne_true]
  exact wpAny_execs_nil ⟨σ1,H2,I2,q2⟩
end
structure It where
 go:Nat→Hp→Prop
 yld:Nat→Hp→V→Hp→Prop
 stop:Nat→Hp→Prop
def FpOk(X:Cx)(pins:List (Addr×Obj))(H:Hp)(b:Addr):Prop :=
 H b=none∧b≠X.env.locals∧b ∉ X.fs∧(b∈X.ex∨X.s₀.heap.objs.size≤b)∧(∀ x c,X.env.cells.lookup x=some c→c≠b)∧∀ p∈X.pn++pins,p.1≠b
theorem Inv.fpOk{X:Cx}{pins:List (Addr×Obj)}{σ:St}{H H':Hp}{s:Shared}{b:Addr}(I:Inv X pins σ H s)(hb:s.heap.objs.size≤b)(hn:H' b=none):FpOk X pins H' b:=by
 refine⟨hn,Nat.ne_of_gt (Nat.lt_of_lt_of_le I.lt hb),I.nofs hb,.inr (Nat.le_trans I.sz hb),fun x c e z=>?_,fun p hp z=>?_⟩
 · obtain⟨v,q⟩:=I.cell x c e
   exact absurd (Nat.lt_of_lt_of_le q.lt (by rw[z];exact hb)) (Nat.lt_irrefl _)
 · exact absurd (Nat.lt_of_lt_of_le (Heap.lt_size (I.pin p hp).1) (by rw[z];exact hb)) (Nat.lt_irrefl _)
structure Turn(P:Program)(w:World)(K:PySem.W.Frag)(tg:Expr)(J:It)(fp:List Addr)(it:Addr)(tn:Nat→Heap→Prop):Prop where
 mem:it∈fp
 obj:∀ i h,tn i h→∀ b∈fp,∃ o,h.get? b=some o∧∀ v,o.data ≠ .cell v
 keep:∀ i h h',tn i h→(∀ b∈fp,∀ o,h.get? b=some o→h'.get? b=some o)→tn i h'
 item:∀(X:Cx),X.prog=P→X.w=w→X.K=K→X.calm=true→∀(i:Nat) (pins:List (Addr×Obj)) (s:Shared) (σ:St) (H:Hp) (E:Value→Shared→Prop),Inv X pins σ H s→(∀ b∈fp,FpOk X pins H b)→tn i s.heap→J.go i H →
  wpAny (model P w) X.A (pyNext (.ref it)) (fun r s1=>∃ u,r=some u ∧
   wpAny (model P w) X.A (letOwnedTupleGo tg (.ref it) u) (fun _ s2=>∃ x H',Inv X pins σ H' s2∧RelV x u∧J.yld i H x H'∧tn (i+1) s2.heap∧∀ b∈fp,H' b=none) E s1) E s
 done:∀(X:Cx),X.prog=P→X.w=w→X.K=K→X.calm=true→∀(i:Nat) (pins:List (Addr×Obj)) (s:Shared) (σ:St) (H:Hp) (E:Value→Shared→Prop),Inv X pins σ H s→(∀ b∈fp,FpOk X pins H b)→tn i s.heap→J.stop i H →
  wpAny (model P w) X.A (pyNext (.ref it)) (fun r s1=>r=none∧Inv X pins σ H s1) E s
 self:∀(A:Around) (i:Nat) (s:Shared) (Q:Value→Shared→Prop) (E:Value→Shared→Prop),tn i s.heap→Q (.ref it) s→wpAny (model P w) A (pyIter (.ref it)) Q E s
abbrev TI:=St→Hp→(It→Hp→Prop)→Prop
def PIE(X:Cx)(pins:List (Addr×Obj))(σ:St)(tg:Expr)(R:It→Hp→Prop)(itv:Value)(s2:Shared):Prop :=
 ∃(it:Addr) (fp:List Addr) (tn:Nat→Heap→Prop) (J:It) (H':Hp),itv = .ref it∧Inv X pins σ H' s2∧Turn X.prog X.w X.K tg J fp it tn∧tn 0 s2.heap∧(∀ b∈fp,FpOk X pins H' b)∧R J H'
def PI(X:Cx)(tg iter:Expr)(wi:TI):Prop :=
 ∀(pins:List (Addr×Obj)) (s:Shared) (σ:St) (H:Hp) (R:It→Hp→Prop),Inv X pins σ H s→wi σ H R →
  wpAny (model X.prog X.w) X.A (eval iter X.env) (fun v s1=>wpAny (model X.prog X.w) X.A (pyIter v) (PIE X pins σ tg R) X.xe s1) X.xe s
theorem zfv{M:Model}{A:Around}{E:Value→Shared→Prop}{s:Shared}{tg:Expr}{it:Addr}{u:Value}{o:Obj}{n:String}{vs:Array Value}{Q:Unit→Shared→Prop}(ho:s.heap.get? it=some o)(hc:o.cls = .type n)(hd:o.data = .fields vs)
    (hn:["enumerate", "zip", "dict_itemiterator", "dict_reverseitemiterator", "odict_iterator", "itertools.zip_longest", "itertools.pairwise"].contains n=false) (hQ:Q () s):wpAny M A (letOwnedTupleGo tg (.ref it) u) Q E s:=by
  unfold letOwnedTupleGo
  cases tg<;>first
    | exact wpAny_pure hQ
    | (cases u<;>first
        | exact wpAny_pure hQ
        | (refine wpAny_bind (wpAny_load ho ?_)
           rw[hc,hd]
           show wpAny M A (if(["enumerate", "zip", "dict_itemiterator", "dict_reverseitemiterator", "odict_iterator", "itertools.zip_longest", "itertools.pairwise"].contains n&&vs[0]?==some (rawInt _))=true then _ else _) Q E s
           rw[if_neg (by intro h;rw[hn,Bool.false_and]at h;cases h)]
           exact wpAny_pure hQ))
def Itl(K:PySem.W.Frag)(a:Addr):It :=
 ⟨fun i H=>∃ xs x,SqL K H a xs∧xs[i]?=some x,fun i H x H'=>H'=H∧∀ xs,SqL K H a xs→xs[i]?=some x,fun i H=>∃ xs,SqL K H a xs∧xs.length≤i⟩
def Itt(K:PySem.W.Frag)(a:Addr):It :=
 ⟨fun i H=>∃ xs x,SqT K H a xs∧xs[i]?=some x,fun i H x H'=>H'=H∧∀ xs,SqT K H a xs→xs[i]?=some x,fun i H=>∃ xs,SqT K H a xs∧xs.length≤i⟩
def Itr(lo:Int)(n:Nat):It:=⟨fun i _=>i<n,fun i H x H'=>H'=H∧x = .int (lo+i),fun i _=>n≤i⟩
theorem zgo{P:Program}{w:World}{K:PySem.W.Frag}{tg:Expr}(a it:Addr):Turn P w K tg (Itl K a) [it] it (fun i h=>h.IsListIter it a i) where
 mem:=by simp
 obj:=fun i h st b hb=>by
  have e:b=it:=by simpa using hb
  subst e
  obtain⟨o,e,c,d⟩:=st
  exact⟨o,e,fun v z=>by rw[d]at z;cases z⟩
 keep:=fun i h h' st k=>st.at fun o e=>k it (by simp) o e
 item:=by
  intro X hP hw hK hc i pins s σ H E I hf st hg
  subst hP hw hK
  obtain⟨xs,x,hq,hx⟩:=hg
  obtain⟨its,rv,p,hz⟩:=I.list hq
  obtain⟨u,hu,ru⟩:=rv.get hx
  obtain⟨f0,f1,f2,f3,f4,f5⟩:=hf it (by simp)
  refine wpAny_pyNext_list_item st p.isList (x:=u) (by simpa using hu) fun h' st' sb=>?_
  have I1:Inv X pins σ H { s with heap:=h' }:=I.turned (t':=s.toks) (fun b o hb e=>(sb.2 b hb).trans e) f0 f1 f3 f4 f5
  obtain⟨o,e,c,d⟩:=id st'
  exact⟨u,rfl,zfv (s:={ s with heap:=h' }) e c d (by decide) ⟨x,H,I1,ru,⟨rfl,fun ys hy=>by rw[I.list_inj hy hq];exact hx⟩,st',fun b hb=>(hf b hb).1⟩⟩
 done:=by
  intro X hP hw hK hc i pins s σ H E I hf st hg
  subst hP hw hK
  obtain⟨xs,hq,hx⟩:=hg
  obtain⟨its,rv,p,hz⟩:=I.list hq
  obtain⟨f0,f1,f2,f3,f4,f5⟩:=hf it (by simp)
  have hl:=rv.length
  exact wpAny_pyNext_list_end (I.ok.hd hc) st p.isList (by simp;omega) fun h' eb=>⟨rfl,I.turned (t':=s.toks) (fun b o hb e=>eb b o hb e) f0 f1 f3 f4 f5⟩
 self:=fun _ _ _ _ _ st h=>wpAny_pyIter_listiter st h
theorem zce{P:Program}{w:World}{K:PySem.W.Frag}{tg:Expr}(a it:Addr):Turn P w K tg (Itt K a) [it] it (fun i h=>h.IsTupleIter it a i) where
 mem:=by simp
 obj:=fun i h st b hb=>by
  have e:b=it:=by simpa using hb
  subst e
  obtain⟨o,e,c,d⟩:=st
  exact⟨o,e,fun v z=>by rw[d]at z;cases z⟩
 keep:=fun i h h' st k=>st.at fun o e=>k it (by simp) o e
 item:=by
  intro X hP hw hK hc i pins s σ H E I hf st hg
  subst hP hw hK
  obtain⟨xs,x,hq,hx⟩:=hg
  obtain⟨its,rv,p,hz⟩:=I.tuple hq
  obtain⟨u,hu,ru⟩:=rv.get hx
  obtain⟨f0,f1,f2,f3,f4,f5⟩:=hf it (by simp)
  refine wpAny_pyNext_tuple_item st (show s.heap.IsTuple a its.toArray from p) (x:=u) (by simpa using hu) fun h' st' sb=>?_
  have I1:Inv X pins σ H { s with heap:=h' }:=I.turned (t':=s.toks) (fun b o hb e=>(sb.2 b hb).trans e) f0 f1 f3 f4 f5
  obtain⟨o,e,c,d⟩:=id st'
  exact⟨u,rfl,zfv (s:={ s with heap:=h' }) e c d (by decide) ⟨x,H,I1,ru,⟨rfl,fun ys hy=>by rw[I.tuple_inj hy hq];exact hx⟩,st',fun b hb=>(hf b hb).1⟩⟩
 done:=by
  intro X hP hw hK hc i pins s σ H E I hf st hg
  subst hP hw hK
  obtain⟨xs,hq,hx⟩:=hg
  obtain⟨its,rv,p,hz⟩:=I.tuple hq
  obtain⟨f0,f1,f2,f3,f4,f5⟩:=hf it (by simp)
  have hl:=rv.length
  exact wpAny_pyNext_tuple_end (I.ok.hd hc) st (show s.heap.IsTuple a its.toArray from p) (by simp;omega) fun h' eb=>⟨rfl,I.turned (t':=s.toks) (fun b o hb e=>eb b o hb e) f0 f1 f3 f4 f5⟩
 self:=fun _ _ _ _ _ st h=>wpAny_pyIter_tupleiter st h
theorem zcf{P:Program}{w:World}{K:PySem.W.Frag}{tg:Expr}(it:Addr)(lo:Int)(n:Nat):Turn P w K tg (Itr lo n) [it] it (fun i h=>IsRangeIter h it (lo+(i:Nat)*1) ((n:Int)-(i:Nat)) 1) where
 mem:=by simp
 obj:=fun i h st b hb=>by
  have e:b=it:=by simpa using hb
  subst e
  exact⟨_,st,fun v z=>by
   have z':Data.fields _=Data.cell v:=z
   cases z'⟩
 keep:=fun i h h' st k=>k it (by simp) _ st
 item:=by
  intro X hP hw hK hc i pins s σ H E I hf st hg
  subst hP hw hK
  obtain⟨f0,f1,f2,f3,f4,f5⟩:=hf it (by simp)
  have W:=Walks.range (prog:=X.prog) (w:=X.w) (I.ok.hd hc) it lo 1 n
  refine W.item i s _ _ hg st fun v h' tk hv st' kk=>?_
  obtain⟨t,rfl⟩:=hv
  have I1:Inv X pins σ H { s with heap:=h',toks:=tk }:=I.turned (fun b o hb e=>kk b o (by simpa using hb) e) f0 f1 f3 f4 f5
  refine⟨_,rfl,zfv (s:={ s with heap:=h',toks:=tk }) (n := "range_iterator") st' rfl rfl (by decide) ⟨.int (lo+i),H,I1,⟨t,?_⟩,⟨rfl,rfl⟩,st',fun b hb=>(hf b hb).1⟩⟩
  rw[Int.mul_one]
 done:=by
  intro X hP hw hK hc i pins s σ H E I hf st hg
  subst hP hw hK
  obtain⟨f0,f1,f2,f3,f4,f5⟩:=hf it (by simp)
  exact wpAny_pyNext_range_end (I.ok.hd hc) st (by have:n≤i:=hg;omega) fun h' eb=>⟨rfl,I.turned (t':=s.toks) (fun b o hb e=>eb b o hb e) f0 f1 f3 f4 f5⟩
 self:=fun _ _ _ _ _ st h=>wpAny_pyIter_rangeiter st h
end L2
namespace L2
open PySem PySem.Spec PyProof.Rows
section
variable {X:Cx}{tg:Expr}
theorem zhe{pins:List (Addr×Obj)}{σ:St}{H:Hp}{s:Shared}{R:It→Hp→Prop}{E:Value→Shared→Prop}{lo hi:Int}{t u v:Tok}{tk:Nat}(I:Inv X pins σ H s)(h1 : -(2 ^ 62)≤lo)(h2:lo<2 ^ 62)(h3 : -(2 ^ 62)≤hi)(h4:hi<2 ^ 62)
   (q:R (Itr lo (hi-lo).toNat) H):wpAny (model X.prog X.w) X.A (pyIter (.ref s.heap.objs.size)) (PIE X pins σ tg R) E { s with heap:=s.heap.push { cls := .type "range",data := .fields #[.int lo t,.int hi u,.int 1 v] },toks:=tk }:=by
 refine wpAny_pyIter_range (IsRange.new ..) (small_one h1 h2 h3 h4) ?_
 have I1:Inv X pins σ H { s with heap:=s.heap.push { cls := .type "range",data := .fields #[.int lo t,.int hi u,.int 1 v] },toks:=tk }:=I.kept fun b o e=>Heap.get?_push_of_some _ e
 refine⟨(s.heap.push { cls := .type "range",data := .fields #[.int lo t,.int hi u,.int 1 v] }).objs.size,[(s.heap.push { cls := .type "range",data := .fields #[.int lo t,.int hi u,.int 1 v] }).objs.size],_,_,H,rfl,
   I1.kept (t':=tk) fun b o e=>Heap.get?_push_of_some _ e,zcf _ lo (hi-lo).toNat,?_,fun b hb=>?_,q⟩
 · have e1:lo+((0:Nat):Int)*1=lo:=by simp
   have e2:(((hi-lo).toNat:Nat):Int)-((0:Nat):Int)=Builtin.Range.rangeSize lo hi 1:=by rw[rangeSize_one];split<;>omega
   show IsRangeIter _ _ (lo+((0:Nat):Int)*1) ((((hi-lo).toNat:Nat):Int)-((0:Nat):Int)) 1
   rw[e1,e2]
   exact Heap.get?_push_size _ rfl
 · have e:b=(s.heap.push { cls := .type "range",data := .fields #[.int lo t,.int hi u,.int 1 v] }).objs.size:=by simpa using hb
   subst e
   exact I1.fpOk (Nat.le_refl _) (I1.hok.fresh (Nat.le_refl _))
def iRng1(ta:TA):TI:=fun σ H R=>ta σ H fun vs H1=>∃ j:Int,vs=[.int j] ∧ -(2 ^ 62)≤j∧j<2 ^ 62∧R (Itr 0 j.toNat) H1
theorem zgp{a:Expr}{ta:TA}{p pos:Pos}(hg:Gl X "range")(hm:X.mg "range" = none)(ha:PA X [a] ta)(hs:starEach [a] X.env=[(false,eval a X.env)]:=by rfl):PI X tg (.Call (.Name "range" p) [a] [] pos) (iRng1 ta):=by
 intro pins s σ H R I h
 refine Call_ (z3X I hg hm boot_range (PyProof.Rows.callWith_type1 (thn (ha pos pins s σ H _ I h) fun us s1 hZ=>hZ.elim fun vs hZ=>hZ.elim fun H1 hZ=>hZ.elim fun I1 hZ=>hZ.elim fun r1 q1=>?_) hs rfl))
 obtain⟨j,e,q1,q2,q⟩:=q1
 subst e
 cases r1 with
 | cons r rr =>
  cases rr
  obtain⟨t,rfl⟩:=r
  exact call_range_1 (zhe I1 (by omega) (by omega) q1 q2 (by simpa using q))
def tFor(wi:TI)(g:TG)(tb:TS):TS:=fun D σ H=>wi σ H fun J H1=>∃ W:Nat→Nat→St→Hp→Prop,(∃ m,W 0 m σ H1)∧∀ i m σ H,W i m σ H →
 (J.stop i H∧D.nx σ H)∨(J.go i H∧∃ N:St→Hp→Prop,(∀ σ' H',N σ' H'→∃ m',m'<m∧W (i+1) m' σ' H')∧∀ x H',J.yld i H x H'→g x σ H' fun σ2 H2=>tb { D with nx:=N,ct:=N,bk:=D.nx } σ2 H2)
def z7v(fp:List Addr)(h:Heap):List (Addr×Obj):=fp.filterMap fun b=>(h.get? b).map fun o=>(b,o)
theorem z3q{fp:List Addr}{h:Heap}{b:Addr}{o:Obj}(hb:b∈fp)(e:h.get? b=some o):(b,o)∈z7v fp h:=List.mem_filterMap.mpr ⟨b,hb,by rw[e];rfl⟩
theorem zgq{fp:List Addr}{h:Heap}{p:Addr×Obj}(hp:p∈z7v fp h):p.1∈fp∧h.get? p.1=some p.2:=by
 obtain⟨b,hb,e⟩:=List.mem_filterMap.mp hp
 cases q:h.get? b with
 | none=>rw[q]at e;cases e
 | some o =>
  rw[q]at e
  have e':(b,o)=p:=Option.some.inj e
  subst e'
  exact⟨hb,q⟩
theorem Inv.pinned{pins:List (Addr×Obj)}{σ:St}{H:Hp}{s:Shared}{fp:List Addr}(I:Inv X pins σ H s)(hf:∀ b∈fp,FpOk X pins H b)(ho:∀ b∈fp,∃ o,s.heap.get? b=some o∧∀ v,o.data ≠ .cell v):Inv X (pins++z7v fp s.heap) σ H s :=
 I.pins_of fun p hp=>(List.mem_append.mp hp).elim (fun z=>I.pin p (List.mem_append_right _ z)) fun z=>by
  obtain⟨hb,e⟩:=zgq z
  obtain⟨f0,f1,f2,_⟩:=hf p.1 hb
  obtain⟨o,e',d⟩:=ho p.1 hb
  rw[e]at e';cases e'
  exact⟨e,f0,f1,f2,d⟩
theorem Inv.unpinned{pins pl:List (Addr×Obj)}{σ:St}{H:Hp}{s:Shared}(I:Inv X (pins++pl) σ H s):Inv X pins σ H s:=I.pins_of fun p hp=>I.pin p (List.mem_append_right _ (List.mem_append_left _ hp))
theorem ps_for{iter:Expr}{body:List Stmt}{wi:TI}{g:TG}{tb:TS}{pos:Pos}(hp:PassesOwn (model X.prog X.w) X.A X.env X.xe)(hc:X.calm=true)(hi:PI X tg iter wi)(hg:PG X tg g)(hb:PSs X body tb)
   (hs:∀ x,foldedSetIterable iter X.env x=pure x:=by intro _;rfl):PS X (.For tg iter body [] pos) (tFor wi g tb):=by
 intro pins s σ H D I h
 refine wpAny_For (thn (hi pins s σ H _ I h) fun v s1 h1=>thn h1 fun itv s2 h2=>?_) hs
 obtain⟨it,fp,tn,J,H2,e,I2,T,st2,f2,W,⟨m0,w0⟩,turn⟩:=h2
 subst e
 have stat:∀{H':Hp},(∀ b∈fp,H' b=none)→∀ b∈fp,FpOk X pins H' b:=fun hn b hb=>⟨hn b hb,(f2 b hb).2⟩
 refine codeAny_forLoop_any (fun n s'=>∃ i σ' H',Inv X pins σ' H' s'∧tn i s'.heap∧(∀ b∈fp,H' b=none)∧W i n σ' H') ?_ m0 ⟨0,σ,H2,I2,st2,fun b hb=>(f2 b hb).1,w0⟩
 rintro n s3 ⟨i,σ3,H3,I3,st3,fr3,w3⟩
 rcases turn i n σ3 H3 w3 with⟨stop,qn⟩|⟨go,N,hN,step⟩
 · refine wpAny_passesOwn hp (thn (T.done X rfl rfl rfl hc i pins s3 σ3 H3 X.xe I3 (stat fr3) st3 stop) ?_)
   rintro r s4 ⟨hr,I4⟩
   subst hr
   exact wpAny_execs_nil ⟨σ3,H3,I4,qn⟩
 · refine wpAny_passesOwn hp (thn (T.item X rfl rfl rfl hc i pins s3 σ3 H3 X.xe I3 (stat fr3) st3 go) ?_)
   rintro r s4 ⟨u,hr,h4⟩
   subst hr
   refine wpAny_passesOwn hp (thn h4 ?_)
   rintro _ s5 ⟨x,H5,I5,r5,y5,st5,fr5⟩
   have I5':=I5.pinned (stat fr5) (T.obj _ _ st5)
   refine wpAny_passesOwn hp (thn (hg _ s5 σ3 H5 x u _ I5' r5 (step x H5 y5)) ?_)
   rintro _ s6 ⟨σ6,H6,I6,q6⟩
   refine wpAny_passesOwn hp (thn (hb _ s6 σ6 H6 _ I6 q6) fun f s7 q7=>?_)
   have again:∀{σ7:St} {H7:Hp},Inv X (pins++z7v fp s5.heap) σ7 H7 s7→N σ7 H7→∃ m,m<n∧∃ i σ' H',Inv X pins σ' H' s7∧tn i s7.heap∧(∀ b∈fp,H' b=none)∧W i m σ' H':=fun{σ7 H7} I7 n7=>by
    obtain⟨m',hm,w7⟩:=hN σ7 H7 n7
    refine⟨m',hm,i+1,σ7,H7,I7.unpinned,T.keep _ _ _ st5 fun b hb o e=>(I7.pin (b,o) (List.mem_append_right _ (List.mem_append_right _ (z3q hb e)))).1,fun b hb=>?_,w7⟩
    obtain⟨o,e,d⟩:=T.obj _ _ st5 b hb
    exact(I7.pin (b,o) (List.mem_append_right _ (List.mem_append_right _ (z3q hb e)))).2.1
   cases f with
   | next=>obtain⟨σ7,H7,I7,n7⟩:=q7;exact again I7 n7
   | cont=>obtain⟨σ7,H7,I7,n7⟩:=q7;exact again I7 n7
   | brk=>obtain⟨σ7,H7,I7,q7⟩:=q7;exact⟨σ7,H7,I7.unpinned,q7⟩
   | ret v=>obtain⟨x7,σ7,H7,I7,r7,q7⟩:=q7;exact⟨x7,σ7,H7,I7.unpinned,r7,q7⟩
end
end L2
namespace L2
open PySem PySem.Spec PyProof.Rows
abbrev R2:=V→V→Hp→VK→Prop
def OpR(X:Cx)(f:Value→Value→Sem Value)(r:R2):Prop :=
 ∀(pins:List (Addr×Obj)) (s:Shared) (σ:St) (H:Hp) (x y:V) (v u:Value) (Q:VK),Inv X pins σ H s→RelV x v→RelV y u→r x y H Q →
  wpAny (model X.prog X.w) X.A (f v u) (EP X pins σ Q) X.xe s
def UnR(X:Cx)(f:Value→Sem Value)(r:V→Hp→VK→Prop):Prop :=
 ∀(pins:List (Addr×Obj)) (s:Shared) (σ:St) (H:Hp) (x:V) (v:Value) (Q:VK),Inv X pins σ H s→RelV x v→r x H Q →
  wpAny (model X.prog X.w) X.A (f v) (EP X pins σ Q) X.xe s
def CallR(X:Cx)(f:Value)(r:List V→Hp→VK→Prop):Prop :=
 ∀(pins:List (Addr×Obj)) (s:Shared) (σ:St) (H:Hp) (xs:List V) (us:List Value) (Q:VK),Inv X pins σ H s→Vals xs us→r xs H Q →
  wpAny (model X.prog X.w) X.A (call f us) (EP X pins σ Q) X.xe s
def TruR(X:Cx)(r:V→Hp→(Bool→Hp→Prop)→Prop):Prop :=
 ∀(pins:List (Addr×Obj)) (s:Shared) (σ:St) (H:Hp) (x:V) (v:Value) (Q:Bool→Hp→Prop),Inv X pins σ H s→RelV x v→r x H Q →
  wpAny (model X.prog X.w) X.A (truthy v) (TP X pins σ Q) X.xe s
def tOp(r:R2)(ta tb:TE):TE:=fun σ H Q=>ta σ H fun x H1=>tb σ H1 fun y H2=>r x y H2 Q
def tUn(r:V→Hp→VK→Prop)(ta:TE):TE:=fun σ H Q=>ta σ H fun x H1=>r x H1 Q
def rI(C:Int→Int→Prop)(g:Int→Int→V):R2:=fun x y H Q=>∃ i j,x = .int i∧y = .int j∧C i j∧Q (g i j) H
def rI0(g:Int→Int→V):R2:=fun x y H Q=>∃ i j,x = .int i∧y = .int j∧Q (g i j) H
def rU(g:Int→V):V→Hp→VK→Prop:=fun x H Q=>∃ i,x = .int i∧Q (g i) H
section
variable {X:Cx}{a b c:Expr}{ta tb tc:TE}{pos:Pos}
theorem binT(ha:PE X a ta)(hb:PE X b tb){pins:List (Addr×Obj)}{s:Shared}{σ:St}{H:Hp}{R:V→V→Hp→Prop}(I:Inv X pins σ H s)
  (h:ta σ H fun x H1=>tb σ H1 fun y H2=>R x y H2) {Q:Value→Shared→Prop} {f:Value→Value→Sem Value}
  (hf:∀ v u s2 x y H2,Inv X pins σ H2 s2→RelV x v→RelV y u→R x y H2→wpAny (model X.prog X.w) X.A (f v u) Q X.xe s2) :
  wpAny (model X.prog X.w) X.A (eval a X.env) (fun v s₁=>wpAny (model X.prog X.w) X.A (eval b X.env) (fun u s₂=>wpAny (model X.prog X.w) X.A (f v u) Q X.xe s₂) X.xe s₁) X.xe s:=by
 refine thn (ha pins s σ H _ I h) ?_
 rintro v s1 ⟨x,H1,I1,r1,q1⟩
 refine thn (hb pins s1 σ H1 _ I1 q1) ?_
 rintro u s2 ⟨y,H2,I2,r2,q2⟩
 exact hf v u s2 x y H2 I2 r1 r2 q2
theorem pe_op{op:Operator}{r:R2}(ho:OpR X (binaryOp op) r)(ha:PE X a ta)(hb:PE X b tb):PE X (.BinOp a op b pos) (tOp r ta tb):=by
 intro pins s σ H Q I h
 exact wpAny_BinOp (binT ha hb I h fun v u s2 x y H2 I2 rx ry q=>ho pins s2 σ H2 x y v u Q I2 rx ry q)
theorem pe_un{op:UnaryOp}{r:V→Hp→VK→Prop}(ho:UnR X (unaryOp op) r)(ha:PE X a ta):PE X (.UnaryOp op a pos) (tUn r ta):=by
 intro pins s σ H Q I h
 exact UnaryOp_ (thn (ha pins s σ H _ I h) fun v s1 hZ=>hZ.elim fun x hZ=>hZ.elim fun H1 hZ=>hZ.elim fun I1 hZ=>hZ.elim fun r1 q1=>ho pins s1 σ H1 x v Q I1 r1 q1)
theorem opI{f:Value→Value→Sem Value}{C:Int→Int→Prop}{g:Int→Int→Int}
  (rule:∀(i j:Int) (t u:Tok) (s:Shared) (Q:Value→Shared→Prop) (E:Value→Shared→Prop),C i j→Q (.int (g i j) s.toks) { s with toks:=s.toks+1 }→wpAny (model X.prog X.w) X.A (f (.int i t) (.int j u)) Q E s) :
  OpR X f (rI C fun i j => .int (g i j)):=by
 intro pins s σ H x y v u Q I rx ry h
 obtain⟨i,j,rfl,rfl,hc,q⟩:=h
 obtain⟨t,rfl⟩:=rx
 obtain⟨t',rfl⟩:=ry
 exact rule i j t t' s _ _ hc ⟨.int (g i j),H,I.tok _,⟨_,rfl⟩,q⟩
theorem opI0{f:Value→Value→Sem Value}{g:Int→Int→Int}
  (rule:∀(i j:Int) (t u:Tok) (s:Shared) (Q:Value→Shared→Prop) (E:Value→Shared→Prop),Q (.int (g i j) s.toks) { s with toks:=s.toks+1 }→wpAny (model X.prog X.w) X.A (f (.int i t) (.int j u)) Q E s) :
  OpR X f (rI0 fun i j => .int (g i j)):=by
 intro pins s σ H x y v u Q I rx ry h
 obtain⟨i,j,rfl,rfl,q⟩:=h
 obtain⟨t,rfl⟩:=rx
 obtain⟨t',rfl⟩:=ry
 exact rule i j t t' s _ _ ⟨.int (g i j),H,I.tok _,⟨_,rfl⟩,q⟩
theorem opB0{f:Value→Value→Sem Value}{g:Int→Int→Bool}
  (rule:∀(i j:Int) (t u:Tok) (s:Shared) (Q:Value→Shared→Prop) (E:Value→Shared→Prop),Q (.bool (g i j)) s→wpAny (model X.prog X.w) X.A (f (.int i t) (.int j u)) Q E s) :
  OpR X f (rI0 fun i j => .bl (g i j)):=by
 intro pins s σ H x y v u Q I rx ry h
 obtain⟨i,j,rfl,rfl,q⟩:=h
 obtain⟨t,rfl⟩:=rx
 obtain⟨t',rfl⟩:=ry
 exact rule i j t t' s _ _ ⟨.bl (g i j),H,I,rfl,q⟩
def CPow(i j:Int):Prop:=0≤j∧j≤1000000∧i.natAbs<2 ^ 64
def CMul(i j:Int):Prop:=(-(2 ^ 64)<i∧i<2 ^ 64)∨(-(2 ^ 64)<j∧j<2 ^ 64)
theorem CMul.ok{i j:Int}(h:CMul i j):IntMulOk i j:=by
 rcases h with⟨h1,h2⟩|⟨h1,h2⟩
 · exact .of_left (intBits_le_64 h1 h2)
 · exact .of_right (intBits_le_64 h1 h2)
theorem op_add:OpR X (binaryOp .Add) (rI0 fun i j => .int (i+j)):=opI0 fun _ _ _ _ _ _ _ q=>add_int q
theorem op_sub:OpR X (binaryOp .Sub) (rI0 fun i j => .int (i-j)):=opI0 fun _ _ _ _ _ _ _ q=>sub_int q
theorem zkJ:OpR X (binaryOp .Mod) (rI (fun _ j=>j≠0) fun i j => .int (i.fmod j)):=opI fun _ _ _ _ _ _ _ hc q=>mod_int' hc q
theorem op_pow:OpR X (binaryOp .Pow) (rI CPow fun i j => .int (i ^ j.toNat)):=opI fun _ _ _ _ _ _ _ hc q=>pow_int_small hc.1 hc.2.1 hc.2.2 q
theorem unI{f:Value→Sem Value}{g:Int→Int}
  (rule:∀(i:Int) (t:Tok) (s:Shared) (Q:Value→Shared→Prop) (E:Value→Shared→Prop),Q (.int (g i) s.toks) { s with toks:=s.toks+1 }→wpAny (model X.prog X.w) X.A (f (.int i t)) Q E s) :
  UnR X f (rU fun i => .int (g i)):=by
 intro pins s σ H x v Q I rx h
 obtain⟨i,rfl,q⟩:=h
 obtain⟨t,rfl⟩:=rx
 exact rule i t s _ _ ⟨.int (g i),H,I.tok _,⟨_,rfl⟩,q⟩
theorem un_neg:UnR X (unaryOp .USub) (rU fun i => .int (-i)):=unI fun _ _ _ _ _ q=>neg_int q
end
def scal:V→V→Bool
 | .non,.non=>true|.non,.int _=>true|.int _,.non=>true|.non,.bl _=>true|.bl _,.non=>true|.non,.str _=>true|.str _,.non=>true
 | .int _,.int _=>true|.bl _,.bl _=>true|.str _,.str _=>true|.byt _,.byt _=>true
 | .int _,.str _=>true|.str _,.int _=>true|.bl _,.str _=>true|.str _,.bl _=>true
 | _,_=>false
section
variable {X:Cx}{a b c:Expr}{ta tb tc:TE}{pos:Pos}
theorem fin_bl{pins:List (Addr×Obj)}{σ:St}{H:Hp}{s:Shared}{Q:VK}{k k':Bool}(I:Inv X pins σ H s)(q:Q (.bl k) H)(e:k=k'):EP X pins σ Q (.bool k') s:=by
 subst e
 exact⟨.bl k,H,I,rfl,q⟩
theorem op_lt:OpR X (compareOp .Lt) (rI0 fun i j => .bl (decide (i<j))):=opB0 fun _ _ _ _ _ _ _ q=>lt_int q
theorem op_le:OpR X (compareOp .LtE) (rI0 fun i j => .bl (decide (i≤j))):=opB0 fun _ _ _ _ _ _ _ q=>le_int q
theorem op_gt:OpR X (compareOp .Gt) (rI0 fun i j => .bl (decide (j<i))):=opB0 fun _ _ _ _ _ _ _ q=>gt_int q
theorem op_ge:OpR X (compareOp .GtE) (rI0 fun i j => .bl (decide (j≤i))):=opB0 fun _ _ _ _ _ _ _ q=>ge_int q
theorem op_isN:OpR X (compareOp .Is) (fun x y H Q=>y = .non∧Q (.bl (decide (x = .non))) H):=by
 intro pins s σ H x y v u Q I rx ry h
 obtain⟨rfl,q⟩:=h
 cases ry
 refine is_none_gen (fin_bl I q ?_)
 cases x<;>first
  | (cases rx;rfl)
  | (obtain⟨t,rfl⟩:=rx;rfl)
theorem OpR.or{f:Value→Value→Sem Value}{r r':R2}(h:OpR X f r)(h':OpR X f r'):OpR X f (fun x y H Q=>r x y H Q∨r' x y H Q):=by
 intro pins s σ H x y v u Q I rx ry q
 rcases q with q|q
 · exact h pins s σ H x y v u Q I rx ry q
 · exact h' pins s σ H x y v u Q I rx ry q
theorem z0o(b:Expr){op:CmpOp}(h:op ≠ .In:=by decide)(h2:op ≠ .NotIn:=by decide):behindInMarks op b=false:=by
 have e1:(op==CmpOp.In)=false:=by cases op<;>first|rfl|exact absurd rfl h
 have e2:(op==CmpOp.NotIn)=false:=by cases op<;>first|rfl|exact absurd rfl h2
 cases b<;>simp[behindInMarks,e1,e2]
theorem zkK{op:CmpOp}{r:R2}(ho:OpR X (compareOp op) r)(ha:PE X a ta)(hb:PE X b tb)(hm:behindInMarks op b=false):PE X (.Compare a [op] [b] pos) (tOp r ta tb):=by
 intro pins s σ H Q I h
 exact wpAny_Compare1 (binT ha hb I h fun v u s2 x y H2 I2 rx ry q=>ho pins s2 σ H2 x y v u Q I2 rx ry q) hm
def tTest(t:TE):TT:=fun σ H Q=>t σ H fun x H'=>∃ k,x = .bl k∧Q k H'
theorem zkL{op:CmpOp}{r:R2}(ho:OpR X (compareOp op) r)(ha:PE X a ta)(hb:PE X b tb)(hm:behindInMarks op b=false):PT X (.Compare a [op] [b] pos) (tTest (tOp r ta tb)):=by
 intro pins s σ H Q I h
 refine wpAny_isTrue_Compare1 (thn (ha pins s σ H _ I h) fun v s1 hZ=>hZ.elim fun x hZ=>hZ.elim fun H1 hZ=>hZ.elim fun I1 hZ=>hZ.elim fun r1 q1=>thn (hb pins s1 σ H1 _ I1 q1) fun u s2 ⟨y,H2,I2,r2,q2⟩ =>
  thn (ho pins s2 σ H2 x y v u _ I2 r1 r2 q2) fun c s3 hZ=>hZ.elim fun z hZ=>hZ.elim fun H3 hZ=>hZ.elim fun I3 hZ=>hZ.elim fun r3 hZ=>hZ.elim fun k hZ=>hZ.elim fun e q3=>?_) hm
 subst e
 cases r3
 exact wpAny_truthy_bool ⟨H3,I3,q3⟩
def zhf(r r':R2)(ta tb tc:TE):TE:=fun σ H Q=>ta σ H fun x H1=>tb σ H1 fun y H2=>r x y H2 fun z H3=>∃ k,z = .bl k ∧
 (if k=true then tc σ H3 fun w' H4=>r' y w' H4 Q else Q (.bl false) H3)
theorem zhg{op op':CmpOp}{r r':R2}(ho:OpR X (compareOp op) r)(ho':OpR X (compareOp op') r')(ha:PE X a ta)(hb:PE X b tb)(hc:PE X c tc)
  (hm:lastMarks [op,op'] [b,c]=false:=by with_unfolding_all rfl):PE X (.Compare a [op,op'] [b,c] pos) (zhf r r' ta tb tc):=by
 intro pins s σ H Q I h
 refine Compare_chain (thn (ha pins s σ H _ I h) fun v s1 hZ=>hZ.elim fun x hZ=>hZ.elim fun H1 hZ=>hZ.elim fun I1 hZ=>hZ.elim fun r1 q1=>chain_link (thn (hb pins s1 σ H1 _ I1 q1) fun u s2 ⟨y,H2,I2,r2,q2⟩ =>
  thn (ho pins s2 σ H2 x y v u _ I2 r1 r2 q2) fun d s3 hZ=>hZ.elim fun z hZ=>hZ.elim fun H3 hZ=>hZ.elim fun I3 hZ=>hZ.elim fun r3 hZ=>hZ.elim fun k hZ=>hZ.elim fun e q3=>?_)) hm
 subst e
 cases r3
 refine wpAny_truthy_bool ?_
 cases k with
 | false=>exact ite_ff ⟨.bl false,H3,I3,rfl,q3⟩
 | true=>exact ite_tt (chain_last (thn (hc pins s3 σ H3 _ I3 q3) fun w' s4 hZ=>hZ.elim fun z' hZ=>hZ.elim fun H4 hZ=>hZ.elim fun I4 hZ=>hZ.elim fun r4 q4=>ho' pins s4 σ H4 y z' u w' Q I4 r2 r4 q4))
def TruV(K:PySem.W.Frag)(x:V)(H:Hp)(k:Bool):Prop :=
 match x with
 | .non=>k=false
 | .bl b=>k=b
 | .int i=>k=(i != 0)
 | .str y=>y.length≤sizeLine∧k=((y.length:Int) != 0)
 | .byt y=>y.size≤sizeLine∧k=((y.size:Int) != 0)
 | .ref p=>(∃ xs,SqL K H p xs∧k=!xs.isEmpty)∨(∃ xs,SqT K H p xs∧k=!xs.isEmpty)∨∃ kvs,H p=some (.dK kvs)∧k=!kvs.isEmpty
 | _=>False
theorem zcg{κ:Type}{kvs:List (κ×V)}{vs:List (κ×Value)}(r:KV kvs vs):(!vs.isEmpty)=!kvs.isEmpty:=by
 cases r<;>rfl
theorem z7w{xs:List V}{its:List Value}(r:Vals xs its):(!its.toArray.isEmpty)=!xs.isEmpty:=by
 cases r<;>simp
theorem z68:(sizeLine:Nat)<2 ^ 63:=by rw[sizeLine_eq];decide
theorem tru_ok:TruR X (fun x H Q=>∃ k,TruV X.K x H k∧Q k H):=by
 intro pins s σ H x v Q I rx h
 obtain⟨k,e,q⟩:=h
 have hl:=z68
 have hs:sizeLine=16777216:=sizeLine_eq
 cases x with
 | non =>
  cases rx
  have e':k=false:=e
  subst e'
  exact truthy_none ⟨H,I,q⟩
 | bl b =>
  cases rx
  have e':k=b:=e
  subst e'
  exact wpAny_truthy_bool ⟨H,I,q⟩
 | int i =>
  obtain⟨t,rfl⟩:=rx
  have e':k=(i != 0):=e
  subst e'
  exact PySem.P.truthy_int ⟨H,I,q⟩
 | str y =>
  obtain⟨t,rfl⟩:=rx
  obtain⟨hy,e'⟩:y.length≤sizeLine∧k=((y.length:Int) != 0):=e
  subst e'
  exact PySem.P.truthy_str (by omega) ⟨H,I.tok _,q⟩
 | byt y =>
  obtain⟨t,rfl⟩:=rx
  obtain⟨hy,e'⟩:y.size≤sizeLine∧k=((y.size:Int) != 0):=e
  subst e'
  exact PySem.W.truthy_bytes (by omega) ⟨H,I.tok _,q⟩
 | ref p =>
  cases rx
  have e':(∃ xs,SqL X.K H p xs∧k=!xs.isEmpty)∨(∃ xs,SqT X.K H p xs∧k=!xs.isEmpty)∨∃ kvs,H p=some (.dK kvs)∧k=!kvs.isEmpty:=e
  rcases e' with⟨xs,hx,e'⟩|⟨xs,hx,e'⟩|⟨kvs,hx,e'⟩
  · subst e'
    obtain⟨its,r,pl,hz⟩:=I.list hx
    have hlen:=r.length
    exact wpAny_truthy_list pl.isList (by simp only[List.size_toArray];omega) ⟨H,I.tok _,by rw[z7w r];exact q⟩
  · subst e'
    obtain⟨its,r,pl,hz⟩:=I.tuple hx
    have hlen:=r.length
    exact truthy_tuple pl (by simp only[List.size_toArray];omega) ⟨H,I.tok _,by rw[z7w r];exact q⟩
  · subst e'
    obtain⟨hz,hS,vs,r,m⟩:kvs.length≤sizeLine∧(p==sysModules)=false∧∃ vs,KV kvs vs∧s.heap.DictOf (za1 X.prog X.w) p vs:=I.hok p _ hx
    have hlen:kvs.length=vs.length:=Paired.length r
    exact wpAny_truthy_dict hS m (by omega) ⟨H,I.tok _,by rw[zcg r];exact q⟩
 | _=>exact(show False from e).elim
theorem zhh(ha:PE X a ta)(he:∀ whole,isTrue a X.env whole=(do let v ←whole;standAt a.pos;holding [v] (truthy v))):
  PT X a (fun σ H Q=>ta σ H fun x H'=>∃ k,TruV X.K x H' k∧Q k H'):=by
 intro pins s σ H Q I h
 exact isTrue_plain (thn (ha pins s σ H _ I h) fun v s1 hZ=>hZ.elim fun x hZ=>hZ.elim fun H1 hZ=>hZ.elim fun I1 hZ=>hZ.elim fun r1 q1=>tru_ok pins s1 σ H1 x v Q I1 r1 q1) (he _)
theorem zfw{x:V}{us:List Value}(r:Vals [x] us):∃ u,us=[u]∧RelV x u:=by
 cases r with
 | cons r1 r2=>cases r2;exact⟨_,rfl,r1⟩
theorem vals2{x y:V}{us:List Value}(r:Vals [x,y] us):∃ u w',us=[u,w']∧RelV x u∧RelV y w':=by
 cases r with
 | cons r1 r2 =>
  cases r2 with
  | cons r3 r4=>cases r4;exact⟨_,_,rfl,r1,r3⟩
theorem zhi:CallR X (.builtin "abs") (fun xs H Q=>∃ i,xs=[.int i]∧Q (.int (if i<0 then -i else i)) H):=by
 intro pins s σ H xs us Q I r h
 obtain⟨i,rfl,q⟩:=h
 obtain⟨u,rfl,t,rfl⟩:=zfw r
 exact call_abs_int fun u tk=>⟨.int (if i<0 then -i else i),H,I.tok _,⟨_,rfl⟩,q⟩
end
end L2
namespace L2
open PySem PySem.Spec PyProof.Rows
structure ObjM(h:Heap)(x dx C:Addr)(mA:Str→Option Value):Prop where
 obj:h.get? x=some (PySem.W.instObj C dx)
 ns:h.Ns1 dx mA
 ne:dx≠x
theorem zgr{h:Heap}{dx:Addr}{mA:Str→Option Value}(n:h.Ns1 dx mA):∃ od,h.get? dx=some od∧∀ name,PySem.W.lookIn name od=some (mA name):=by
 obtain⟨o,es,ep,ho,hd,hk,_,hm⟩:=n
 refine⟨o,ho,fun name=>?_⟩
 have e:=hm name
 unfold nsFind findBy at e
 rw[←Array.find?_toList]at e
 unfold PySem.W.lookIn
 rw[hd]
 dsimp only
 split
 · rename_i y q
   rw[q]at e
   exact congrArg some e
 · rename_i q
   rw[q]at e
   have a:es.toList.any (·.refKey)=false:=by
    rw[List.any_eq_false]
    intro y hy
    obtain⟨z,t,hkey⟩:=hk y (Array.mem_toList_iff.mp hy)
    simp[DictEntry.refKey,hkey]
   have a':¬es.toList.any (·.refKey)=true:=by rw[a];exact Bool.false_ne_true
   rw[if_neg a']
   exact congrArg some e
theorem ObjM.look{h:Heap}{x dx C:Addr}{mA:Str→Option Value}(I:ObjM h x dx C mA):∃ od,PySem.W.InstAt h x (PySem.W.instObj C dx) C (some od)∧∀ name,PySem.W.lookIn name od=some (mA name) :=
 let ⟨od,ho,hl⟩:=zgr I.ns
 ⟨od,⟨I.obj,rfl,rfl,ho⟩,hl⟩
section
variable {prog:Program}{w:World}{A:Around}{E:Value→Shared→Prop}{s:Shared}{K:PySem.W.Frag}{x dx C f:Addr}{mA:Str→Option Value}{name:Str}{v:Value}
end
theorem RelO.none_of{o:Option Value}(r:RelO none o):o=none:=by
 cases o with
 | none=>rfl
 | some u=>exact(show False from r).elim
section
variable {P:Program}{w:World}{H H':Hp}{h h':Heap}{a C dx:Addr}{fs fs':List (Str×V)}
theorem zkM(hok:HOk P w H h)(e:H a=some (.ins C dx fs)):∃ mA,ObjM h a dx C mA∧(∀ f,RelO (fs.lookup f) (mA f))∧PySem.Within mA (fs.map (·.1))∧fs.length≤1000∧H dx=some (.own a):=by
 obtain⟨d,z,ne,ob,mA,n,r,q⟩:=(show ObjOk P w H h a (.ins C dx fs)from hok a _ e)
 exact⟨mA,⟨ob,n,ne⟩,r,q,z,d⟩
end
structure Cls(K:PySem.W.Frag)(C:Addr):Prop where
 pg:PySem.W.plainGet K C Str.empty=true
 hd:PySem.W.hasDictIn K C=true
 po:PySem.W.plainOver K C=true
 sa:PySem.W.findIn K (.ref C) "__setattr__" = some (some (.builtin "object.__setattr__"))
theorem Cls.get{K:PySem.W.Frag}{C:Addr}(c:Cls K C)(f:Str):PySem.W.plainGet K C f=true:=c.pg
structure Con(K:PySem.W.Frag)(C:Addr)(f:Str)(v:V)(u:Value):Prop where
 at_:PySem.W.findIn K (.ref C) f=some (some u)
 rel:RelV v u
 get:PySem.W.specialIn K u "__get__" = some none
 cp:PySem.W.copiedNames.contains f=false
structure Meth(K:PySem.W.Frag)(C:Addr)(m:Str)(f:Addr):Prop where
 at_:PySem.W.findIn K (.ref C) m=some (some (.ref f))
 fn:PySem.W.isFn K (.ref f)=true
 kp:PySem.W.keepIn K (.ref f)=true
section
variable {X:Cx}{pins:List (Addr×Obj)}{σ:St}{H:Hp}{s:Shared}{a C dx:Addr}{fs:List (Str×V)}{f:Str}{v:V}{A:Around}{E:Value→Shared→Prop}
theorem Inv.made(I:Inv X pins σ H s):Inv X pins σ (upd (upd H s.heap.objs.size (.own (s.heap.objs.size+1))) (s.heap.objs.size+1) (.ins C s.heap.objs.size []))
  { s with heap:=(s.heap.push PySem.W.emptyDict).push (PySem.W.instObj C s.heap.objs.size) }:=by
 have e1:(s.heap.push PySem.W.emptyDict).get? s.heap.objs.size=some PySem.W.emptyDict:=Heap.get?_push_size s.heap rfl
 have e2:((s.heap.push PySem.W.emptyDict).push (PySem.W.instObj C s.heap.objs.size)).get? (s.heap.objs.size+1)=some (PySem.W.instObj C s.heap.objs.size):=by
  have:=Heap.get?_push_size (s.heap.push PySem.W.emptyDict) (o:=PySem.W.instObj C s.heap.objs.size) rfl
  rwa [Heap.size_push]at this
 have e3:(s.heap.push PySem.W.emptyDict).Ns s.heap.objs.size (fun _=>none):=⟨PySem.W.emptyDict,#[],_,e1,rfl,(fun e he=>absurd he (by simp)),fun _=>rfl⟩
 have I1:=I.laid (a:=s.heap.objs.size) (o := .own (s.heap.objs.size+1)) (h':=s.heap.push PySem.W.emptyDict) (t':=s.toks) (fun b u q=>Heap.get?_push_of_some _ q) (Nat.le_refl _) ⟨_,e1⟩
 refine I1.laid (a:=s.heap.objs.size+1) (o := .ins C s.heap.objs.size []) (t':=s.toks) (fun b u q=>Heap.get?_push_of_some _ q) (Nat.le_of_eq (Heap.size_push _ _)) ?_
 have ne:s.heap.objs.size≠s.heap.objs.size+1:=Nat.ne_of_lt (Nat.lt_succ_self _)
 refine⟨by rw[z0u ne,z0S],Nat.zero_le _,ne,e2,fun _=>none,(Heap.Ns1.of_empty e3).at fun o q=>Heap.get?_push_of_some _ q,fun _=>True.intro,fun y hy=>absurd rfl hy⟩
end
section
variable {X:Cx}{o e value:Expr}{f:Str}{pos pos' tpos:Pos}{ta tv:TE}
end
section
variable {X:Cx}{pins:List (Addr×Obj)}{σ:St}{H:Hp}{s:Shared}{A:Around}{E:Value→Shared→Prop}{Q:Value→Shared→Prop}{c:Value}{b:Bool}
inductive TyOf (K:PySem.W.Frag) (H:Hp):V→Value→Prop where
 | non:TyOf K H .non (.type "NoneType")
 | bl (x:Bool):TyOf K H (.bl x) (.type "bool")
 | int (i:Int):TyOf K H (.int i) (.type "int")
 | str (x:Str):TyOf K H (.str x) (.type "str")
 | flt (x:UInt64):TyOf K H (.flt x) (.type "float")
 | lst {a:Addr} {xs:List V} (e:H a=some (.lst xs)):TyOf K H (.ref a) (.type "list")
 | frz {a:Addr} {o:Obj} {xs:List V} (e:H a=some (.frz o (.lst xs))):TyOf K H (.ref a) (.type "list")
 | tup {a:Addr} {xs:List V} (e:H a=some (.tup xs)):TyOf K H (.ref a) (.type "tuple")
 | dK {a:Addr} {kvs:List (Key×V)} (e:H a=some (.dK kvs)):TyOf K H (.ref a) (.type "dict")
 | dT {a:Addr} {kvs:List (List Key×V)} (e:H a=some (.dT kvs)):TyOf K H (.ref a) (.type "dict")
 | ins {a C dx:Addr} {fs:List (Str×V)} (e:H a=some (.ins C dx fs)) (cl:Cls K C) (ha:PySem.W.findIn K (.ref C) "__class__" = some (some (.builtin "object.__class__")))
  (hn:PySem.W.specialIn K (.builtin "object.__class__") "__get__" = some (some (.builtin "getset_descriptor.__get__"))) (htk:PySem.W.takesIn K (.builtin "object.__class__")=some true)
  (hm:PySem.W.mroIn K C (.type "object")=some true):TyOf K H (.ref a) (.ref C)
theorem z4v{x:V}{u t:Value}(I:Inv X pins σ H s)(rx:RelV x u)(ty:TyOf X.K H x t)(e:PySem.W.kitOne X.K t c=some b)(h:∀ tk,Q (.bool b) { s with toks:=tk }):
  wpAny (model X.prog X.w) A (call (.builtin "isinstance") [u,c]) Q E s:=by
 cases ty with
 | non=>cases (show u=Value.none from rx);exact PySem.W.kia_one PySem.W.kitx_none I.kIn True.intro e (fun z=>nomatch z) h
 | bl y=>cases (show u=Value.bool y from rx);exact PySem.W.kia_one PySem.W.kitx_bool I.kIn True.intro e (fun z=>nomatch z) h
 | int i=>obtain⟨t,q⟩:=(show ∃ t,u=Value.int i t from rx);cases q;exact PySem.W.kia_one PySem.W.kitx_int I.kIn True.intro e (fun z=>nomatch z) h
 | str y=>obtain⟨t,q⟩:=(show ∃ t,u=Value.str y t from rx);cases q;exact PySem.W.kia_one PySem.W.kitx_str I.kIn True.intro e (fun z=>nomatch z) h
 | flt y=>obtain⟨t,q⟩:=(show ∃ t,u=Value.float y t from rx);cases q;exact PySem.W.kia_one PySem.W.kitx_float I.kIn True.intro e (fun z=>nomatch z) h
 | @lst a xs ea =>
  cases (show u=Value.ref a from rx)
  obtain⟨_,_,n,_,h1⟩:=(show ObjOk X.prog X.w H s.heap a (.lst xs)from I.hok a _ ea)
  exact PySem.W.kia_one PySem.W.kitx_list I.kIn ⟨_,h1,rfl⟩ e (fun z=>nomatch z) h
 | @frz a ob xs ea =>
  cases (show u=Value.ref a from rx)
  obtain⟨_,_,_,n,_,h1⟩:=(show ObjOk X.prog X.w H s.heap a (.frz ob (.lst xs))from I.hok a _ ea)
  exact PySem.W.kia_one PySem.W.kitx_list I.kIn ⟨_,h1,rfl⟩ e (fun z=>nomatch z) h
 | @tup a xs ea =>
  cases (show u=Value.ref a from rx)
  obtain⟨_,_,_,p⟩:=(show ObjOk X.prog X.w H s.heap a (.tup xs)from I.hok a _ ea)
  obtain⟨o,h1,h2,_⟩:=p
  exact PySem.W.kia_one PySem.W.kitx_tuple I.kIn ⟨o,h1,h2⟩ e (fun z=>nomatch z) h
 | @dK a kvs ea =>
  cases (show u=Value.ref a from rx)
  obtain⟨_,_,vs,_,p⟩:=(show ObjOk X.prog X.w H s.heap a (.dK kvs)from I.hok a _ ea)
  obtain⟨o,es,ep,h1,h2,_⟩:=p
  exact PySem.W.kia_one PySem.W.kitx_dict I.kIn ⟨o,h1,h2.1⟩ e (fun z=>nomatch z) h
 | @dT a kvs ea =>
  cases (show u=Value.ref a from rx)
  obtain⟨_,_,xs,_,o,es,ep,h1,h2,_⟩:=(show ObjOk X.prog X.w H s.heap a (.dT kvs)from I.hok a _ ea)
  exact PySem.W.kia_one PySem.W.kitx_dict I.kIn ⟨o,h1,h2.1⟩ e (fun z=>nomatch z) h
 | @ins a C dx fs ea cl ha hn htk hm =>
  cases (show u=Value.ref a from rx)
  obtain⟨mA,O,_⟩:=zkM I.hok ea
  obtain⟨od,J,_⟩:=O.look
  exact PySem.W.kia_one (PySem.W.kitx_own (cl.get _) cl.hd ha hn htk hm) I.kIn J e (fun z=>nomatch z) h
end
end L2
namespace L2
open PySem PySem.Spec PyProof.Rows
structure Room(k:Nat)(A:Around):Prop where
 hd:A.handled=none
 dp:A.depth+3*k+5<recursionLimit
 un:A.units+16*k+200<cLine
theorem Room.mono{j k:Nat}{A:Around}(r:Room k A)(h:j≤k):Room j A:=⟨r.hd,by have:=r.dp;omega,by have:=r.un;omega⟩
theorem Room.deeper{k:Nat}{A:Around}(r:Room (k+1) A)(env:Env):Room k (A.deeper env) :=
 ⟨r.hd,by have:=r.dp;show A.depth+1+3*k+5<_;omega,by have:=r.un;show A.units+3+16*k+200<_;omega⟩
theorem Room.in1{k:Nat}{A:Around}(r:Room (k+1) A):Room k A.in1 :=
 ⟨r.hd,by have:=r.dp;show A.depth+3*k+5<_;omega,by have:=r.un;show A.units+1+16*k+200<_;omega⟩
theorem Room.depth{k:Nat}{A:Around}(r:Room k A):A.depth<recursionLimit:=by have:=r.dp;omega
theorem Room.units{k:Nat}{A:Around}(r:Room k A):A.units+64<cLine:=by have:=r.un;omega
def tNil:TA:=fun _ H Q=>Q [] H
def tCons(ta:TE)(tr:TA):TA:=fun σ H Q=>ta σ H fun x H1=>tr σ H1 fun xs H2=>Q (x::xs) H2
section
variable {X:Cx}{e:Expr}{es:List Expr}{te:TE}{t:TA}{pos:Pos}
theorem zch:PA X [] tNil:=fun _ _ _ _ H Q I h=>Calls.spliced_nil ⟨[],H,I,.nil,h⟩
theorem z7g(ha:PE X e te)(hr:PA X es t)(hs:starEach (e::es) X.env=(false,eval e X.env)::starEach es X.env:=by rfl):PA X (e::es) (tCons te t):=by
 intro pos pins s σ H Q I h
 rw[hs]
 show wpAny _ _ (spliced ((false,eval e X.env)::backTo pos (starEach es X.env))) _ _ s
 refine Calls.spliced_cons (thn (ha pins s σ H _ I h) ?_)
 rintro u s1 ⟨x,H1,I1,r1,q1⟩
 exact thn (hr pos pins s1 σ H1 _ I1 q1) fun us s2 hZ=>hZ.elim fun xs hZ=>hZ.elim fun H2 hZ=>hZ.elim fun I2 hZ=>hZ.elim fun r2 q2=>⟨x::xs,H2,I2,.cons r1 r2,q2⟩
def tTup(t:TA):TE:=fun σ H Q=>t σ H fun xs H1=>xs.length≤sizeLine∧∀ p,H1 p=none→Q (.ref p) (upd H1 p (.tup xs))
def tLst(t:TA):TE:=fun σ H Q=>t σ H fun xs H1=>xs.length≤sizeLine∧∀ p,H1 p=none→Q (.ref p) (upd H1 p (.lst xs))
theorem pe_tup{x1}(h:PA X es t):PE X (.Tuple es x1 pos) (tTup t):=by
 intro pins s σ H Q I hq
 refine wpAny_Tuple_spliced (thn (h pos pins s σ H _ I hq) fun us s1 hZ=>hZ.elim fun xs hZ=>hZ.elim fun H1 hZ=>hZ.elim fun I1 hZ=>hZ.elim fun r hZ=>hZ.elim fun z q=>⟨by rw[←r.length];exact z,?_⟩)
 have hf:H1 s1.heap.objs.size=none:=I1.hok.fresh (Nat.le_refl _)
 refine⟨.ref s1.heap.objs.size,upd H1 s1.heap.objs.size (.tup xs),I1.laid (t':=s1.toks) (fun b u e=>Heap.get?_push_of_some _ e) (Nat.le_refl _) ?_,rfl,q _ hf⟩
 exact⟨z,us,r,⟨_,Heap.get?_push_size _ rfl,rfl,_,rfl⟩⟩
theorem pe_lst(h:PA X es t):PE X (.List es pos) (tLst t):=by
 intro pins s σ H Q I hq
 refine wpAny_List_spliced (thn (h pos pins s σ H _ I hq) fun us s1 hZ=>hZ.elim fun xs hZ=>hZ.elim fun H1 hZ=>hZ.elim fun I1 hZ=>hZ.elim fun r hZ=>hZ.elim fun z q=>⟨by rw[←r.length];exact z,?_⟩)
 have hf:H1 s1.heap.objs.size=none:=I1.hok.fresh (Nat.le_refl _)
 refine⟨.ref s1.heap.objs.size,upd H1 s1.heap.objs.size (.lst xs),I1.laid (t':=s1.toks) (fun b u e=>Heap.get?_push_of_some _ e) (Nat.le_refl _) ?_,rfl,q _ hf⟩
 exact⟨z,us,0,r,Heap.get?_push_size _ rfl⟩
end
abbrev Sp:=List V→Hp→VK→XK→Prop
abbrev CXT:=List Env→Hp→Shared→XK→Value→Shared→Prop
structure Env0(P:Program)(w:World)(K:PySem.W.Frag)(mg:Str→Option Value)(base:Heap)(A:Around)(outer:List Env)(s:Shared)(H:Hp):Prop where
 frames:A.frames=some outer
 mod:Mod K mg base
 bs:∀ b o,base.get? b=some o→s.heap.get? b=some o∧H b=none
 bsz:base.objs.size≤s.heap.objs.size
 funs:s.heap.FunFrames base outer
 frf:∀ b∈frs outer,H b=none
 hok:HOk P w H s.heap
 bare:AllBare s.gens
def CE(outer:List Env)(P:Program)(w:World)(H:Hp)(s:Shared)(Q:VK)(u:Value)(s':Shared):Prop :=
 ∃ v H',s'.os=s.os∧AllBare s'.gens∧Un (frs outer) [] H H' s.heap s'.heap∧HOk P w H' s'.heap∧RelV v u∧Q v H'
def CR(CX:CXT)(outer:List Env)(P:Program)(w:World)(H:Hp)(s:Shared)(Q:VK)(E:XK)(r:Result)(s':Shared):Prop :=
 match r with
 | .ok (.ret u)=>CE outer P w H s Q u s'
 | .ok _=>False
 | .error e=>CX outer H s E e s'
structure FnOk(P:Program)(w:World)(K:PySem.W.Frag)(mg:Str→Option Value)(base:Heap)(CX:CXT)(k:Nat)(f:Addr)(fd:FuncData)(ps:List Str)(sp:Sp):Prop where
 len:∀ vs H Q E,sp vs H Q E→vs.length=ps.length
 run:∀(A:Around) (outer:List Env) (s:Shared) (H:Hp) (args:Args) (us:List Value) (vs:List V) (Q:VK) (E:XK),Room k A→Env0 P w K mg base A outer s H→BindsTo s fd args (ps.zip us)→Vals vs us→sp vs H Q E →
  codeAny (model P w) A (.call (.ref f) args) (CR CX outer P w H s Q E) s
theorem FnOk.mono{P:Program}{w:World}{K:PySem.W.Frag}{mg:Str→Option Value}{base:Heap}{CX:CXT}{j k:Nat}{f:Addr}{fd:FuncData}{ps:List Str}{sp:Sp}(F:FnOk P w K mg base CX j f fd ps sp)(h:j≤k):
 FnOk P w K mg base CX k f fd ps sp:=⟨F.len,fun A outer s H args us vs Q E hr=>F.run A outer s H args us vs Q E (hr.mono h)⟩
theorem FnOk.imp{P:Program}{w:World}{K:PySem.W.Frag}{mg:Str→Option Value}{base:Heap}{CX:CXT}{k:Nat}{f:Addr}{fd:FuncData}{ps:List Str}{sp sp':Sp}(F:FnOk P w K mg base CX k f fd ps sp)
  (h:∀ vs H Q E,sp' vs H Q E→sp vs H Q E):FnOk P w K mg base CX k f fd ps sp' :=
 ⟨fun vs H Q E q=>F.len vs H Q E (h _ _ _ _ q),fun A outer s H args us vs Q E hr he hb hv hs=>F.run A outer s H args us vs Q E hr he hb hv (h _ _ _ _ hs)⟩
theorem Env0.in1{P:Program}{w:World}{K:PySem.W.Frag}{mg:Str→Option Value}{base:Heap}{A:Around}{outer:List Env}{s:Shared}{H:Hp}(e:Env0 P w K mg base A outer s H):
 Env0 P w K mg base A.in1 outer s H:=⟨e.frames,e.mod,e.bs,e.bsz,e.funs,e.frf,e.hok,e.bare⟩
section
variable {X:Cx}{pins:List (Addr×Obj)}{σ:St}{H:Hp}{s s':Shared}
theorem Inv.env0(I:Inv X pins σ H s):Env0 X.prog X.w X.K X.mg X.base X.A X.stack s H :=
 ⟨I.ok.frames,I.ok.mod,I.bs,Nat.le_trans I.ok.bsz I.sz,I.stack,I.stkFree,I.hok,I.bare⟩
theorem Inv.after{Q:VK}{u:Value}(I:Inv X pins σ H s)(h:CE X.stack X.prog X.w H s Q u s'):EP X pins σ Q u s':=by
 obtain⟨v,H',os,bare,un,hok,r,q⟩:=h
 obtain⟨hh,g,d,t,os'⟩:=s'
 obtain rfl:os'=s.os:=os
 exact⟨v,H',I.call (h':=hh) (g':=g) (d':=d) (t':=t) (ch:=[]) un hok bare (fun b z=>absurd z (by simp)),r,q⟩
end
def tCall(sp:Sp)(dvs:List V)(E:XK)(t:TA):TE:=fun σ H Q=>t σ H fun vs H1=>sp (vs++dvs) H1 Q E
def Binds(K:PySem.W.Frag)(fd:FuncData)(ps:List Str)(ds:List Value):Prop :=
 ∀(s:Shared) (us:List Value),K.In s.heap→(us++ds).length=ps.length→BindsTo s fd ⟨us,[]⟩ (ps.zip (us++ds))
theorem Binds.all{K:PySem.W.Frag}{fd:FuncData}{ps:List Str}(h:∀ us:List Value,us.length=ps.length→bindArgs fd ⟨us,[]⟩=pure (ps.zip us)):Binds K fd ps []:=fun s us _ hl=>by
 rw[List.append_nil]at hl ⊢
 exact .of_eq (h us hl)
def za4(CX:CXT)(X:Cx)(E:XK):Prop:=∀(pins:List (Addr×Obj)) (σ:St) (H:Hp) (s:Shared) (e:Value) (s':Shared),Inv X pins σ H s→CX X.stack H s E e s'→X.xe e s'
section
variable {X:Cx}{CX:CXT}{k:Nat}{f C:Addr}{fd:FuncData}{ps:List Str}{sp:Sp}{dvs:List V}{ds:List Value}{E:XK}{x m:Str}{p pos apos:Pos}{e o:Expr}{es:List Expr}{ta:TE}{t:TA}
theorem run_fn{pins:List (Addr×Obj)}{σ:St}{H:Hp}{s:Shared}{Q:VK}{us:List Value}{vs:List V}(F:FnOk X.prog X.w X.K X.mg X.base CX k f fd ps sp)(hr:Room k X.A)(hb:Binds X.K fd ps ds)(hd:Vals dvs ds)(hx:za4 CX X E)
  (I:Inv X pins σ H s) (r:Vals vs us) (h:sp (vs++dvs) H Q E):wpAny (model X.prog X.w) X.A (call (.ref f) us) (EP X pins σ Q) X.xe s:=by
 have r2:Vals (vs++dvs) (us++ds):=r.append hd
 have hl:(us++ds).length=ps.length:=by rw[←r2.length];exact F.len _ _ _ _ h
 refine wpAny_call (codeAny_mono (F.run X.A X.stack s H ⟨us,[]⟩ (us++ds) (vs++dvs) Q E hr I.env0 (hb s us I.kIn hl) r2 h) fun r s' hq=>?_)
 cases r with
 | error e=>exact hx pins σ H s e s' I hq
 | ok fl =>
  cases fl with
  | ret u=>exact I.after hq
  | next=>exact False.elim hq
  | brk=>exact False.elim hq
  | cont=>exact False.elim hq
theorem zkN(F:FnOk X.prog X.w X.K X.mg X.base CX k f fd ps sp)(hr:Room k X.A)(hg:Gl X x)(hm:X.mg x=some (.ref f))(hk:PySem.W.keepIn X.K (.ref f)=true)(hb:Binds X.K fd ps ds)(hd:Vals dvs ds)(hx:za4 CX X E)
  (ha:PA X (e::es) t) (hdb:(x==("__debug__" : Str))=false:=by decide) (he:starEach (e::es) X.env=(false,eval e X.env)::starEach es X.env:=by rfl) (hpl:(backTo pos (starEach es X.env)).any (·.1)=false:=by rfl) :
  PE X (.Call (.Name x p) (e::es) [] pos) (tCall sp dvs E t):=by
 intro pins s σ H Q I h
 refine wpAny_Call_Name_kw (zft I hg hm ?_ hdb)
 refine PySem.W.callWith_K (h₀:=X.base) I.ok.mod.kin hk (thn (ha pos pins s σ H _ I h) fun us s1 hZ=>hZ.elim fun vs hZ=>hZ.elim fun H1 hZ=>hZ.elim fun I1 hZ=>hZ.elim fun r q=>⟨I1.kIn,?_⟩) he hpl
 exact run_fn F hr hb hd hx I1 r q
structure Mk(K:PySem.W.Frag)(C f:Addr):Prop where
 makes:PySem.W.makesIn K C=true
 init:PySem.W.findIn K (.ref C) "__init__" = some (some (.ref f))
 fn:PySem.W.isFn K (.ref f)=true
 kp:PySem.W.keepIn K (.ref C)=true
end
def PK(X:Cx)(kws:List Keyword)(t:TA):Prop :=
 ∀(pos:Pos) (pins:List (Addr×Obj)) (s:Shared) (σ:St) (H:Hp) (Q:List V→Hp→Prop),Inv X pins σ H s→t σ H Q→wpAny (model X.prog X.w) X.A (evalAll ((backToKw pos (keywordEach kws X.env)).map (·.2))) (AP X pins σ Q) X.xe s
section
variable {X:Cx}{CX:CXT}{k:Nat}{f C:Addr}{fd:FuncData}{ps ks:List Str}{sp:Sp}{E:XK}{x m:Str}{p pos apos kpos:Pos}{e o:Expr}{es:List Expr}{kws:List Keyword}{te ta:TE}{t tk:TA}{nm:Option Str}
theorem zhj:PK X [] tNil:=fun _ _ _ _ H Q I h=>wpAny_evalAll_nil ⟨[],H,I,.nil,h⟩
theorem zfx(ha:PE X e te)(hr:PK X kws t):PK X (⟨nm,e,kpos⟩::kws) (tCons te t):=by
 intro pos pins s σ H Q I h
 show wpAny _ _ (evalAll ((do let v ←eval e X.env;standAt pos;pure v)::(backToKw pos (keywordEach kws X.env)).map (·.2))) _ _ s
 refine wpAny_evalAll_cons (wpAny_bind (thn (ha pins s σ H _ I h) fun u s1 hZ=>hZ.elim fun x hZ=>hZ.elim fun H1 hZ=>hZ.elim fun I1 hZ=>hZ.elim fun r1 q1=>wpAny_bind (wpAny_standAt (wpAny_pure ?_))))
 exact thn (hr pos pins s1 σ H1 _ I1 q1) fun us s2 hZ=>hZ.elim fun xs hZ=>hZ.elim fun H2 hZ=>hZ.elim fun I2 hZ=>hZ.elim fun r2 q2=>⟨x::xs,H2,I2,.cons r1 r2,q2⟩
structure KBinds(K:PySem.W.Frag)(fd:FuncData)(ps ks:List Str)(g:List Value→List Value→List Value)(gV:List V→List V→List V):Prop where
 to:∀(s:Shared) (us ws:List Value),K.In s.heap→(g us ws).length=ps.length→BindsTo s fd ⟨us,ks.zip ws⟩ (ps.zip (g us ws))
 rel:∀{vs:List V} {us:List Value} {zs:List V} {ws:List Value},Vals vs us→Vals zs ws→Vals (gV vs zs) (g us ws)
variable {g:List Value→List Value→List Value}{gV:List V→List V→List V}
end
structure FnScope(N P:List Str)(sc:Scope):Prop where
 kind:sc.kind = .function
 co:sc.isCoroutine=false
 gen:sc.isGenerator=false
 nd:N.Nodup
 pre:N.take P.length=P
 par:∀ x∈P,sc.names.lookup x=some .local∨sc.names.lookup x=some .cell
 nofree:∀ y∈sc.names,y.2 ≠ .free
theorem z8W{kindOf:Str→Option NameKind}{x:Str}:∀{binds:List (Str×Value)} {m:Str→Option Value},(∀ v,(x,v) ∉ binds)→bindL kindOf binds m x=m x
 | [],_,_=>rfl
 | (n,v)::r,m,h=>by
  unfold bindL
  rw[z8W fun w hw=>h w (List.mem_cons_of_mem _ hw)]
  split
  · have:x≠n:=by rintro rfl;exact h v List.mem_cons_self
    simp[this]
  · rfl
theorem z8X{kindOf:Str→Option NameKind}{x:Str}:∀{binds:List (Str×Value)} {m:Str→Option Value},(∀ v,(x,v) ∉ binds)→bindC kindOf binds m x=m x
 | [],_,_=>rfl
 | (n,v)::r,m,h=>by
  unfold bindC
  rw[z8X fun w hw=>h w (List.mem_cons_of_mem _ hw)]
  split
  · rfl
  · have:x≠n:=by rintro rfl;exact h v List.mem_cons_self
    simp[this]
theorem z8Y{kindOf:Str→Option NameKind}{x:Str}{v:Value}:∀{P:List Str} {vs:List Value} {i:Nat} {m:Str→Option Value},P.Nodup→P[i]?=some x→vs[i]?=some v→kindOf x=some .local →
  bindL kindOf (P.zip vs) m x=some v
 | [],_,_,_,_,h,_,_=>by simp at h
 | _::_,[],_,_,_,_,h,_=>by simp at h
 | p::P,w::vs,0,m,nd,h1,h2,hk=>by
  simp at h1 h2;subst h1;subst h2
  show bindL kindOf ((p,w)::P.zip vs) m p=_
  unfold bindL
  rw[z8W fun v hv=>(List.nodup_cons.mp nd).1 (List.of_mem_zip hv).1,if_pos hk]
  simp
 | p::P,w::vs,i+1,m,nd,h1,h2,hk=>by
  show bindL kindOf ((p,w)::P.zip vs) m x=_
  unfold bindL
  exact z8Y (i:=i) (List.nodup_cons.mp nd).2 (by simpa using h1) (by simpa using h2) hk
theorem z8Z{kindOf:Str→Option NameKind}{x:Str}{v:Value}:∀{P:List Str} {vs:List Value} {i:Nat} {m:Str→Option Value},P.Nodup→P[i]?=some x→vs[i]?=some v→kindOf x≠some .local →
  bindC kindOf (P.zip vs) m x=some v
 | [],_,_,_,_,h,_,_=>by simp at h
 | _::_,[],_,_,_,_,h,_=>by simp at h
 | p::P,w::vs,0,m,nd,h1,h2,hk=>by
  simp at h1 h2;subst h1;subst h2
  show bindC kindOf ((p,w)::P.zip vs) m p=_
  unfold bindC
  rw[z8X fun v hv=>(List.nodup_cons.mp nd).1 (List.of_mem_zip hv).1,if_neg hk]
  simp
 | p::P,w::vs,i+1,m,nd,h1,h2,hk=>by
  show bindC kindOf ((p,w)::P.zip vs) m x=_
  unfold bindC
  exact z8Z (i:=i) (List.nodup_cons.mp nd).2 (by simpa using h1) (by simpa using h2) hk
def start(N:List Str)(vs:List V):St:=vs.map some++List.replicate (N.length-vs.length) none
def cxOf(CX:CXT)(P:Program)(w:World)(K:PySem.W.Frag)(mg:Str→Option Value)(base:Heap)(N:List Str)(qual:Str)(scope:Scope)(f:Addr)(cd:Value)(A:Around)(outer:List Env)(s:Shared)(H:Hp)(E:XK):Cx where
 prog:=P
 w:=w
 K:=K
 mg:=mg
 base:=base
 A:=A.deeper (envOfC qual scope s.heap.objs.size f cd)
 N:=N
 s₀:=s
 H₀:=H
 env:=envOfC qual scope s.heap.objs.size f cd
 outer:=outer
 stack:=envOfC qual scope s.heap.objs.size f cd::outer
 ex:=[]
 calm:=true
 fn:=fun _=>true
 pn:=[]
 xe:=fun e s'=>wpAny (model P w) (A.deeper (envOfC qual scope s.heap.objs.size f cd)) (leaving (envOfC qual scope s.heap.objs.size f cd) e) (fun _ s''=>CX outer H s E e s'') (fun e' s''=>CX outer H s E e' s'') s'
theorem zaN{sc:Scope}{n:Nat}{x:Str}(h:sc.names.lookup x=some .cell):∃ c,(cellsFrom n sc.names []).lookup x=some c:=by
 have q:=PySem.W.cellsFrom_some sc.names n [] (.inl h)
 exact Option.isSome_iff_exists.mp q
theorem zgs{CX:CXT}{P:Program}{w:World}{K:PySem.W.Frag}{mg:Str→Option Value}{base:Heap}{N ps:List Str}{qual:Str}{scope:Scope}{f:Addr}{cd:Value}{A:Around}{outer:List Env}{s s1:Shared}{H:Hp}{E:XK}{us:List Value}{vs:List V}
   (S:FnScope N ps scope) (hd:A.handled=none) (e0:Env0 P w K mg base A outer s H) (hl:vs.length=ps.length) (r:Vals vs us)
   (x:InCallC s s.heap.objs.size (bindL (envOfC qual scope s.heap.objs.size f cd).kindOf (ps.zip us) fun _=>none) (cellsFrom (s.heap.objs.size+1) scope.names []) (bindC (envOfC qual scope s.heap.objs.size f cd).kindOf (ps.zip us) fun _=>none) s1) :
   Inv (cxOf CX P w K mg base N qual scope f cd A outer s H E) [] (start N vs) H s1:=by
 have hpl:ps.length≤N.length:=by have:=congrArg List.length S.pre;rw[List.length_take]at this;omega
 obtain⟨h1,tk,rfl,hk⟩:=x.done
 have noA:∀ b:Addr,b ∉ (cxOf CX P w K mg base N qual scope f cd A outer s H E).ex:=fun b z=>absurd (show b∈([]:List Addr)from z) (by simp)
 refine⟨⟨e0.mod,S.kind,rfl,rfl,Nat.le_refl _,fun y z c h1 h2=>?_,fun y hy=>?_,fun y c _ h=>?_,fun _=>hd,Around.frames_deeper e0.frames,.inr ⟨rfl,rfl⟩,fun b z=>absurd z (noA b),e0.bs,e0.bsz,fun b _ _=>noA b,fun b z=>absurd z (noA b),e0.funs,e0.frf⟩,
   rfl,e0.bare,Un.kept hk,⟨_,x.toInCall.ns,fun i y v h1 h2 h3=>?_⟩,fun y c h=>⟨_,x.cell y c h⟩,e0.hok.fresh (Nat.le_refl _),fun y c h=>?_,fun p hp=>absurd (show p∈([]:List (Addr×Obj))from hp) (by simp),e0.hok.kept hk,?_⟩
 · exact name_of_addr x.apart (PySem.mem_of_lookup h1) (PySem.mem_of_lookup h2)
 · have hy:scope.names.lookup y=some .cell∨scope.names.lookup y=some .free:=hy
   rcases hy with hy|hy
   · exact zaN hy
   · exact absurd rfl (S.nofree _ (PySem.mem_of_lookup hy))
 · exact Nat.le_of_lt (x.above y c (PySem.mem_of_lookup h))
 · have hi:i<vs.length:=by
     unfold start at h2
     by_cases hi:i<vs.length
     · exact hi
     · rw[List.getElem?_append_right (by simpa using hi)]at h2
       rw[List.getElem?_replicate]at h2
       split at h2<;>cases h2
   have ha:vs[i]?=some v:=by
     unfold start at h2
     rw[List.getElem?_append_left (by simpa using hi),List.getElem?_map]at h2
     cases e:vs[i]? with
     | none=>rw[e]at h2;cases h2
     | some a=>rw[e]at h2;cases h2;rfl
   obtain⟨u,hu,rv⟩:=r.get ha
   have hp:ps[i]?=some y:=by
     rw[←S.pre,List.getElem?_take_of_lt (by omega)];exact h1
   have ndP:ps.Nodup:=by rw[←S.pre];exact S.nd.sublist (List.take_sublist _ _)
   refine⟨u,rv,?_⟩
   rcases S.par y (List.mem_of_getElem? hp)with k|k
   · exact .inl ⟨k,z8Y ndP hp hu k⟩
   · obtain⟨c,e⟩:=zaN (n:=s.heap.objs.size+1) k
     refine .inr ⟨.inl k,c,e,?_⟩
     have q:=x.cell y c e
     rw[z8Z ndP hp hu (by show scope.names.lookup y≠_;rw[k];decide)]at q
     exact q
 · exact e0.hok.fresh (Nat.le_of_lt (x.above y c (PySem.mem_of_lookup h)))
 · unfold start
   show _=N.length
   rw[List.length_append,List.length_map,List.length_replicate]
   omega
theorem fn_of{CX:CXT}{P:Program}{w:World}{K:PySem.W.Frag}{mg:Str→Option Value}{base:Heap}{k:Nat}{f:Addr}{name qual:Str}{params:Arguments}{body:List Stmt}{scope:Scope}{dV kV doc pm cdv ct oc:Value}{an od:Option Addr}
  {osl:Array (Option Value)} {N ps:List Str} {sp:Sp} (lk:K.lookup f=some ⟨oc,od,.func (PySem.W.fnOf name qual params body scope dV kV doc pm an cdv ct),osl⟩) (hcd:PySem.W.codeIn K cdv qual=true) (S:FnScope N ps scope)
  (len:∀ vs H Q E,sp vs H Q E→vs.length=ps.length)
  (hbody:∀(A:Around) (outer:List Env) (s:Shared) (H:Hp) (vs:List V) (Q:VK) (E:XK),Room k (A.deeper (envOfC qual scope s.heap.objs.size f cdv))→sp vs H Q E →
    ∃ t,PSs (cxOf CX P w K mg base N qual scope f cdv A outer s H E) body t∧t { nx:=fun _ H'=>Q .non H',rt:=Q } (start N vs) H) :
  FnOk P w K mg base CX (k+1) f (PySem.W.fnOf name qual params body scope dV kV doc pm an cdv ct) ps sp:=by
 refine⟨len,fun A outer s H args us vs Q E hr e0 hb r hsp=>?_⟩
 have hl:=len _ _ _ _ hsp
 have KX:K.In s.heap:=e0.mod.kin.keeps fun b o e=>(e0.bs b o e).1
 have lim:s.heap.NoLimit:=e0.mod.nolimit.keeps fun b o e=>(e0.bs b o e).1
 have hkind:∀ y∈ps.zip us,scope.names.lookup y.1=some .local∨(scope.names.lookup y.1=some .cell∧((cellsFrom (s.heap.objs.size+1) scope.names []).lookup y.1).isSome=true):=fun⟨n,v⟩ hy=>by
  rcases S.par n (List.of_mem_zip hy).1 with q|q
  · exact .inl q
  · exact .inr ⟨q,PySem.W.cellsFrom_some _ _ _ (.inl q)⟩
 refine codeAny_call_function hr.depth (KX _ _ lk) rfl S.co S.gen rfl (PySem.W.codeRec_of KX hcd) (hb _ _ _ _ ?_)
 refine wpAny_newFunctionEnv_cells S.kind hkind fun env he s1 x=>?_
 subst he
 refine⟨lim.keeps x.toInCall.keep,codeAny_func ?_⟩
 obtain⟨t,ht,hq⟩:=hbody A outer s H vs Q E (hr.deeper _) hsp
 have I:Inv (cxOf CX P w K mg base N qual scope f cdv A outer s H E) [] (start N vs) H s1:=zgs S hr.hd e0 hl r x
 refine wpAny_mono (ht [] s1 (start N vs) H _ I hq) (fun fl s' hs=>?_) fun e s' hs=>hs
 have fin:∀{σ':St} {H':Hp} {v:V} {u:Value},Inv (cxOf CX P w K mg base N qual scope f cdv A outer s H E) [] σ' H' s'→RelV v u→Q v H'→CE outer P w H s Q u s' :=
  fun{σ' H' v u} J rv q=>⟨v,H',J.os,J.bare,J.base,J.hok,rv,q⟩
 cases fl with
 | ret u =>
  obtain⟨v,σ',H',J,rv,q⟩:=hs
  exact fin J rv q
 | next =>
  obtain⟨σ',H',J,q⟩:=hs
  exact fin (v:=V.non) (u:=Value.none) J rfl q
 | brk =>
  obtain⟨_,_,_,q⟩:=hs
  exact False.elim q
 | cont =>
  obtain⟨_,_,_,q⟩:=hs
  exact False.elim q
end L2
namespace L2
open PySem PySem.Spec PyProof.Rows
section
variable {X:Cx}{x:Str}{p pos:Pos}{e:Expr}{es:List Expr}{t:TA}{id T:String}{r:List V→Hp→VK→Prop}
def tCB(r:List V→Hp→VK→Prop)(t:TA):TE:=fun σ H Q=>t σ H fun vs H1=>r vs H1 Q
theorem zaO(hc:CallR X (.builtin id) r)(hg:Gl X x)(hm:X.mg x=none)(hv:bootBuiltins x=some (.builtin id))(ha:PA X (e::es) t)(hn:x ≠ "__name__" := by decide)(hdb:(x==("__debug__" : Str))=false:=by decide)
  (he:starEach (e::es) X.env=(false,eval e X.env)::starEach es X.env:=by rfl) (hpl:(backTo pos (starEach es X.env)).any (·.1)=false:=by rfl):PE X (.Call (.Name x p) (e::es) [] pos) (tCB r t):=by
 intro pins s σ H Q I h
 refine wpAny_Call_Name_kw (z3X I hg hm hv ?_ hn hdb)
 exact PyProof.Rows.callWith_builtin1 (thn (ha pos pins s σ H _ I h) fun us s1 hZ=>hZ.elim fun vs hZ=>hZ.elim fun H1 hZ=>hZ.elim fun I1 hZ=>hZ.elim fun r1 q1=>hc pins s1 σ H1 vs us Q I1 r1 q1) he hpl
theorem zgt(hc:CallR X (.type T) r)(hg:Gl X x)(hm:X.mg x=none)(hv:bootBuiltins x=some (.type T))(ha:PA X (e::es) t)(hn:x ≠ "__name__" := by decide)(hdb:(x==("__debug__" : Str))=false:=by decide)
  (he:starEach (e::es) X.env=(false,eval e X.env)::starEach es X.env:=by rfl) (hpl:(backTo pos (starEach es X.env)).any (·.1)=false:=by rfl):PE X (.Call (.Name x p) (e::es) [] pos) (tCB r t):=by
 intro pins s σ H Q I h
 refine wpAny_Call_Name_kw (z3X I hg hm hv ?_ hn hdb)
 exact PyProof.Rows.callWith_type1 (thn (ha pos pins s σ H _ I h) fun us s1 hZ=>hZ.elim fun vs hZ=>hZ.elim fun H1 hZ=>hZ.elim fun I1 hZ=>hZ.elim fun r1 q1=>hc pins s1 σ H1 vs us Q I1 r1 q1) he hpl
end
end L2
namespace HT
open PySem PyProof.Rows
section
open PySem.SeqAt
open PySem.AutoSeq1 (wpAny_loadPart')
open PySem.MeetsSeq PySem.MeetsSeq2 PySem.MeetsSeq3
end
section
variable {prog:Program}{w:World}{A:Around}{E:Value→Shared→Prop}{s:Shared}
def sIx(n d:Nat):Option Int→Nat
 | none=>d
 | some v=>if v<0 then(v+(n:Int)).toNat else min v.toNat n
theorem sIx_none(n d:Nat):sIx n d none=d:=rfl
theorem sIx_nat(n d k:Nat):sIx n d (some (k:Int))=min k n:=by
 show(if(k:Int)<0 then((k:Int)+(n:Int)).toNat else min (k:Int).toNat n)=min k n
 rw[if_neg (by omega),Int.toNat_natCast]
end
end HT
namespace L2
open PySem PySem.Spec PyProof.Rows
abbrev TO:=St→Hp→(Option Int→Hp→Prop)→Prop
def PO(X:Cx)(e:Option Expr)(t:TO):Prop :=
 ∀(pins:List (Addr×Obj)) (s:Shared) (σ:St) (H:Hp) (Q:Option Int→Hp→Prop),Inv X pins σ H s→t σ H Q →
  wpAny (model X.prog X.w) X.A (evalPart e X.env) (fun u s'=>∃ o H',Inv X pins σ H' s'∧IsPart u o∧Q o H') X.xe s
def zkO:TO:=fun _ H Q=>Q none H
def tPart(t:TE):TO:=fun σ H Q=>t σ H fun x H1=>∃ i,x = .int i∧Q (some i) H1
section
variable {X:Cx}{e:Expr}{te:TE}{lo hi:Option Expr}{tl th:TO}{pos p2:Pos}
theorem zkP:PO X none zkO:=by
 intro pins s σ H Q I h
 rw[evalPart_none]
 exact wpAny_pure ⟨none,H,I,.none,h⟩
theorem zkQ(h:PE X e te):PO X (some e) (tPart te):=by
 intro pins s σ H Q I hw
 rw[evalPart_some]
 refine thn (h pins s σ H _ I hw) ?_
 rintro u s1 ⟨x,H1,I1,r1,q1⟩
 obtain⟨i,rfl,q⟩:=q1
 obtain⟨t,rfl⟩:=r1
 exact⟨some i,H1,I1,.int i t,q⟩
def SlR(X:Cx)(r:V→Option Int→Option Int→Hp→VK→Prop):Prop :=
 ∀(pins:List (Addr×Obj)) (s:Shared) (σ:St) (H:Hp) (x:V) (v vl vu:Value) (lo hi:Option Int) (sl:Addr) (Q:VK),Inv X pins σ H s→RelV x v→s.heap.IsSliceOf sl vl vu .none→IsPart vl lo→IsPart vu hi→r x lo hi H Q →
  ∃ T id,typeLookup (.type T) "__getitem__" = pure (some (.builtin id))∧s.TypeIs v T∧wpAny (model X.prog X.w) X.A (getItem v (.ref sl)) (EP X pins σ Q) X.xe s
theorem SlR.or{r r':V→Option Int→Option Int→Hp→VK→Prop}(h:SlR X r)(h':SlR X r'):SlR X (fun x lo hi H Q=>r x lo hi H Q∨r' x lo hi H Q):=by
 intro pins s σ H x v vl vu lo hi sl Q I rx hs pl pu q
 rcases q with q|q
 · exact h pins s σ H x v vl vu lo hi sl Q I rx hs pl pu q
 · exact h' pins s σ H x v vl vu lo hi sl Q I rx hs pl pu q
def tSl(r:V→Option Int→Option Int→Hp→VK→Prop)(te:TE)(tl th:TO):TE:=fun σ H Q=>te σ H fun x H1=>tl σ H1 fun l H2=>th σ H2 fun u H3=>r x l u H3 Q
theorem zhk{r:V→Option Int→Option Int→Hp→VK→Prop}(hr:SlR X r)(he:PE X e te)(hl:PO X lo tl)(hu:PO X hi th):PE X (.Subscript e (.Slice lo hi none p2) pos) (tSl r te tl th):=by
 intro pins s σ H Q I h
 refine Subscript_ (thn (he pins s σ H _ I h) ?_)
 rintro v s1 ⟨x,H1,I1,r1,q1⟩
 refine wpAny_Slice (thn (hl pins s1 σ H1 _ I1 q1) fun vl s2 hZ=>hZ.elim fun l hZ=>hZ.elim fun H2 hZ=>hZ.elim fun I2 hZ=>hZ.elim fun pl q2=>thn (hu pins s2 σ H2 _ I2 q2) ?_)
 rintro vu s3 ⟨u,H3,I3,pu,q3⟩
 rw[evalPart_none]
 refine wpAny_pure ?_
 have I4:Inv X pins σ H3 { s3 with heap:=s3.heap.push { cls := .type "slice",data := .fields #[vl,vu,.none] } }:=I3.kept (t':=s3.toks) fun b ob q=>Heap.get?_push_of_some _ q
 obtain⟨T,id,hT,ht,hg⟩:=hr pins { s3 with heap:=s3.heap.push { cls := .type "slice",data := .fields #[vl,vu,.none] } } σ H3 x v vl vu l u s3.heap.objs.size Q I4 r1 (Heap.IsSliceOf.new ..) pl pu q3
 show wpAny (model X.prog X.w) X.A (subscriptTail e (.Slice lo hi none p2) v (.ref s3.heap.objs.size)) (EP X pins σ Q) X.xe { s3 with heap:=s3.heap.push { cls := .type "slice",data := .fields #[vl,vu,.none] } }
 exact tail_any (ops:=[.ref s3.heap.objs.size,v]) ht hT hg (by with_unfolding_all rfl)
def cutV(xs:List V)(lo hi:Option Int):List V:=(xs.drop (HT.sIx xs.length 0 lo)).take (HT.sIx xs.length xs.length hi-HT.sIx xs.length 0 lo)
theorem zaP(xs:List V)(lo hi:Option Int):(cutV xs lo hi).length≤xs.length:=by
 unfold cutV
 rw[List.length_take,List.length_drop]
 omega
end
end L2
namespace L2
open PySem PySem.Spec PyProof.Rows
def ixN(n:Nat)(i:Int):Option Nat:=if 0≤i then(if i<n then some i.toNat else none) else if -(n:Int)≤i then some (i+n).toNat else none
def atI{α:Type}(xs:List α)(i:Int):Option α:=(ixN xs.length i).bind fun j=>xs[j]?
theorem zfy{n:Nat}{i:Int}{j:Nat}(h:ixN n i=some j):seqIndex? i n=some j∧j<n ∧ -(n:Int)≤i∧i<n:=by
 unfold ixN at h
 by_cases h0:0≤i
 · rw[if_pos h0]at h
   by_cases h1:i<n
   · rw[if_pos h1]at h
     have e:i.toNat=j:=Option.some.inj h
     exact⟨by rw[seqIndex_of h0 h1,e],by omega,by omega,h1⟩
   · rw[if_neg h1]at h;cases h
 · rw[if_neg h0]at h
   by_cases h1 : -(n:Int)≤i
   · rw[if_pos h1]at h
     have e:(i+n).toNat=j:=Option.some.inj h
     exact⟨by rw[seqIndex_neg (by omega) h1,e],by omega,h1,by omega⟩
   · rw[if_neg h1]at h;cases h
theorem za5{α:Type}{xs:List α}{i:Int}{v:α}(h:atI xs i=some v):∃ j,seqIndex? i xs.length=some j∧xs[j]?=some v∧j<xs.length ∧ -(xs.length:Int)≤i∧i<xs.length:=by
 unfold atI at h
 cases e:ixN xs.length i with
 | none=>rw[e]at h;cases h
 | some j =>
  rw[e]at h
  obtain⟨h1,h2,h3,h4⟩:=zfy e
  exact⟨j,h1,h,h2,h3,h4⟩
theorem z5j{α:Type}{xs:List α}{j:Nat}{v:α}(h:xs[j]?=some v):atI xs (j:Int)=some v:=by
 have hj:j<xs.length:=(List.getElem?_eq_some_iff.mp h).1
 have e:ixN xs.length (j:Int)=some j:=by
  unfold ixN
  rw[if_pos (by omega),if_pos (by omega)];simp
 unfold atI;rw[e];exact h
def zfz(b:Expr):Prop:=∀ o i,subscripted b false o i=operate [o,i] (getItem o i)
def IxR(X:Cx)(r:R2):Prop :=
 ∀(value slice:Expr) (pins:List (Addr×Obj)) (s:Shared) (σ:St) (H:Hp) (x y:V) (v u:Value) (Q:VK),Inv X pins σ H s→RelV x v→RelV y u→r x y H Q →
  subscripted slice false v u=operate [v,u] (getItem v u)→wpAny (model X.prog X.w) X.A (subscriptTail value slice v u) (EP X pins σ Q) X.xe s
def MtR(X:Cx)(id:String)(r:V→List V→Hp→VK→Prop):Prop :=
 ∀(pins:List (Addr×Obj)) (s:Shared) (σ:St) (H:Hp) (x:V) (xs:List V) (v:Value) (us:List Value) (Q:VK),Inv X pins σ H s→RelV x v→Vals xs us→r x xs H Q →
  wpAny (model X.prog X.w) X.A (call (.builtin id) (v::us)) (EP X pins σ Q) X.xe s
section
variable {X:Cx}{a b:Expr}{ta tb:TE}{pos:Pos}
theorem IxR.or{r r':R2}(h:IxR X r)(h':IxR X r'):IxR X (fun x y H Q=>r x y H Q∨r' x y H Q):=by
 intro value slice pins s σ H x y v u Q I rx ry q hs
 rcases q with q|q
 · exact h value slice pins s σ H x y v u Q I rx ry q hs
 · exact h' value slice pins s σ H x y v u Q I rx ry q hs
theorem MtR.or{id:String}{r r':V→List V→Hp→VK→Prop}(h:MtR X id r)(h':MtR X id r'):MtR X id (fun x xs H Q=>r x xs H Q∨r' x xs H Q):=by
 intro pins s σ H x xs v us Q I rx rs q
 rcases q with q|q
 · exact h pins s σ H x xs v us Q I rx rs q
 · exact h' pins s σ H x xs v us Q I rx rs q
theorem pe_ix{r:R2}(hr:IxR X r)(ha:PE X a ta)(hb:PE X b tb)(hs:zfz b):PE X (.Subscript a b pos) (tOp r ta tb):=by
 intro pins s σ H Q I h
 exact Subscript_ (binT ha hb I h fun v u s2 x y H2 I2 rx ry q=>hr a b pins s2 σ H2 x y v u Q I2 rx ry q (hs _ _))
def rIxL(K:PySem.W.Frag):R2:=fun x y H Q=>∃ p xs i v,x = .ref p∧y = .int i∧SqL K H p xs∧atI xs i=some v∧Q v H
def rIxT(K:PySem.W.Frag):R2:=fun x y H Q=>∃ p xs i v,x = .ref p∧y = .int i∧SqT K H p xs∧atI xs i=some v∧Q v H
def rIxS:R2:=fun x y H Q=>∃ z i c,x = .str z∧y = .int i∧z.length≤sizeLine∧atI z.cps.toList i=some c∧Q (.str ⟨#[c]⟩) H
theorem zkR:IxR X (rIxL X.K):=by
 intro value slice pins s σ H x y v u Q I rx ry h hs
 obtain⟨p,xs,i,z,rfl,rfl,hq,he,q⟩:=h
 cases rx
 obtain⟨t,rfl⟩:=ry
 obtain⟨its,r,pl,hz⟩:=I.list hq
 obtain⟨j,h1,h2,h3,h4,h5⟩:=za5 he
 obtain⟨w,ew,rw'⟩:=r.get h2
 have hl:=r.length
 have hn:=z68
 have fin:EP X pins σ Q w s:=⟨z,H,I,rw',q⟩
 by_cases h0:0≤i
 · have hj:i.toNat=j:=by
    rw[seqIndex_of h0 h5]at h1
    exact Option.some.inj h1
   exact item_listR pl.isList h0 (by omega) (by rw[hj];simpa using ew) fin hs
 · have hj:(i+(its.toArray.size:Int)).toNat=j:=by
    rw[seqIndex_neg (by omega) h4]at h1
    rw[List.size_toArray,←hl]
    exact Option.some.inj h1
   exact subscriptTail_builtinR (x:=w) pl.isList.typeIs slot_list_getitem.lookup
    (wpAny_getItem_list_neg (Q:=fun r s'=>r=w∧EP X pins σ Q r s') pl.isList (by omega) (by rw[List.size_toArray]<;>omega) (by omega) (by rw[hj];simpa using ew) ⟨rfl,fin⟩) hs
theorem ix_tup:IxR X (rIxT X.K):=by
 intro value slice pins s σ H x y v u Q I rx ry h hs
 obtain⟨p,xs,i,z,rfl,rfl,hq,he,q⟩:=h
 cases rx
 obtain⟨t,rfl⟩:=ry
 obtain⟨its,r,pl,hz⟩:=I.tuple hq
 obtain⟨j,h1,h2,h3,h4,h5⟩:=za5 he
 obtain⟨w,ew,rw'⟩:=r.get h2
 have hl:=r.length
 have hn:=z68
 have fin:EP X pins σ Q w s:=⟨z,H,I,rw',q⟩
 exact subscriptTail_builtinR (x:=w) pl.typeIs slot_tuple_getitem.lookup
  (getItem_tuple (j:=j) (Q:=fun r s'=>r=w∧EP X pins σ Q r s') pl (by omega) (by omega) (by rw[List.size_toArray,←hl];exact h1) (by simpa using ew) ⟨rfl,fin⟩) hs
theorem ix_str:IxR X rIxS:=by
 intro value slice pins s σ H x y v u Q I rx ry h hs
 obtain⟨z,i,c,rfl,rfl,hz,he,q⟩:=h
 obtain⟨t,rfl⟩:=rx
 obtain⟨t',rfl⟩:=ry
 obtain⟨j,h1,h2,h3,h4,h5⟩:=za5 he
 have hl:z.cps.toList.length=z.length:=by simp[Str.length]
 rw[hl]at h1 h4 h5
 have hn:=z68
 exact tail_any (typeIs_str s z t) slot_str_getitem.lookup (getItem_str (c:=c) (by
  have e1:decide (i < -(2 ^ 63:Int))=false:=decide_eq_false (by omega)
  have e2:decide (i≥2 ^ 63)=false:=decide_eq_false (by omega)
  rw[e1,e2,Bool.or_false]) (by rw[h1];simpa using h2) ⟨.str ⟨#[c]⟩,H,I.tok _,⟨_,rfl⟩,q⟩) hs
def rIx(K:PySem.W.Frag):R2:=fun x y H Q=>rIxL K x y H Q∨rIxT K x y H Q∨rIxS x y H Q
theorem ix_seq:IxR X (rIx X.K):=zkR.or (ix_tup.or ix_str)
theorem zci(its:List Value)(n j:Nat)(u:Value):Obj.mapSeq (·.setIfInBounds j u) { cls := .type "list",data := .seq its.toArray n }={ cls := .type "list",data := .seq (its.set j u).toArray n }:=by
 simp[Obj.mapSeq]
theorem Inv.lst{pins:List (Addr×Obj)}{σ:St}{H:Hp}{s:Shared}{p:Addr}{xs:List V}(I:Inv X pins σ H s)(h:H p=some (.lst xs)):
  ∃(its:List Value) (n:Nat),Vals xs its∧s.heap.get? p=some { cls := .type "list",data := .seq its.toArray n }∧xs.length≤sizeLine:=by
 obtain⟨z,its,n,r,e⟩:=I.hok p _ h
 exact⟨its,n,r,e,z⟩
theorem Inv.lstUpd{pins:List (Addr×Obj)}{σ:St}{H:Hp}{s:Shared}{p:Addr}{xs ys:List V}{its its':List Value}{n n':Nat}{f:Obj→Obj}(I:Inv X pins σ H s)(h:H p=some (.lst xs))
  (ho:s.heap.get? p=some { cls := .type "list",data := .seq its.toArray n }) (hf:f { cls := .type "list",data := .seq its.toArray n }={ cls := .type "list",data := .seq its'.toArray n' }) (r:Vals ys its') (hz:ys.length≤sizeLine) (t:Nat) :
  Inv X pins σ (upd H p (.lst ys)) { s with heap:=s.heap.update p f,toks:=t }:=by
 have e:(s.heap.update p f).get? p=some { cls := .type "list",data := .seq its'.toArray n' }:=by
  rw[Heap.get?_update_self f ho (by rw[hf]<;>rfl),hf]
 refine I.write (x:=p) (e:=p) (by rw[h];trivial) (.inl rfl) (fun b u hb q=>(Heap.get?_update_other _ _ (Ne.symm hb)).trans q) ⟨_,e⟩ ?_
 exact⟨hz,its',n',r,e⟩
def rSetL:V→V→V→Hp→(Hp→Prop)→Prop:=fun o i v H Q=>∃ p xs k j,o = .ref p∧i = .int k∧H p=some (.lst xs)∧ixN xs.length k=some j∧Q (upd H p (.lst (xs.set j v)))
theorem zhl:PSet X rSetL:=by
 intro pins s σ H o i v ov iv u Q I ro ri rv h
 obtain⟨p,xs,k,j,rfl,rfl,hp,hj,q⟩:=h
 cases ro
 obtain⟨t,rfl⟩:=ri
 obtain⟨its,n,r,ho,hz⟩:=I.lst hp
 obtain⟨h1,h2,h3,h4⟩:=zfy hj
 have hl:=r.length
 have hn:=z68
 have I':Inv X pins σ (upd H p (.lst (xs.set j v))) { s with heap:=s.heap.update p (Obj.mapSeq (·.setIfInBounds j u)) } :=
   I.lstUpd hp ho (zci its n j u) (r.set rv j) (by rw[List.length_set];exact hz) s.toks
 by_cases h0:0≤k
 · have hk:k.toNat=j:=by
    rw[seqIndex_of h0 h4]at h1
    exact Option.some.inj h1
   exact PySem.W.ki_setAt ho h0 (by omega) (by rw[List.size_toArray,←hl];exact h4) (by rw[hk];exact⟨_,I',q⟩)
 · have hk:(k+(its.toArray.size:Int)).toNat=j:=by
    rw[seqIndex_neg (by omega) h3]at h1
    rw[List.size_toArray,←hl]
    exact Option.some.inj h1
   exact PySem.W.ki_setBack ho (by omega) (by rw[List.size_toArray,←hl];exact h3) (by omega) (by rw[hk];exact⟨_,I',q⟩)
theorem za6(lo hi:Option Int)(n:Nat):(sliceBounds lo hi none n).1=((HT.sIx n 0 lo:Nat):Int)∧(sliceBounds lo hi none n).2.1=((HT.sIx n n hi:Nat):Int)∧(sliceBounds lo hi none n).2.2=1:=by
 refine⟨?_,?_,rfl⟩
 · cases lo with
   | none=>simp[sliceBounds,HT.sIx]
   | some i =>
    simp only[sliceBounds,HT.sIx,Option.getD_none,show(1:Int) > 0 by decide,if_true]
    by_cases h:i<0
    · simp only[h,if_true]<;>omega
    · simp only[h,if_false]<;>omega
 · cases hi with
   | none=>simp[sliceBounds,HT.sIx]
   | some i =>
    simp only[sliceBounds,HT.sIx,Option.getD_none,show(1:Int) > 0 by decide,if_true]
    by_cases h:i<0
    · simp only[h,if_true]<;>omega
    · simp only[h,if_false]<;>omega
theorem z8N(its:List Value)(lo hi:Option Int):slicePick its.toArray lo hi none=((its.drop (HT.sIx its.length 0 lo)).take (HT.sIx its.length its.length hi-HT.sIx its.length 0 lo)).toArray:=by
 obtain⟨h1,h2,h3⟩:=za6 lo hi its.toArray.size
 unfold slicePick
 rw[h1,h2,h3]
 simp only[sliceRange_one,pick_run,List.size_toArray]<;>rfl
def rSlL(K:PySem.W.Frag):V→Option Int→Option Int→Hp→VK→Prop:=fun x lo hi H Q=>∃ a xs,x = .ref a∧SqL K H a xs∧∀ p,H p=none→Q (.ref p) (upd H p (.lst (cutV xs lo hi)))
theorem zkS:SlR X (rSlL X.K):=by
 intro pins s σ H x v vl vu lo hi sl Q I rx hs pl pu h
 obtain⟨a,xs,rfl,hx,q⟩:=h
 cases rx
 obtain⟨its,r,ht,hz⟩:=I.list hx
 have hlen:=r.length
 refine⟨"list",_,slot_list_getitem.lookup,ht.isList.typeIs,?_⟩
 refine wpAny_getItem_list_slice ht.isList hs pl pu .none (by simp) ?_ (by rw[List.size_toArray]<;>omega)
 rw[z8N,←hlen]
 refine⟨.ref s.heap.objs.size,_,I.laid (t':=s.toks) (o := .lst (cutV xs lo hi)) (fun b ob q=>Heap.get?_push_of_some _ q) (Nat.le_refl _) ?_,rfl,q _ (I.hok.fresh (Nat.le_refl _))⟩
 exact⟨Nat.le_trans (zaP xs lo hi) hz,_,0,(r.drop (HT.sIx xs.length 0 lo)).take (HT.sIx xs.length xs.length hi-HT.sIx xs.length 0 lo),Heap.get?_push_size _ rfl⟩
theorem z3r:CallR X (.builtin "len") (fun xs H Q=>∃ p ys,xs=[.ref p]∧(SqL X.K H p ys∨SqT X.K H p ys)∧Q (.int ys.length) H):=by
 intro pins s σ H xs us Q I r h
 obtain⟨p,ys,rfl,hq,q⟩:=h
 obtain⟨u,rfl,rx⟩:=zfw r
 cases rx
 have hn:=z68
 rcases hq with hq|hq
 · obtain⟨its,r',pl,hz⟩:=I.list hq
   have hlen:=r'.length
   exact Calls.call_len_list pl.isList (by simp only[List.size_toArray]<;>omega) ⟨.int ys.length,H,I.tok _,⟨s.toks+1,by rw[List.size_toArray,hlen]⟩,q⟩
 · obtain⟨its,r',pl,hz⟩:=I.tuple hq
   have hlen:=r'.length
   exact len_tuple pl (by simp only[List.size_toArray]<;>omega) ⟨.int ys.length,H,I.tok _,⟨s.toks+1,by rw[List.size_toArray,hlen]⟩,q⟩
theorem CallR.or{f:Value}{r r':List V→Hp→VK→Prop}(h:CallR X f r)(h':CallR X f r'):CallR X f (fun xs H Q=>r xs H Q∨r' xs H Q):=by
 intro pins s σ H xs us Q I rs q
 rcases q with q|q
 · exact h pins s σ H xs us Q I rs q
 · exact h' pins s σ H xs us Q I rs q
theorem z5k:CallR X (.type "list") (fun xs H Q=>∃ p ys,xs=[.ref p]∧(SqL X.K H p ys∨SqT X.K H p ys)∧∀ l,H l=none→Q (.ref l) (upd H l (.lst ys))):=by
 intro pins s σ H xs us Q I r h
 obtain⟨p,ys,rfl,hq,q⟩:=h
 obtain⟨u,rfl,rx⟩:=zfw r
 cases rx
 have fin:∀(its:List Value),Vals ys its→ys.length≤sizeLine→∀(h':Heap) (c':Nat),(∀ b o',s.heap.get? b=some o'→h'.get? b=some o') →
    h'.get? s.heap.objs.size=some { cls := .type "list",dict:=none,data := .seq its.toArray c',slots:=#[] }→EP X pins σ Q (.ref s.heap.objs.size) { s with heap:=h' }:=fun its r' hz h' c' kp e =>
   ⟨.ref s.heap.objs.size,_,I.laid (t':=s.toks) kp (Nat.le_refl _) (show ObjOk X.prog X.w _ h' _ (.lst ys) from⟨hz,its,c',r',e⟩),rfl,q _ (I.hok.fresh (Nat.le_refl _))⟩
 rcases hq with hq|hq
 · obtain⟨its,r',pl,hz⟩:=I.list hq
   have hlen:=r'.length
   obtain⟨o,ho,hc,n,hd⟩:=pl.isList
   exact call_list_seq p (.inl rfl) ho hc hd (fun h' c' kp e=>fin its r' hz h' c' kp e) (by simp only[List.size_toArray]<;>omega)
 · obtain⟨its,r',pl,hz⟩:=I.tuple hq
   have hlen:=r'.length
   obtain⟨o,ho,hc,n,hd⟩:=pl
   exact call_list_seq p (.inr rfl) ho hc hd (fun h' c' kp e=>fin its r' hz h' c' kp e) (by simp only[List.size_toArray]<;>omega)
theorem z4O:CallR X (.type "tuple") (fun xs H Q=>∃ p ys,xs=[.ref p]∧((SqL X.K H p ys∧∀ l,H l=none→Q (.ref l) (upd H l (.tup ys)))∨(SqT X.K H p ys∧Q (.ref p) H))):=by
 intro pins s σ H xs us Q I r h
 obtain⟨p,ys,rfl,h⟩:=h
 obtain⟨u,rfl,rx⟩:=zfw r
 cases rx
 rcases h with⟨hq,q⟩|⟨hq,q⟩
 · obtain⟨its,r',pl,hz⟩:=I.list hq
   have hlen:=r'.length
   refine call_tuple_list pl.isList (fun h' kp=>?_) (by simp only[List.size_toArray]<;>omega)
   have I1:Inv X pins σ H { s with heap:=h' }:=I.kept (t':=s.toks) kp
   have I2:Inv X pins σ (upd H h'.objs.size (.tup ys)) { s with heap:=h'.push { cls := .type "tuple",data := .seq its.toArray } } :=
    I1.laid (t':=s.toks) (fun b o e=>Heap.get?_push_of_some _ e) (Nat.le_refl _) (show ObjOk X.prog X.w _ _ _ (.tup ys) from⟨hz,its,r',IsTup.new _ _⟩)
   exact⟨.ref h'.objs.size,_,I2,rfl,q _ (I1.hok.fresh (Nat.le_refl _))⟩
 · obtain⟨its,r',pl,hz⟩:=I.tuple hq
   exact call_tuple_same pl ⟨.ref p,H,I,rfl,q⟩
def tyV(K:PySem.W.Frag)(T:String)(x:V)(H:Hp):Prop:=match x with
 | .str _=>T = "str"
 | .int _=>T = "int"
 | .ref p=>(T = "list" ∧ ∃ xs,SqL K H p xs)∨(T = "tuple" ∧ ∃ o,K.lookup p=some o∧o.cls = .type "tuple" ∧ o.dict=none) ∨
  (T = "dict" ∧ ((∃ kvs,H p=some (.dK kvs))∨∃ kvs,H p=some (.dT kvs)))∨(T = "set" ∧ ∃ S n,H p=some (.set S n))
 | _=>False
theorem tyV_is{pins:List (Addr×Obj)}{σ:St}{H:Hp}{s:Shared}{T:String}{x:V}{v:Value}(I:Inv X pins σ H s)(r:RelV x v)(ty:tyV X.K T x H):
  s.TypeIs v T∧∀ a,v = .ref a→∃ ob,s.heap.get? a=some ob∧ob.dict=none:=by
 cases x with
 | str z =>
  obtain⟨t,rfl⟩:=r
  cases (show T = "str" from ty)
  exact⟨typeIs_str s z t,fun _ e=>nomatch e⟩
 | int i =>
  obtain⟨t,rfl⟩:=r
  cases (show T = "int" from ty)
  exact⟨typeIs_int s i t,fun _ e=>nomatch e⟩
 | ref p =>
  cases r
  rcases ty with⟨rfl,xs,hq⟩|⟨rfl,o,hk,hc,hd⟩|⟨rfl,hk⟩|⟨rfl,S,n,hk⟩
  · obtain⟨its,_,pl,_⟩:=I.list hq
    refine⟨pl.isList.typeIs,fun a e=>?_⟩
    cases e
    obtain⟨o,n,e,c,hd,_⟩:=pl
    exact⟨o,e,hd⟩
  · refine⟨⟨o,I.kIn p o hk,hc⟩,fun a e=>?_⟩
    cases e
    exact⟨o,I.kIn _ o hk,hd⟩
  · have z:∃ o,s.heap.get? p=some o∧o.ExactDict:=by
     rcases hk with⟨kvs,hk⟩|⟨kvs,hk⟩
     · obtain⟨_,_,_,_,o,_,_,e,ex,_⟩:=I.hok p _ hk
       exact⟨o,e,ex⟩
     · obtain⟨_,_,_,_,o,_,_,e,ex,_⟩:=I.hok p _ hk
       exact⟨o,e,ex⟩
    obtain⟨o,e,ex⟩:=z
    refine⟨⟨o,e,ex.1⟩,fun a e2=>?_⟩
    cases e2
    exact⟨o,e,ex.2.1⟩
  · obtain⟨o,_,_,_,e,ex,_⟩:=I.hok p _ hk
    refine⟨⟨o,e,ex.1⟩,fun a e2=>?_⟩
    cases e2
    exact⟨o,e,ex.2.1⟩
 | _=>exact False.elim ty
def tBM(K:PySem.W.Frag)(T:String)(r:V→List V→Hp→VK→Prop)(to:TE)(t:TA):TE:=fun σ H Q=>to σ H fun x H1=>tyV K T x H1∧t σ H1 fun xs H2=>r x xs H2 Q
variable {o e:Expr}{es:List Expr}{to:TE}{t:TA}{name:Str}{apos cpos:Pos}{T id:String}{r:V→List V→Hp→VK→Prop}
theorem pe_bm(pa:PlainAttrs T)(slot:Slot T name id)(hty:typeOf (.builtin id)=pure (.type "method_descriptor"))(hm:MtR X id r)(ho:PE X o to)(ha:PA X (e::es) t)
  (hbase:attributeBase o name X.env (eval o X.env)=eval o X.env:=by rfl)
  (hfew:((backTo cpos (starEach (e::es) X.env)).all (fun x=>!x.1)&&(backToKw cpos (keywordEach [] X.env)).all (fun x=>x.1.isSome)
   && decide ((e::es).length+([]:List Keyword).length+(if([]:List Keyword).isEmpty then 0 else 1)<30))=true:=by rfl)
  (hline:(apos.endLine==cpos.line)=true:=by rfl) (hs:starEach (e::es) X.env=(false,eval e X.env)::starEach es X.env:=by rfl) (hplain:(backTo cpos (starEach es X.env)).any (·.1)=false:=by rfl) :
  PE X (.Call (.Attribute o name apos) (e::es) [] cpos) (tBM X.K T r to t):=by
 intro pins s σ H Q I h
 refine wpAny_Call_method_late hbase hfew hline rfl (thn (ho pins s σ H _ I h) ?_)
 rintro v s1 ⟨x,H1,I1,r1,ty,q1⟩
 obtain⟨h1,h2⟩:=tyV_is I1 r1 ty
 refine⟨T,id,pa,slot,hty,h1,h2,?_⟩
 have hA:=ha cpos pins s1 σ H1 _ I1 q1
 rw[hs]at hA ⊢
 refine Calls.callWith_builtin (by show(false||(backTo cpos (starEach es X.env)).any (·.1))=false;rw[hplain]<;>rfl) (Calls.evalArgs_plain ?_)
 exact thn hA fun us s2 hZ=>hZ.elim fun vs hZ=>hZ.elim fun H2 hZ=>hZ.elim fun I2 hZ=>hZ.elim fun r2 q2=>hm pins s2 σ H2 x vs v us Q I2 r1 r2 q2
end
end L2
namespace L2
open PySem PySem.Spec PyProof.Rows
def MtM(X:Cx)(id:String)(r:V→List V→Hp→VK→Prop):Prop :=
 ∀(pins:List (Addr×Obj)) (s:Shared) (σ:St) (H:Hp) (x:V) (xs:List V) (v:Value) (us:List Value) (Q:VK),Inv X pins σ H s→RelV x v→Vals xs us→r x xs H Q →
  wpAny (model X.prog X.w) X.A (call (.builtin id) (v::us)) (EP X pins σ Q) X.xe s
theorem Vals.zero:∀{us:List Value},Vals [] us→us=[]
 | _,.nil=>rfl
theorem Vals.uncons{x:V}{xs:List V}{us:List Value}(h:Vals (x::xs) us):∃ u vs,us=u::vs∧RelV x u∧Vals xs vs:=by
 cases h with
 | cons r t=>exact⟨_,_,rfl,r,t⟩
theorem Vals.one{x:V}{us:List Value}(h:Vals [x] us):∃ u,us=[u]∧RelV x u:=by
 obtain⟨u,vs,e,r,t⟩:=h.uncons
 rw[t.zero]at e
 exact⟨u,e,r⟩
theorem Vals.two{x y:V}{us:List Value}(h:Vals [x,y] us):∃ u v,us=[u,v]∧RelV x u∧RelV y v:=by
 obtain⟨u,vs,e,r,t⟩:=h.uncons
 obtain⟨v,e2,q⟩:=t.one
 rw[e2]at e
 exact⟨u,v,e,r,q⟩
theorem Vals.reverse{xs:List V}{us:List Value}(h:Vals xs us):Vals xs.reverse us.reverse:=by
 induction h with
 | nil=>exact .nil
 | cons r t ih=>rw[List.reverse_cons,List.reverse_cons];exact Vals.append ih (.cons r .nil)
section
variable {X:Cx}{pins:List (Addr×Obj)}{σ:St}{H:Hp}{s:Shared}{l b:Addr}{xs ys zs:List V}
theorem Inv.lset{its its':List Value}{n:Nat}{f:Array Value→Array Value}{t':Nat}(I:Inv X pins σ H s)(hH:H l=some (.lst xs))
  (e:s.heap.get? l=some { cls := .type "list",data := .seq its.toArray n }) (hf:f its.toArray=its'.toArray) (hv:Vals ys its') (hz:ys.length≤sizeLine) :
  Inv X pins σ (upd H l (.lst ys)) { s with heap:=s.heap.update l (Obj.mapSeq f),toks:=t' }:=by
 have q:=PySem.IsL.update e f
 rw[hf]at q
 refine I.write (x:=l) (e:=l) (by rw[hH];exact trivial) (.inl rfl) (fun b' u hb hu=>(Heap.get?_update_other s.heap (Obj.mapSeq f) (Ne.symm hb)).trans hu) ⟨_,q⟩ ?_
 exact⟨hz,its',_,hv,q⟩
theorem Inv.lnew{its:List Value}{t':Nat}(I:Inv X pins σ H s)(hv:Vals ys its)(hz:ys.length≤sizeLine):
  Inv X pins σ (upd H s.heap.objs.size (.lst ys)) { s with heap:=s.heap.push { cls := .type "list",data := .seq its.toArray },toks:=t' } :=
 I.laid (fun _ _ q=>Heap.get?_push_of_some _ q) (Nat.le_refl _) ⟨hz,its,0,hv,Heap.get?_push_size _ rfl⟩
theorem Inv.fresh(I:Inv X pins σ H s):H s.heap.objs.size=none:=I.hok.fresh (Nat.le_refl _)
theorem Inv.lstM(I:Inv X pins σ H s)(hH:H l=some (.lst xs)):xs.length≤sizeLine∧∃(its:List Value) (n:Nat),Vals xs its∧xs.length=its.length∧s.heap.get? l=some { cls := .type "list",data := .seq its.toArray n }:=by
 obtain⟨z,its,n,r,e⟩:=I.hok l _ hH
 exact⟨z,its,n,r,r.length,e⟩
end
section
variable {X:Cx}
def zkT:V→List V→Hp→VK→Prop:=fun x vs H Q=>∃ l xs y,x = .ref l∧vs=[y]∧H l=some (.lst xs)∧xs.length<sizeLine∧Q .non (upd H l (.lst (xs++[y])))
theorem z9:MtM X "list.append" zkT:=by
 intro pins s σ H x vs v us Q I rx rv h
 obtain⟨l,xs,y,rfl,rfl,hH,hz,q⟩:=h
 cases rx
 obtain⟨u,rfl,ru⟩:=rv.one
 obtain⟨z,its,n,r,hl,e⟩:=I.lstM hH
 refine call_meets F.slot_list_append ⟨_,e,rfl⟩ F.entry_list_append (F.args_list_append_2 _ _) (PySem.list_append l its.toArray n u (by rw[List.size_toArray];omega)) ⟨e,?_⟩
 refine⟨.non,_,I.lset (its':=its++[u]) hH e (by simp) (r.append (.cons ru .nil)) ?_,rfl,q⟩
 rw[List.length_append,List.length_singleton]
 omega
def rCat:R2:=fun x y H Q=>∃ l b xs zs,x = .ref l∧y = .ref b∧H l=some (.lst xs)∧H b=some (.lst zs)∧xs.length+zs.length≤sizeLine∧∀ p,H p=none→Q (.ref p) (upd H p (.lst (xs++zs)))
theorem op_cat:OpR X (binaryOp .Add) rCat:=by
 intro pins s σ H x y v u Q I rx ry h
 obtain⟨l,b,xs,zs,rfl,rfl,hH,hB,hz,q⟩:=h
 cases rx
 cases ry
 obtain⟨z,its,n,r,hl,e⟩:=I.lstM hH
 obtain⟨z2,its2,n2,r2,hl2,e2⟩:=I.lstM hB
 refine PySem.P.add_list e e2 ?_ (by rw[List.size_toArray,List.size_toArray];omega)
 have ea:its.toArray++its2.toArray=(its++its2).toArray:=by simp
 rw[ea]
 exact⟨.ref _,_,I.lnew (t':=s.toks) (r.append r2) (by rw[List.length_append];omega),rfl,q _ I.fresh⟩
end
section
variable {prog:Program}{w:World}{A:Around}{E:Value→Shared→Prop}{s:Shared}
end
section
variable {X:Cx}
end
end L2
namespace Att
open PySem PySem.W PySem.Calls PyProof.Rows
theorem z7b{P:Params}{h:Heap}:∀(ns:List Int) (vs:List Value),WellAll P h vs (ns.map WData.int)→IntsAre vs ns:=by
 intro ns
 induction ns with
 | nil =>
  intro vs w
  rw[List.map_nil]at w
  cases w
  exact .nil
 | cons n ns ih =>
  intro vs w
  rw[List.map_cons]at w
  cases w with
  | cons a b =>
   cases a
   exact .cons _ _ (ih _ b)
theorem zgu{l:OpenLaw}{n:Nat}(hn:l.most=some n){P:Params}{h:Heap}{args:List WData}{vals:List Value}
  (hpre:l.row.toRowW.claim.pre args=true) (hwl:WellAll P h vals args) :
  ∃ a vs ns,vals=[Value.ref a]∧args=[WData.list (ns.map WData.int)]∧h.get? a=some { cls := .type "list",data := .seq vs.toArray }∧IntsAre vs ns∧ns.length≤n:=by
 have hsh:WShape.hasAll [] args [.list .int]=true:=(pre_splitW hpre).1
 have hc:l.pre.holds [] { args:=args }=true:=(pre_splitW hpre).2
 obtain⟨d,r,rfl,h1,h2⟩:=hasAllW_cons hsh
 obtain rfl:=hasAllW_nil h2
 obtain⟨xs,rfl,h3⟩:=hasW_list h1
 obtain⟨ns,rfl⟩:=items_int h3
 have hlen:ns.length≤n:=by
  unfold OpenLaw.pre at hc
  have h4:(WTm.not (.lt (.lit (.int (n:Int))) (.len (.arg 0)))).holds [] { args:=[.list (ns.map .int)] }=true:=by
   have h4:=(holds_andW hc).1
   rw[hn]at h4
   exact h4
  have h5:=condW_of h4 (w_not (w_lt w_lit (w_len_list (w_arg rfl))))
  rw[List.length_map]at h5
  refine Nat.le_of_not_lt fun q=>?_
  have q':(n:Int)<((ns.length:Nat):Int):=by omega
  first
   | (rw[decide_eq_true q']at h5;exact absurd h5 (by decide))
   | (simp at h5;omega)
 cases hwl with
 | cons w1 w2 =>
  cases w2
  cases w1 with
  | list ho hall=>exact⟨_,_,ns,rfl,rfl,ho,z7b ns _ hall,hlen⟩
theorem zgv(l:OpenLaw)(args:List WData):l.row.toRowW.claim.post args (.bool true) args=true :=
 postW_of (r:=l.row.toRowW) (X:=(true==true))
  (show WShape.has [] (.bool true) .bool=true by first|rfl|decide|simp[WShape.has,WShape.arms,WShape.armsAll])
  (show(WTm.eq .res (.lit (.bool true))).value [] { args:=args,res:=some (.bool true),after:=args }=some (.bool (true==true))from w_eq_bool (w_res rfl) w_lit) rfl
theorem attach_call{l:OpenLaw}{n:Nat}{q:Program}{loose:List Str}{XP:(Str→Option Value)→Heap→Prop}{YP:World→Heap→Prop}{d:DefRec}
  (hn:l.most=some n) (hdf:d.params.defaults=[])
  (call:∀(w:World) (s₀ s₁:Shared) (mg mb:Str→Option Value) (fa:Addr) (o:Obj) (pm cd doc:Value) (a:Addr) (vs:List Value) (ns:List Int),
   Ground q loose [] XP w s₀ mg mb s₁.heap→YP w s₁.heap →
   s₁.heap.get? fa=some o→o.data = .func (docDef d.name d.params d.body d.scope pm cd doc)→s₁.heap.CodeRec cd d.name→mg d.name=some (.ref fa) →
   s₁.heap.get? a=some { cls := .type "list",data := .seq vs.toArray }→IntsAre vs ns→ns.length≤n→s₁.gens=#[] →
   codeAny (model l.prog w) callerA (.call (.ref fa) ⟨[.ref a],[]⟩) (fun r s'=>r = .ok (.ret (.bool true))∧OldK s₁.heap s'.heap∧s'.os=s₁.os∧AllBare s'.gens) s₁) :
  WalkO q loose XP YP l.row.toRowW d [] (fun f vs=>PySem.call f vs):=by
 intro w s₀ s₁ mg mb G Y fa o pm cd doc dV kV ho hd hcd hD hmg hg args vals as hpre hlay hrd hwl hlo
 obtain rfl:dV = .none:=Dflts.none hD hdf
 obtain rfl:kV = .none:=Dflts.noKw hD
 obtain⟨a,vs,ns,rfl,rfl,hobj,hints,hlen⟩:=zgu hn hpre hwl
 refine enter_call (codeAny_mono (call w s₀ s₁ mg mb fa o pm cd doc a vs ns G Y ho (fd_plain hd) hcd hmg hobj hints hlen hg) fun r s' hq=>?_)
 obtain⟨rfl,h2,h3,h4⟩:=hq
 exact⟨.inl ⟨.bool true,.bool true,[],rfl,fun _=>rfl,.bool true,zgv l _,fun _=>⟨List.Pairwise.nil,fun _ hm=>(nomatch hm)⟩⟩,h2,h3,h4⟩
section
variable {prog:Program}{w:World}{A:Around}{E:Value→Shared→Prop}{s:Shared}{K:Frag}
end
end Att
namespace L2
open PySem PySem.Spec PyProof.Rows
theorem z90:∀{vs:List Value} {ns:List Int},IntsAre vs ns→Vals (ns.map V.int) vs
 | _,_,.nil => .nil
 | _,_,.cons n t h => .cons ⟨t,rfl⟩ (z90 h)
def Only(H:Hp):Prop:=∀ b,H b=none∨∃ o xs,H b=some (.frz o (.lst xs))
theorem zhm{P:Program}{w:World}{K:PySem.W.Frag}{mg mb:Str→Option Value}{CX:CXT}{k:Nat}{fa a:Addr}{fd:FuncData}{x:Str}{sp:Sp}{s₁:Shared}{vs:List Value}{ns:List Int}
  (KX:K.In s₁.heap) (hns:s₁.heap.Ns mainGlobals mg) (hb:s₁.heap.Ns builtinsNs mb) (hbb:∀ x:Str,x ≠ "__name__" → mb x=bootBuiltins x) (hlim:s₁.heap.NoLimit) (hg:s₁.gens=#[])
  (ha:s₁.heap.get? a=some { cls := .type "list",data := .seq vs.toArray }) (hi:IntsAre vs ns) (hl:ns.length≤sizeLine) (hr:Room k callerA)
  (F:∀ base:Heap,K.In base→base.Ns mainGlobals mg→FnOk P w K mg base CX k fa fd [x] sp) (hbind:∀(s:Shared) (u:Value),BindsTo s fd ⟨[u],[]⟩ [(x,u)])
  (hsp:∀ H:Hp,Only H→SqL K H a (ns.map V.int)→sp [.ref a] H (fun v _=>v = .bl true) fun _ _ _=>False)
  (hCX:∀ H e s',CX [] H s₁ (fun _ _ _=>False) e s'→False) :
  codeAny (model P w) callerA (.call (.ref fa) ⟨[.ref a],[]⟩) (fun r s'=>r = .ok (.ret (.bool true))∧OldK s₁.heap s'.heap∧s'.os=s₁.os∧AllBare s'.gens) s₁:=by
 have rv:=z90 hi
 have lenV:=hi.length
 have core:∀ H:Hp,Only H→SqL K H a (ns.map V.int)→HOk P w H s₁.heap→(∀ b,H b≠none→b=a)→(H a≠none→K.lookup a=none) →
    codeAny (model P w) callerA (.call (.ref fa) ⟨[.ref a],[]⟩) (fun r s'=>r = .ok (.ret (.bool true))∧OldK s₁.heap s'.heap∧s'.os=s₁.os∧AllBare s'.gens) s₁:=by
  intro H hO hS hok hA hK
  have base_of:∀{b:Addr} {o:Obj},s₁.heap.get? b=some o→H b=none→(hidT s₁.heap H).get? b=some o:=fun e n=>zh9 e n
  have noA:∀{b:Addr} {o:Obj} {es:Array DictEntry} {ep:Nat},s₁.heap.get? b=some o→o.data = .dict es ep→H b=none:=fun{b o es ep} e d=>by
    cases q:H b with
    | none=>rfl
    | some u =>
      have e':b=a:=hA b (by rw[q];simp)
      subst e'
      rw[ha]at e;cases e
      have d':Data.seq vs.toArray _=Data.dict es ep:=d
      cases d'
  have nsK:∀{b:Addr} {m:Str→Option Value},s₁.heap.Ns b m→(hidT s₁.heap H).Ns b m:=fun{b m} ⟨o,es,ep,e,d,r⟩=>⟨o,es,ep,base_of e (noA e d),d,r⟩
  have hKb:K.In (hidT s₁.heap H):=fun b o e=>base_of (KX b o e) (by
    cases q:H b with
    | none=>rfl
    | some u =>
      have e':b=a:=hA b (by rw[q];simp)
      subst e'
      rw[hK (by rw[q];simp)]at e;cases e)
  have hM:Mod K mg (hidT s₁.heap H):=⟨hKb,nsK hns,⟨mb,nsK hb,hbb⟩,let ⟨mc,h1,h2⟩:=hlim;⟨mc,nsK h1,h2⟩⟩
  have e0:Env0 P w K mg (hidT s₁.heap H) callerA [] s₁ H:=⟨rfl,hM,fun b o e=>zkC e,Nat.le_of_eq (zgn _ _),trivial,fun b hb=>absurd (show b∈([]:List Addr)from hb) (by simp),hok,.of_eq hg⟩
  refine codeAny_mono ((F _ hKb (nsK hns)).run callerA [] s₁ H ⟨[.ref a],[]⟩ [.ref a] [.ref a] _ _ hr e0 (hbind s₁ (.ref a)) (.cons rfl .nil) (hsp H hO hS)) fun r s' h=>?_
  cases r with
  | error e=>exact(hCX H e s' h).elim
  | ok fl =>
    cases fl with
    | next=>exact False.elim h
    | brk=>exact False.elim h
    | cont=>exact False.elim h
    | ret u =>
      obtain⟨v,H',os,bare,un,hok',r',q⟩:=h
      have q':v = .bl true:=q
      subst q'
      obtain rfl:u=Value.bool true:=r'
      refine⟨rfl,OldK.of_keep fun b o e=>?_,os,bare⟩
      cases q:H b with
      | none=>exact un.keep b o e q (by intro z;exact absurd (show b∈([]:List Addr)from z) (by simp)) (by simp)
      | some u =>
       rcases hO b with z|⟨ob,xs,z⟩
       · rw[q]at z;cases z
       · have z2:=un.frzs b ob _ z
         obtain⟨e1,_⟩:=hok b _ z
         obtain⟨e2,_⟩:=hok' b _ z2
         rw[e]at e1;cases e1
         exact e2
 cases hk:K.lookup a with
 | some o =>
  have e:=KX a o hk
  rw[ha]at e
  cases e
  refine core (fun _=>none) (fun _ => .inl rfl) (.inr ⟨_,vs.toArray,_,hk,rfl,rfl,rfl,by rw[List.size_toArray,lenV];exact hl,by simpa using rv⟩) (fun b u z=>by have z':(none:Option HO)=some u:=z;cases z') (fun b z=>absurd rfl z) fun z=>absurd rfl z
 | none =>
  refine core (fun b=>if b=a then some (.frz { cls := .type "list",data := .seq vs.toArray } (.lst (ns.map V.int))) else none) (fun b=>?_) (.inl (.inr ⟨{ cls := .type "list",data := .seq vs.toArray },if_pos rfl⟩)) (fun b u z=>?_) (fun b z=>?_) fun _=>hk
  · by_cases hb:b=a
    · exact .inr ⟨_,_,if_pos hb⟩
    · exact .inl (if_neg hb)
  · by_cases hb:b=a
    · have z':=(if_pos hb).symm.trans z
      cases z'
      subst hb
      exact⟨ha,by rw[List.length_map];exact hl,vs,_,rv,ha⟩
    · have z':=(if_neg hb).symm.trans z
      cases z'
  · by_cases hb:b=a
    · exact hb
    · exact absurd (if_neg hb) z
end L2
namespace L2
open PySem PySem.Spec PyProof.Rows
theorem zkU{l:PySem.W.OpenLaw}{n k:Nat}{q:Program}{loose:List Str}{XP:(Str→Option Value)→Heap→Prop}{YP:World→Heap→Prop}{d:DefRec}{K:Params→PySem.W.Frag}{CX:World→CXT}{sp:World→Sp}{x:Str}
  (hn:l.most=some n) (hn2:n≤sizeLine) (hdf:d.params.defaults=[]) (hr:Room k callerA)
  (hY:∀(w:World) (h:Heap),YP w h→(K w.params).In h)
  (F:∀(w:World) (mg:Str→Option Value) (fa:Addr) (h:Heap),(K w.params).In h→h.Ns mainGlobals mg→mg d.name=some (.ref fa) →
   ∃ fd:FuncData,(∀(s:Shared) (u:Value),BindsTo s fd ⟨[u],[]⟩ [(x,u)]) ∧
    ∀ base:Heap,(K w.params).In base→base.Ns mainGlobals mg→FnOk l.prog w (K w.params) mg base (CX w) k fa fd [x] (sp w))
  (hsp:∀(w:World) (H:Hp) (a:Addr) (ns:List Int),ns.length≤n→Only H→SqL (K w.params) H a (ns.map V.int)→sp w [.ref a] H (fun v _=>v = .bl true) fun _ _ _=>False)
  (hCX:∀(w:World) (H:Hp) (s:Shared) (e:Value) (s':Shared),CX w [] H s (fun _ _ _=>False) e s'→False) :
  PySem.W.WalkO q loose XP YP l.row.toRowW d [] (fun f vs=>PySem.call f vs):=by
 refine Att.attach_call hn hdf fun w s₀ s₁ mg mb fa o pm cd doc a vs ns G Y ho hd hcd hmg hobj hints hlen hg=>?_
 have KX:=hY w _ Y
 obtain⟨fd,hb,hF⟩:=F w mg fa _ KX G.T.g hmg
 exact zhm KX G.T.g G.T.b G.T.builtins G.T.nolimit hg hobj hints (Nat.le_trans hlen hn2) hr hF hb (fun H hO hS=>hsp w H a ns hlen hO hS) fun H e s'=>hCX w H s₁ e s'
end L2
namespace L2
open PySem PySem.Spec PyProof.Rows
def z2h(s:Stmt):Arguments:=match s with
 | .FunctionDef _ a _ _ _ _ _ _ _ _=>a
 | _=>{ posonlyargs:=[],args:=[],vararg:=none,kwonlyargs:=[],kw_defaults:=[],kwarg:=none,defaults:=[] }
def z1r(s:Stmt):List Stmt:=match s with
 | .FunctionDef _ _ b _ _ _ _ _ _ _=>b
 | _=>[]
def z06(s:Stmt):Scope:=match s with
 | .FunctionDef _ _ _ _ _ _ sc _ _ _=>sc
 | _=>{ kind := .function,names:=[],isGenerator:=false,isCoroutine:=false }
abbrev CX0:CXT:=fun _ _ _ _ _ _=>False
abbrev E0:XK:=fun _ _ _=>False
theorem pass0{X:Cx}:za4 CX0 X E0:=fun _ _ _ _ _ _ _ h=>h.elim
structure Fun(K:PySem.W.Frag)(x qual:Str)(st:Stmt)(f:Addr)(fd:FuncData):Prop where
 ex:∃(oc:Value) (od:Option Addr) (kV doc pm:Value) (an:Option Addr) (cdv ct:Value) (osl:Array (Option Value)),
  fd=PySem.W.fnOf x qual (z2h st) (z1r st) (z06 st) .none kV doc pm an cdv ct∧K.lookup f=some ⟨oc,od,.func fd,osl⟩∧PySem.W.codeIn K cdv qual=true
 kp:PySem.W.keepIn K (.ref f)=true
section
variable {P:Program}{w:World}{K:PySem.W.Frag}{mg:Str→Option Value}{base:Heap}
theorem Fun.ok{x qual:Str}{st:Stmt}{f:Addr}{fd:FuncData}{N ps:List Str}{k:Nat}{sp:Sp}(F:Fun K x qual st f fd)(S:FnScope N ps (z06 st))(len:∀ vs H Q E,sp vs H Q E→vs.length=ps.length)
  (hbody:∀(cdv:Value) (A:Around) (outer:List Env) (s:Shared) (H:Hp) (vs:List V) (Q:VK) (E:XK),Room k (A.deeper (envOfC qual (z06 st) s.heap.objs.size f cdv))→sp vs H Q E →
   ∃ t,PSs (cxOf CX0 P w K mg base N qual (z06 st) f cdv A outer s H E).nox (z1r st) t∧t { nx:=fun _ H'=>Q .non H',rt:=Q } (start N vs) H):FnOk P w K mg base CX0 (k+1) f fd ps sp:=by
 obtain⟨oc,od,kV,doc,pm,an,cdv,ct,osl,rfl,lk,hcd⟩:=F.ex
 refine fn_of lk hcd S len fun A outer s H vs Q E hr hsp=>?_
 obtain⟨t,h,q⟩:=hbody cdv A outer s H vs Q E hr hsp
 exact⟨t,h.nox,q⟩
theorem Fun.binds{x qual:Str}{st:Stmt}{f:Addr}{fd:FuncData}{ps:List Str}(F:Fun K x qual st f fd)
  (h:∀(kV doc pm:Value) (an:Option Addr) (cdv ct:Value) (us:List Value),us.length=ps.length→bindArgs (PySem.W.fnOf x qual (z2h st) (z1r st) (z06 st) .none kV doc pm an cdv ct) ⟨us,[]⟩=pure (ps.zip us)):Binds K fd ps []:=by
 obtain⟨oc,od,kV,doc,pm,an,cdv,ct,osl,rfl,lk,hcd⟩:=F.ex
 exact .all (h kV doc pm an cdv ct)
theorem zhn{x qual:Str}{st:Stmt}{f:Addr}{oc:Value}{od an:Option Addr}{osl:Array (Option Value)}{kV doc pm cdv ct:Value}(l:K.lookup f=some ⟨oc,od,.func (PySem.W.fnOf x qual (z2h st) (z1r st) (z06 st) .none kV doc pm an cdv ct),osl⟩)
 (c:PySem.W.codeIn K cdv qual=true) (k:PySem.W.keepIn K (.ref f)=true):Fun K x qual st f (PySem.W.fnOf x qual (z2h st) (z1r st) (z06 st) .none kV doc pm an cdv ct):=⟨⟨oc,od,kV,doc,pm,an,cdv,ct,osl,rfl,l,c⟩,k⟩
end
section
variable {X:Cx}
end
def Same(H H':Hp):Prop:=∀ b o,H b=some o→H' b=some o
theorem Same.refl(H:Hp):Same H H:=fun _ _ h=>h
theorem Same.trans{H H1 H2:Hp}(a:Same H H1)(b:Same H1 H2):Same H H2:=fun c o h=>b c o (a c o h)
theorem Same.free{H H':Hp}(e:Same H H'){l:Addr}(h:H' l=Option.none):H l=Option.none:=by
 cases q:H l with
 | none=>rfl
 | some o =>
  rw[e l o q]at h
  cases h
theorem Same.seq{K:PySem.W.Frag}{H H':Hp}{a:Addr}{xs:List V}(e:Same H H')(h:SqL K H a xs):SqL K H' a xs:=by
 rcases h with(h|⟨o,h⟩)|h
 · exact .inl (.inl (e _ _ h))
 · exact .inl (.inr ⟨o,e _ _ h⟩)
 · exact .inr h
end L2

end
section
set_option Elab.async false
set_option linter.all false
set_option maxRecDepth 100000
namespace L2
open PySem PySem.Spec PyProof.Rows
theorem zho{x:Str}{lo:Nat}:∀(names:List (Str×NameKind)) (n:Nat) (acc:List (Str×Addr)) (c:Addr),lo≤n→(∀ c,acc.lookup x=some c→lo≤c)→(cellsFrom n names acc).lookup x=some c→lo≤c
 | [],_,_,_,_,h,e=>h _ e
 | (y,k)::r,n,acc,c,hn,h,e=>by
  unfold cellsFrom at e
  split at e
  · refine zho r (n+1) _ c (Nat.le_succ_of_le hn) (fun c' e'=>?_) e
    rw[List.lookup_cons]at e'
    split at e'
    · cases e';exact hn
    · exact h c' e'
  · exact zho r n acc c hn h e
theorem zcj{x:Str}:∀(names:List (Str×NameKind)) (n:Nat) (acc:List (Str×Addr)) (c:Addr),names.lookup x=some .cell→(cellsFrom n names acc).lookup x=some c→n≤c
 | [],_,_,_,h,_=>by cases h
 | (y,k)::r,n,acc,c,h,e=>by
  rw[List.lookup_cons]at h
  unfold cellsFrom at e
  cases hb:x==y with
  | true =>
   rw[hb]at h
   have hk:k = .cell:=by cases h;rfl
   subst hk
   rw[if_pos (show(NameKind.cell==NameKind.cell)=true from rfl)]at e
   refine zho r (n+1) _ c (Nat.le_succ _) (fun c' e'=>?_) e
   rw[List.lookup_cons,hb]at e'
   cases e'
   exact Nat.le_refl _
  | false =>
   rw[hb]at h
   split at e
   · exact Nat.le_of_succ_le (zcj r (n+1) _ c h e)
   · exact zcj r n acc c h e
theorem zck{x:Str}:∀(names:List (Str×NameKind)) (n:Nat) (acc:List (Str×Addr)),(∀ y∈names,y.1=x→y.2 ≠ .cell)→(cellsFrom n names acc).lookup x=acc.lookup x
 | [],_,_,_=>rfl
 | (y,k)::r,n,acc,h=>by
  unfold cellsFrom
  have hr:∀ y∈r,y.1=x→y.2 ≠ .cell:=fun z hz=>h z (List.mem_cons_of_mem _ hz)
  split
  · rename_i hk
    rw[zck r (n+1) _ hr,List.lookup_cons]
    have hne:(x==y)=false:=by
     cases hb:x==y with
     | false=>rfl
     | true=>exact absurd (beq_iff_eq.mp hk) (h (y,k) List.mem_cons_self (beq_iff_eq.mp hb).symm)
    rw[hne]
  · exact zck r n acc hr
theorem zcl:∀(names:List (Str×NameKind)) (n:Nat) (acc:List (Str×Addr)) (p:Str×Addr),p∈cellsFrom n names acc→n≤p.2∨p∈acc
 | [],_,_,_,e => .inr e
 | (y,k)::r,n,acc,p,e=>by
  unfold cellsFrom at e
  split at e
  · rcases zcl r (n+1) _ p e with q|q
    · exact .inl (Nat.le_of_succ_le q)
    · rcases List.mem_cons.mp q with q|q
      · subst q;exact .inl (Nat.le_refl _)
      · exact .inr q
  · exact zcl r n acc p e
theorem z7x:∀(names:List (Str×NameKind)) (n:Nat) (acc:List (Str×Addr)),(∀ p∈acc,p.2<n)→(acc.Pairwise fun x y=>x.2≠y.2)→(cellsFrom n names acc).Pairwise fun x y=>x.2≠y.2
 | [],_,_,_,h=>h
 | (y,k)::r,n,acc,hl,h=>by
  unfold cellsFrom
  split
  · refine z7x r (n+1) _ (fun p hp=>?_) (List.pairwise_cons.mpr ⟨fun p hp e=>?_,h⟩)
    · rcases List.mem_cons.mp hp with q|q
      · subst q;exact Nat.lt_succ_self _
      · exact Nat.lt_succ_of_lt (hl p q)
    · have e':n=p.2:=e
      have q:=hl p hp
      rw[←e']at q
      exact absurd q (Nat.lt_irrefl _)
  · exact z7x r n acc hl h
theorem z7y:∀(names:List (Str×NameKind)) (n:Nat) (acc:List (Str×Addr)),cellsFrom n names acc=cellsFrom n names []++acc
 | [],_,_=>rfl
 | (y,k)::r,n,acc=>by
  unfold cellsFrom
  split
  · rw[z7y r (n+1) ((y,n)::acc),z7y r (n+1) [(y,n)],List.append_assoc]
    rfl
  · exact z7y r n acc
def z0K(env:Env):List (Str×NameKind)→List (Str×Addr)→List (Str×Addr)
 | [],acc=>acc
 | (y,k)::r,acc=>if k == .free then z0K env r (match env.cells.lookup y with|some c=>(y,c)::acc|none=>acc) else z0K env r acc
theorem z33{env:Env}{x:Str}:∀(names:List (Str×NameKind)) (acc:List (Str×Addr)),(∀ c,acc.lookup x=some c→env.cells.lookup x=some c)→∀ c,(z0K env names acc).lookup x=some c→env.cells.lookup x=some c
 | [],_,h=>h
 | (y,k)::r,acc,h=>by
  unfold z0K
  split
  · refine z33 r _ fun c e=>?_
    cases hy:env.cells.lookup y with
    | none=>rw[hy]at e;exact h c e
    | some d =>
     rw[hy]at e
     dsimp only at e
     rw[List.lookup_cons]at e
     split at e
     · rename_i hb
       cases e
       rw[beq_iff_eq.mp hb];exact hy
     · exact h c e
  · exact z33 r acc h
theorem z4X{env:Env}:∀(names:List (Str×NameKind)) (acc:List (Str×Addr)) (p:Str×Addr),p∈z0K env names acc→p∈acc∨env.cells.lookup p.1=some p.2
 | [],_,_,h => .inl h
 | (y,k)::r,acc,p,h=>by
  unfold z0K at h
  split at h
  · rcases z4X r _ p h with q|q
    · cases hy:env.cells.lookup y with
      | none=>rw[hy]at q;exact .inl q
      | some d =>
       rw[hy]at q
       rcases List.mem_cons.mp q with q|q
       · subst q;exact .inr hy
       · exact .inl q
    · exact .inr q
  · exact z4X r acc p h
theorem z3s{env:Env}{x:Str}:∀(names:List (Str×NameKind)) (acc:List (Str×Addr)),(acc.lookup x).isSome=true→((z0K env names acc).lookup x).isSome=true
 | [],_,h=>h
 | (y,k)::r,acc,h=>by
  unfold z0K
  split
  · refine z3s r _ ?_
    cases hy:env.cells.lookup y with
    | none=>exact h
    | some d =>
     show(List.lookup x ((y,d)::acc)).isSome=true
     rw[List.lookup_cons]
     split
     · rfl
     · exact h
  · exact z3s r acc h
theorem z4Y{env:Env}{x:Str}{c:Addr}:∀(names:List (Str×NameKind)) (acc:List (Str×Addr)),names.lookup x=some .free→env.cells.lookup x=some c→((z0K env names acc).lookup x).isSome=true
 | [],_,h,_=>by cases h
 | (y,k)::r,acc,h,hc=>by
  rw[List.lookup_cons]at h
  unfold z0K
  cases hb:x==y with
  | true =>
   rw[hb]at h
   have hk:k = .free:=by cases h;rfl
   subst hk
   rw[if_pos (show(NameKind.free==NameKind.free)=true from rfl)]
   refine z3s r _ ?_
   have hxy:x=y:=beq_iff_eq.mp hb
   subst hxy
   rw[hc]
   show(List.lookup x ((x,c)::acc)).isSome=true
   rw[List.lookup_cons,hb];rfl
  | false =>
   rw[hb]at h
   split
   · exact z4Y r _ h hc
   · exact z4Y r _ h hc
theorem z4Z{env:Env}:∀(names:List (Str×NameKind)) (acc:List (Str×Addr)) (f:Str×NameKind→List (Str×Addr)→Sem (ForInStep (List (Str×Addr)))),
  (∀ name kind cs,f (name,kind) cs=if kind == .free then(do let a ←cellOf env name;pure (.yield ((name,a)::cs))) else pure (.yield cs)) →
  (∀ y∈names,y.2 = .free→∃ c,env.cells.lookup y.1=some c)→forIn names acc f=(pure (z0K env names acc):Sem _)
 | [],acc,f,hf,h=>by rw[List.forIn_nil];rfl
 | (y,k)::r,acc,f,hf,h=>by
  have hr:∀ z∈r,z.2 = .free→∃ c,env.cells.lookup z.1=some c:=fun z hz=>h z (List.mem_cons_of_mem _ hz)
  rw[List.forIn_cons,hf]
  unfold z0K
  by_cases hk:(k==NameKind.free)=true
  · rw[if_pos hk,if_pos hk]
    obtain⟨c,hc⟩:=h (y,k) List.mem_cons_self (beq_iff_eq.mp hk)
    have hc':env.cells.lookup y=some c:=hc
    have e:cellOf env y=(pure c:Sem Addr):=by unfold cellOf;rw[hc']
    rw[e,hc']
    simp only[pure_bind]
    exact z4Z r _ f hf hr
  · rw[if_neg hk,if_neg hk]
    simp only[pure_bind]
    exact z4Z r _ f hf hr
theorem zcm{scope:Scope}{env:Env}(h:∀ y∈scope.names,y.2 = .free→∃ c,env.cells.lookup y.1=some c):closureFor scope env=pure (z0K env scope.names []):=by
 unfold closureFor
 simp only[]
 rw[z4Z scope.names [] _ (fun name kind cs=>by cases hk:kind==NameKind.free<;>simp[hk]) h]
 rfl
end L2

end
section
set_option linter.all false
namespace L2
open PySem
section
variable {prog:Program}{w:World}{A:Around}{R:Result→Shared→Prop}{s:Shared}
theorem za7{elt target iter:Expr}{ifs:List Expr}{scope:Scope}{pos:Pos}{it acc:Value}{env:Env}(I:Nat→Shared→Prop)
  (turn:∀ n s,I n s→wpAny (model prog w) A (pyNext it) (fun r s₁=>match r with
   | none=>R (.ok .next) s₁
   | some v=>wpAny (model prog w) A (letOwnedTupleGo target it v) (fun _ s₁'=>wpAny (model prog w) A (assign target env v) (fun _ s₂ =>
    wpAny (model prog w) A (forIn ifs true fun c r=>if r=true then do let ok ←isTrue c env (eval c env);pure (ForInStep.yield ok) else pure (ForInStep.yield r)) (fun ok s₃ =>
     if ok=true then wpAny (model prog w) A (eval elt env) (fun x s₄ =>
      wpAny (model prog w) A (call (.builtin "list.append") [acc,x]) (fun _ s₅=>∃ m,m<n∧I m s₅) (notedBy (model prog w) A env fun e s'=>R (.error e) s') s₄) (notedBy (model prog w) A env fun e s'=>R (.error e) s') s₃
     else ∃ m,m<n∧I m s₃) (notedBy (model prog w) A env fun e s'=>R (.error e) s') s₂) (notedBy (model prog w) A env fun e s'=>R (.error e) s') s₁')
    (notedBy (model prog w) A env fun e s'=>R (.error e) s') s₁) (notedBy (model prog w) A env fun e s'=>R (.error e) s') s)
  (n:Nat) (h:I n s) :
  codeAny (model prog w) A (.compLoop (.ListComp elt [⟨target,iter,ifs,0⟩] scope pos) 0 it acc env) R s:=by
 refine codeAny_loop rfl I (fun n s hI=>?_) n h
 show wpAny _ A ((compTurn (.ListComp elt [⟨target,iter,ifs,0⟩] scope pos) 0 it acc env).onRaise (fun x=>do noteFrame x env;theTreesLotGoes x)) _ _ s
 refine wpAny_noted ?_
 rw[compTurn_list]
 refine wpAny_bind (wpAny_standAt (wpAny_bind (wpAny_mono (turn n s hI) (fun r s₁ h₁=>?_) fun _ _ h'=>h')))
 cases r with
 | none=>exact wpAny_pure h₁
 | some v =>
  refine wpAny_bind (wpAny_mono h₁ (fun _ s₁' h₁'=>?_) fun _ _ h'=>h')
  refine wpAny_bind (wpAny_mono h₁' (fun _ s₂ h₂=>wpAny_bind (wpAny_mono h₂ (fun ok s₃ h₃=>?_) fun _ _ h'=>h')) fun _ _ h'=>h')
  cases ok with
  | false=>exact wpAny_pure ⟨rfl,h₃⟩
  | true =>
   exact wpAny_bind (wpAny_bind (wpAny_mono h₃ (fun x s₄ h₄=>wpAny_bind (wpAny_mono h₄ (fun _ s₅ h₅=>wpAny_pure (wpAny_pure ⟨rfl,h₅⟩)) fun _ _ h'=>h')) fun _ _ h'=>h'))
theorem zhp{M:Model}{E:Value→Shared→Prop}{scope:Scope}{globals:Addr}{cl:List (Str×Addr)}{qual:Str}{func:Option Addr}{code:Value}{env:Env}{Q:Env→Shared→Prop}
  (hQ:∀ h',h'.Ns s.heap.objs.size (fun _=>none)→(∀ b o,s.heap.get? b=some o→h'.get? b=some o)→(∀ n c,(n,c)∈cellsFrom (s.heap.objs.size+1) scope.names []→h'.IsCell c none) →
   Q (newEnv scope s.heap.objs.size globals (cellsFrom (s.heap.objs.size+1) scope.names cl) qual func code (some env) builtinsNs) { s with heap:=h' }) :
  wpAny M A (newFunctionEnv scope globals cl [] qual func code (some env)) Q E s:=by
 simp only[newFunctionEnv,Option.isSome_some,if_true]
 refine wpAny_bind (wpAny_alloc ?_)
 refine wpAny_bind (wpAny_layCells _ (fun name kind cells=>by cases hkc:kind==NameKind.cell<;>simp[hkc]) _ _ _ _ ?_)
 have ok:=cellsFrom_ok scope.names (s.heap.push { cls := .type "dict",data := .dict #[] }) (s.heap.objs.size+1) [] ⟨fun _ _ hm=>(nomatch hm),List.Pairwise.nil⟩ (by rw[Heap.size_push];exact Nat.le_refl _)
 rw[Heap.size_push]at ok
 rw[show({ s with heap:=s.heap.push { cls := .type "dict",data := .dict #[] } }:Shared).heap.objs.size=s.heap.objs.size+1 from Heap.size_push ..]
 refine wpAny_bind ?_
 rw[List.forIn_nil]
 refine wpAny_pure (wpAny_pure ?_)
 exact hQ _ ((Heap.Ns.new s.heap (.type "dict")).keeps (pushCells_keeps _ _)) (fun b o e=>pushCells_keeps _ _ b o (Heap.get?_push_of_some _ e)) fun n c hm=>(ok.empty n c hm).1
end
end L2

end
section
set_option Elab.async false
set_option linter.all false
set_option maxRecDepth 100000
namespace L2
open PySem PySem.Spec PyProof.Rows
def z0V(X:Cx)(N:List Str)(scope:Scope)(cl:List (Str×Addr))(C:Addr)(fp:List Addr)(s:Shared)(H:Hp):Cx where
 prog:=X.prog
 w:=X.w
 K:=X.K
 mg:=X.mg
 base:=X.base
 A:=X.A
 N:=N
 s₀:=s
 H₀:=H
 env:=compEnvC scope cl C X.env
 outer:=X.stack
 stack:=X.stack
 ex:=fp
 fn:=fun x=>scope.names.lookup x==some .cell
 calm:=X.calm
 pn:=[]
 xe:=fun _ _=>False
structure CompScope(X:Cx)(N:List Str)(scope:Scope)(nt:Nat)(js:List Nat):Prop where
 kind:scope.kind = .function
 nd:(scope.names.map (·.1)).Nodup
 loc:∀ x∈scope.names,x.2 = .local→scope.names.lookup x.1=some .local
 len:N.length=nt+js.length
 names:∀ k j,js[k]?=some j→∃ x,N[nt+k]?=some x∧X.N[j]?=some x∧scope.names.lookup x=some .free
 fre:∀ x∈scope.names,x.2 = .free→X.env.kindOf x.1=some .cell∨X.env.kindOf x.1=some .free
def sig(nt:Nat)(js:List Nat)(σ:St):St:=List.replicate nt none++js.map fun j=>(σ[j]?).join
def PTs(X:Cx)(ifs:List Expr)(t:TT):Prop :=
 ∀(pins:List (Addr×Obj)) (s:Shared) (σ:St) (H:Hp) (Q:Bool→Hp→Prop),Inv X pins σ H s→t σ H Q →
  wpAny (model X.prog X.w) X.A (forIn ifs true fun c r=>if r=true then do let ok ←isTrue c X.env (eval c X.env);pure (ForInStep.yield ok) else pure (ForInStep.yield r)) (TP X pins σ Q) X.xe s
def tYes:TT:=fun _ H Q=>Q true H
theorem zkV{X:Cx}:PTs X [] tYes:=fun pins s σ H Q I h=>wpAny_tests_nil ⟨H,I,h⟩
theorem zkW{X:Cx}{c:Expr}{t:TT}(hc:PT X c t):PTs X [c] t:=fun pins s σ H Q I h=>wpAny_tests_one (hc pins s σ H Q I h)
theorem nlt{a b:Nat}(h1:a+1≤b)(h2:b<a):False:=by omega
theorem z2r{α:Type}:∀{l:List (Str×α)} {p:Str×α},(l.map (·.1)).Nodup→p∈l→l.lookup p.1=some p.2
 | [],_,_,h=>by cases h
 | (y,k)::r,p,nd,h=>by
  have nd:(y::r.map (·.1)).Nodup:=nd
  obtain⟨n1,n2⟩:=List.nodup_cons.mp nd
  rw[List.lookup_cons]
  rcases List.mem_cons.mp h with e|e
  · subst e
    show(match y==y with|true=>some k|false=>_)=some k
    rw[beq_self_eq_true]
  · cases hb:p.1==y with
    | true =>
     rw[←beq_iff_eq.mp hb]at n1
     exact absurd (List.mem_map.mpr ⟨p,e,rfl⟩) n1
    | false=>exact z2r n2 e
theorem z3Y{env:Env}{x:Str}:∀{names:List (Str×NameKind)} {k:NameKind},names.lookup x=some k →
  (names.map fun(n,k)=>if(k==NameKind.free&&env.scope.kind == .function&&env.kindOf n==some .cell) then(n,NameKind.cell) else(n,k)).lookup x=some (if(k==NameKind.free&&env.scope.kind == .function&&env.kindOf x==some .cell)=true then .cell else k)
 | [],_,h=>by cases h
 | (y,k')::r,k,h=>by
  rw[List.lookup_cons]at h
  show List.lookup x ((if(k'==NameKind.free&&env.scope.kind == .function&&env.kindOf y==some .cell)=true then(y,NameKind.cell) else(y,k'))::_)=_
  cases hb:x==y with
  | true =>
   rw[hb]at h
   have hk:k'=k:=by cases h;rfl
   have hxy:x=y:=beq_iff_eq.mp hb
   subst hk;subst hxy
   split<;>(rw[List.lookup_cons];rw[hb])
  | false =>
   rw[hb]at h
   have ih:=@z3Y env x r k h
   split<;>(rw[List.lookup_cons];rw[hb];exact ih)
theorem z3t{env:Env}{x:Str}{k:NameKind}:∀{names:List (Str×NameKind)},
  (names.map fun(n,k)=>if(k==NameKind.free&&env.scope.kind == .function&&env.kindOf n==some .cell) then(n,NameKind.cell) else(n,k)).lookup x=some k→∃ k',names.lookup x=some k'∧(k=k'∨(k' = .free∧k = .cell))
 | [],h=>by cases h
 | (y,k')::r,h=>by
  have h:List.lookup x ((if(k'==NameKind.free&&env.scope.kind == .function&&env.kindOf y==some .cell)=true then(y,NameKind.cell) else(y,k'))::r.map fun(n,k)=>if(k==NameKind.free&&env.scope.kind == .function&&env.kindOf n==some .cell) then(n,NameKind.cell) else(n,k))=some k:=h
  rw[List.lookup_cons]
  cases hb:x==y with
  | true =>
   split at h
   · rename_i hc
     rw[List.lookup_cons,hb]at h
     have hf:(k'==NameKind.free)=true:=by
      rw[Bool.and_eq_true,Bool.and_eq_true]at hc
      exact hc.1.1
     cases h
     exact⟨k',rfl,.inr ⟨beq_iff_eq.mp hf,rfl⟩⟩
   · rw[List.lookup_cons,hb]at h
     cases h
     exact⟨k,rfl,.inl rfl⟩
  | false =>
   split at h
   all_goals
     rw[List.lookup_cons,hb]at h
     exact z3t h
section
variable {X:Cx}{N:List Str}{scope:Scope}{nt:Nat}{js:List Nat}{pins:List (Addr×Obj)}{σ:St}{H:Hp}{s:Shared}{fp:List Addr}
theorem zhq{s2:Shared}{H2:Hp}(S:CompScope X N scope nt js)(I2:Inv X pins σ H2 s2)(I:Inv X pins σ H s)(hu:Un (frs X.stack) fp H2 H s2.heap s.heap)(hos:s.os=s2.os)(hz:s2.heap.objs.size≤s.heap.objs.size)
   (hf:∀ b∈fp,FpOk X pins H b) (ho:∀ b∈fp,∃ o,s.heap.get? b=some o) {h':Heap}
   (ns:h'.Ns s.heap.objs.size (fun _=>none)) (k:∀ b o,s.heap.get? b=some o→h'.get? b=some o) (nc:∀ n c,(n,c)∈cellsFrom (s.heap.objs.size+1) scope.names []→h'.IsCell c none) :
   Inv (z0V X N scope (cellsFrom (s.heap.objs.size+1) scope.names (z0K X.env scope.names [])) s.heap.objs.size fp s2 H2) [] (sig nt js σ) H { s with heap:=h' }:=by
 have ok:=I.ok
 have hcl:∀ p∈z0K X.env scope.names [],X.env.cells.lookup p.1=some p.2:=fun p hp=>(z4X _ _ p hp).resolve_left (by simp)
 have hlt:∀ x c,X.env.cells.lookup x=some c→c<s.heap.objs.size:=fun x c e=>by
   obtain⟨v,o,ho,_⟩:=I.cell x c e
   exact Heap.lt_size ho
 have mem:∀ x c,(cellsFrom (s.heap.objs.size+1) scope.names (z0K X.env scope.names [])).lookup x=some c→s.heap.objs.size+1≤c∨X.env.cells.lookup x=some c:=fun x c e=>by
   rcases zcl _ _ _ _ (PySem.mem_of_lookup e)with q|q
   · exact .inl q
   · exact .inr (hcl _ q)
 have frec:∀ x,scope.names.lookup x=some .free→∃ c,X.env.cells.lookup x=some c∧(cellsFrom (s.heap.objs.size+1) scope.names (z0K X.env scope.names [])).lookup x=some c:=fun x hx=>by
   obtain⟨c,hc⟩:=ok.has x (S.fre (x,.free) (PySem.mem_of_lookup hx) rfl)
   refine⟨c,hc,?_⟩
   rw[zck _ _ _ fun y hy e=>?_]
   · obtain⟨d,hd⟩:=Option.isSome_iff_exists.mp (z4Y (env:=X.env) scope.names [] hx hc)
     have:=z33 (env:=X.env) (x:=x) scope.names [] (fun c e=>by simp at e) d hd
     rw[hc]at this
     cases this
     exact hd
   · have q:=z2r S.nd hy
     rw[e,hx]at q
     intro z
     rw[z]at q
     cases q
 refine⟨⟨ok.mod,S.kind,ok.glob,ok.blt,hz,fun x y c hx hy=>?_,fun x hx=>?_,fun x c hx e=>?_,ok.hd,ok.frames,.inl rfl,fun b hb=>⟨?_,fun x c e=>?_⟩,fun b o e=>?_,?_,fun b o e hb=>?_,fun b hb=>?_,I2.stack,I2.stkFree⟩,
   hos,I.bare,hu.trans (Un.kept k),⟨_,ns,fun i x v h1 h2 h3=>?_⟩,fun x c e=>?_,?_,fun x c e=>?_,fun p hp=>absurd (show p∈([]:List (Addr×Obj))from hp) (by simp),I.hok.kept k,?_⟩
 ·
   rcases mem x c hx with q|q
   · rcases mem y c hy with q'|q'
     · have in1:∀ z:Str,(z,c)∈cellsFrom (s.heap.objs.size+1) scope.names (z0K X.env scope.names [])→(z,c)∈cellsFrom (s.heap.objs.size+1) scope.names []:=fun z hz=>by
         rw[z7y]at hz
         rcases List.mem_append.mp hz with hz|hz
         · exact hz
         · exact(nlt q (hlt _ _ (hcl _ hz))).elim
       exact name_of_addr (z7x scope.names (s.heap.objs.size+1) [] (fun p hp=>by simp at hp) List.Pairwise.nil) (in1 x (PySem.mem_of_lookup hx)) (in1 y (PySem.mem_of_lookup hy))
     · exact(nlt q (hlt _ _ q')).elim
   · rcases mem y c hy with q'|q'
     · exact(nlt q' (hlt _ _ q)).elim
     · exact ok.inj x y c q q'
 ·
   have hx:(relabel scope X.env).names.lookup x=some .cell∨(relabel scope X.env).names.lookup x=some .free:=hx
   have cs:scope.names.lookup x=some .cell∨scope.names.lookup x=some .free:=by
     rcases hx with q|q
     · obtain⟨k',e1,e2⟩:=z3t q
       rcases e2 with e2|⟨e2,_⟩
       · rw[←e2]at e1;exact .inl e1
       · rw[e2]at e1;exact .inr e1
     · obtain⟨k',e1,e2⟩:=z3t q
       rcases e2 with e2|⟨_,e2⟩
       · rw[←e2]at e1;exact .inr e1
       · cases e2
   rcases cs with q|q
   · exact Option.isSome_iff_exists.mp (PySem.W.cellsFrom_some scope.names _ _ (.inl q))
   · obtain⟨c,_,e⟩:=frec x q
     exact⟨c,e⟩
 ·
   have hx:(scope.names.lookup x==some .cell)=true:=hx
   exact Nat.le_trans hz (Nat.le_of_succ_le (zcj scope.names _ _ c (beq_iff_eq.mp hx) e))
 ·
   intro e
   obtain⟨o,hb'⟩:=ho b hb
   exact absurd (Heap.lt_size hb') (by rw[e];exact Nat.lt_irrefl _)
 · rcases mem x c e with q|q
   · intro z
     obtain⟨o,hb'⟩:=ho b hb
     have:=Heap.lt_size hb'
     rw[←z]at this
     exact nlt q this
   · exact(hf b hb).2.2.2.2.1 x c q
 · exact I2.bs b o e
 · exact Nat.le_trans ok.bsz I2.sz
 ·
   rcases(hf b hb).2.2.2.1 with q|q
   · exact ok.noex b o e q
   · exact absurd (Nat.lt_of_lt_of_le (Heap.lt_size e) (Nat.le_trans ok.bsz q)) (Nat.lt_irrefl _)
 ·
   intro z
   rcases List.mem_cons.mp (I.stkSub b z)with q|q
   · exact(hf b hb).2.1 q
   · exact(hf b hb).2.2.1 q
 ·
   have hi:nt≤i:=by
     by_cases hi:i<nt
     · unfold sig at h2
       rw[List.getElem?_append_left (by simpa using hi),List.getElem?_replicate]at h2
       split at h2<;>cases h2
     · omega
   unfold sig at h2
   rw[List.getElem?_append_right (by simpa using hi),List.length_replicate,List.getElem?_map]at h2
   cases ej:js[i-nt]? with
   | none=>rw[ej]at h2;cases h2
   | some j =>
     rw[ej]at h2
     have h2:(σ[j]?).join=some v:=Option.some.inj h2
     obtain⟨y,n1,n2,n3⟩:=S.names _ _ ej
     have hxy:x=y:=by
       have e:nt+(i-nt)=i:=by omega
       rw[e]at n1
       have h1:N[i]?=some x:=h1
       rw[h1]at n1
       exact Option.some.inj n1
     subst hxy
     have h2':σ[j]?=some (some v):=by
       cases eσ:σ[j]? with
       | none=>rw[eσ]at h2;cases h2
       | some a =>
         rw[eσ]at h2
         have h2:a=some v:=h2
         rw[h2]
     obtain⟨m,hn,hl⟩:=I.loc
     have kd:=S.fre (x,.free) (PySem.mem_of_lookup n3) rfl
     obtain⟨u,ru,lk⟩:=hl j x v n2 h2' (.inr kd)
     refine⟨u,ru,?_⟩
     obtain⟨c,c1,c2⟩:=frec x n3
     rcases lk with⟨z,_⟩|⟨_,d,d1,d2⟩
     · have kd':X.env.kindOf x=some .cell∨X.env.kindOf x=some .free:=kd
       rw[z]at kd'
       rcases kd' with q|q<;>cases q
     · rw[c1]at d1
       cases d1
       refine .inr ⟨?_,c,c2,d2.keeps k⟩
       have:=z3Y (env:=X.env) n3
       show(relabel scope X.env).names.lookup x=some .cell∨(relabel scope X.env).names.lookup x=some .free
       unfold relabel
       dsimp only
       rw[this]
       split
       · exact .inl rfl
       · exact .inr rfl
 ·
   have e:(cellsFrom (s.heap.objs.size+1) scope.names (z0K X.env scope.names [])).lookup x=some c:=e
   have hm:=PySem.mem_of_lookup e
   rw[z7y]at hm
   rcases List.mem_append.mp hm with q|q
   · exact⟨none,nc x c q⟩
   · obtain⟨v,hv⟩:=I.cell x c (hcl _ q)
     exact⟨v,hv.keeps k⟩
 · exact I.hok.fresh (Nat.le_refl _)
 · rcases mem x c e with q|q
   · exact I.hok.fresh (Nat.le_of_succ_le q)
   · exact I.freeC x c q
 · show(sig nt js σ).length=N.length
   unfold sig
   rw[List.length_append,List.length_replicate,List.length_map,S.len]
end
end L2

end
section
set_option Elab.async false
set_option linter.all false
set_option maxRecDepth 100000
namespace L2
open PySem PySem.Spec PyProof.Rows
def zfA(nt:Nat)(js:List Nat)(wi:TI)(g:TG)(tc:Hp→TT)(te:Hp→TE):TE:=fun σ H Q=>wi σ H fun J H1=>∀ D,H1 D=none →
 ∃ W:Nat→Nat→List V→Hp→Prop,(∃ m,W 0 m [] (upd H1 D (.lst [])))∧∀ i m ys H,W i m ys H →
  (J.stop i H∧Q (.ref D) H)∨(J.go i H∧∀ x H',J.yld i H x H'→g x (sig nt js σ) H' fun σ2 H2=>tc H1 σ2 H2 fun b H3 =>
   if b=true then te H1 σ2 H3 fun v H4=>H4 D=some (.lst ys)∧ys.length<sizeLine∧∃ m',m'<m∧W (i+1) m' (ys++[v]) (upd H4 D (.lst (ys++[v])))
   else ∃ m',m'<m∧W (i+1) m' ys H3)
section
variable {X:Cx}{N:List Str}{scope:Scope}{nt:Nat}{js:List Nat}{tg elt iter:Expr}{ifs:List Expr}{wi:TI}{g:TG}{tc:Hp→TT}{te:Hp→TE}{pos:Pos}
theorem zhr{σ σ2:St}(hl:σ2.length=(sig nt js σ).length)(h:∀ i,nt≤i→σ2[i]?=(sig nt js σ)[i]?):∀(i:Nat) v,(sig nt js σ)[i]?=some (some v)→σ2[i]?=some (some v):=fun i v e=>by
 by_cases hi:nt≤i
 · rw[h i hi];exact e
 · unfold sig at e
   rw[List.getElem?_append_left (by rw[List.length_replicate];omega),List.getElem?_replicate]at e
   split at e<;>cases e
def TgOk(nt:Nat)(g:TG):Prop:=∀ x σ H (Q:St→Hp→Prop),g x σ H Q→g x σ H fun σ2 H2=>(σ2.length=σ.length∧∀ i,nt≤i→σ2[i]?=σ[i]?)∧Q σ2 H2
theorem zaQ(S:CompScope X N scope nt js)(hc:X.calm=true)(hi:PI X tg iter wi)
  (hg:∀ cl C fp s H,PG (z0V X N scope cl C fp s H) tg g) (ht:TgOk nt g) (hcs:∀ cl C fp s H,PTs (z0V X N scope cl C fp s H) ifs (tc H)) (he:∀ cl C fp s H,PE (z0V X N scope cl C fp s H) elt (te H))
  {use:Option (Value→Sem Unit)} {pins:List (Addr×Obj)} {s:Shared} {σ:St} {H:Hp} {Q:VK} {Q':Value→Shared→Prop} (I:Inv X pins σ H s) (h:zfA nt js wi g tc te σ H Q)
  (hs:∀ x,foldedSetIterable iter X.env x=pure x)
  (fin:∀(D C:Addr) (H':Hp) (s':Shared),Inv X pins σ H' s'→Q (.ref D) H'→H' C=none→C≠X.env.locals→(X.s₀.heap.objs.size≤C)→(∀ x c,X.env.cells.lookup x=some c→c≠C)→(∀ p∈X.pn++pins,p.1≠C)→(∃ m,s'.heap.Ns C m) →
    compPost (model X.prog X.w) X.A X.xe use Q' (.ref D) C (.ok .next) s') :
  wpAny (model X.prog X.w) X.A (comprehension (.ListComp elt [⟨tg,iter,ifs,0⟩] scope pos) scope X.env (firstIterPos [⟨tg,iter,ifs,0⟩] pos) (newList []) false (eval iter X.env) use) Q' X.xe s:=by
 have clo:closureFor scope X.env=pure (z0K X.env scope.names []):=zcm fun y hy e=>I.ok.has y.1 (S.fre y hy e)
 refine wpAny_comprehension_free (cl:=z0K X.env scope.names []) rfl hs clo S.kind S.loc (thn (hi pins s σ H _ I h) fun xv s1 h1=>thn h1 fun itv s2 h2=>?_)
 obtain⟨it,fp,tn,J,H2,rfl,I2,T,st2,f2,q2⟩:=h2
 refine wpAny_newObj_type (hd:=by size_fits) ?_
 have fresh2:H2 s2.heap.objs.size=none:=I2.fresh
 have I3:=I2.lnew (ys:=[]) (its:=[]) (t':=s2.toks) .nil (Nat.zero_le _)
 obtain⟨W,⟨m0,w0⟩,turn⟩:=q2 s2.heap.objs.size fresh2
 have ltf:∀ b∈fp,b<s2.heap.objs.size:=fun b hb=>by
  obtain⟨o,e,_⟩:=T.obj 0 _ st2 b hb
  exact Heap.lt_size e
 have ned:∀ b∈fp,b≠s2.heap.objs.size:=fun b hb=>Nat.ne_of_lt (ltf b hb)
 have f3:∀ b∈fp,FpOk X pins (upd H2 s2.heap.objs.size (.lst [])) b:=fun b hb=>⟨by rw[z0u (ned b hb)];exact(f2 b hb).1,(f2 b hb).2⟩
 generalize e3:({ s2 with heap:=s2.heap.push { cls := .type "list",dict:=none,data := .seq ([]:List Value).toArray } }:Shared)=s3 at *
 have k3:∀ b o,s2.heap.get? b=some o→s3.heap.get? b=some o:=fun b o e=>by rw[←e3];exact Heap.get?_push_of_some _ e
 have os3:s3.os=s2.os:=by rw[←e3]
 have sz3:s2.heap.objs.size<s3.heap.objs.size:=by rw[←e3];show _<(s2.heap.push _).objs.size;rw[Heap.size_push];exact Nat.lt_succ_self _
 refine zhp fun h4 ns4 k4 nc4=>?_
 have I4:=zhq S I2 I3 (Un.laid k3 (Nat.le_refl _) fresh2) os3 (Nat.le_of_lt sz3) f3 (fun b hb=>by obtain⟨o,e,_⟩:=T.obj 0 _ st2 b hb;exact⟨o,k3 b o e⟩) ns4 k4 nc4
 have st4:tn 0 h4:=T.keep _ _ _ st2 fun b _ o e=>k4 b o (k3 b o e)
 generalize eC:s3.heap.objs.size=C at *
 have stat:∀{H':Hp},(∀ b∈fp,H' b=none)→∀ b∈fp,FpOk (z0V X N scope (cellsFrom (C+1) scope.names (z0K X.env scope.names [])) C fp s2 H2) [] H' b:=fun hn b hb =>
  ⟨hn b hb,(I4.ok.exf b hb).1,I4.ok.exfs b hb,.inl hb,(I4.ok.exf b hb).2,fun p hp=>absurd (show p∈([]:List (Addr×Obj))from hp) (by simp)⟩
 have loop:∀ s4:Shared,s4={ s3 with heap:=h4 }→codeAny (model X.prog X.w) X.A (.compLoop (.ListComp elt [⟨tg,iter,ifs,0⟩] scope pos) 0 (.ref it) (.ref s2.heap.objs.size) (compEnvC scope (cellsFrom (C+1) scope.names (z0K X.env scope.names [])) C X.env))
    (compPost (model X.prog X.w) X.A X.xe use Q' (.ref s2.heap.objs.size) C) s4:=by
  rintro s4 rfl
  refine za7 (fun n s'=>∃ i ys H',Inv (z0V X N scope (cellsFrom (C+1) scope.names (z0K X.env scope.names [])) C fp s2 H2) [] (sig nt js σ) H' s'∧tn i s'.heap∧(∀ b∈fp,H' b=none)∧W i n ys H') ?_ m0
    ⟨0,[],_,I4,st4,fun b hb=>(f3 b hb).1,w0⟩
  rintro n s5 ⟨i,ys,H5,I5,st5,fr5,w5⟩
  rcases turn i n ys H5 w5 with⟨stop,q⟩|⟨go,step⟩
  · refine wpAny_mono (T.done (z0V X N scope (cellsFrom (C+1) scope.names (z0K X.env scope.names [])) C fp s2 H2) rfl rfl rfl hc i [] s5 _ H5 _ I5 (stat fr5) st5 stop) (fun r s6 hZ=>hZ.elim fun hr I6=>?_) fun _ _ z=>z
    subst hr
    have u:Un (frs X.stack) fp H2 H5 s2.heap s6.heap:=I6.base
    have J6:Inv X pins σ H5 s6:=I2.call' I6.os u I6.hok I6.bare fun b hb=>⟨(f2 b hb).2.2.2.1,(f2 b hb).2.1,(f2 b hb).2.2.2.2.1,(f2 b hb).2.2.2.2.2⟩
    have hCs:s2.heap.objs.size≤C:=Nat.le_of_lt sz3
    refine fin _ C H5 s6 J6 q I6.free (fun z=>?_) (Nat.le_trans I2.sz hCs) (fun x c e z=>?_) (fun p hp z=>?_) ?_
    · exact absurd I2.lt (by rw[←z];exact Nat.not_lt.mpr hCs)
    · obtain⟨v,o,ho,_⟩:=I2.cell x c e
      exact absurd (Heap.lt_size ho) (by rw[z];exact Nat.not_lt.mpr hCs)
    · exact absurd (Heap.lt_size (I2.pin p hp).1) (by rw[z];exact Nat.not_lt.mpr hCs)
    · obtain⟨m,hm,_⟩:=I6.loc
      exact⟨m,hm⟩
  · refine wpAny_mono (T.item (z0V X N scope (cellsFrom (C+1) scope.names (z0K X.env scope.names [])) C fp s2 H2) rfl rfl rfl hc i [] s5 _ H5 _ I5 (stat fr5) st5 go) (fun r s6 hZ=>hZ.elim fun u hZ=>hZ.elim fun hr h6=>?_) fun _ _ z=>z
    subst hr
    refine wpAny_mono h6 (fun _ s7 hZ=>hZ.elim fun x hZ=>hZ.elim fun H7 hZ=>hZ.elim fun I7 hZ=>hZ.elim fun r7 hZ=>hZ.elim fun y7 hZ=>hZ.elim fun st7 fr7=>?_) fun _ _ z=>z
    have I7':=I7.pinned (stat fr7) (T.obj _ _ st7)
    refine wpAny_mono (hg _ _ _ _ _ _ s7 _ H7 x u _ I7' r7 (ht _ _ _ _ (step x H7 y7))) (fun _ s8 ⟨σ8,H8,I8,⟨l8,o8⟩,q8⟩=>?_) fun _ _ z=>z.elim
    have again:∀{s9:Shared} {H9:Hp} {ys9:List V},Inv (z0V X N scope (cellsFrom (C+1) scope.names (z0K X.env scope.names [])) C fp s2 H2) ([]++z7v fp s7.heap) σ8 H9 s9→(∃ m',m'<n∧W (i+1) m' ys9 H9) →
       ∃ m,m<n∧∃ i ys H',Inv (z0V X N scope (cellsFrom (C+1) scope.names (z0K X.env scope.names [])) C fp s2 H2) [] (sig nt js σ) H' s9∧tn i s9.heap∧(∀ b∈fp,H' b=none)∧W i m ys H':=fun{s9 H9 ys9} I9 ⟨m',hm,w9⟩=>by
      refine⟨m',hm,i+1,ys9,H9,I9.unpinned.weak l8.symm (zhr l8 o8),T.keep _ _ _ st7 fun b hb o e=>(I9.pin (b,o) (List.mem_append_right _ (List.mem_append_right _ (z3q hb e)))).1,fun b hb=>?_,w9⟩
      obtain⟨o,e,_⟩:=T.obj _ _ st7 b hb
      exact(I9.pin (b,o) (List.mem_append_right _ (List.mem_append_right _ (z3q hb e)))).2.1
    refine wpAny_mono (hcs _ _ _ _ _ _ s8 σ8 H8 _ I8 q8) (fun ok s9 hZ=>hZ.elim fun H9 hZ=>hZ.elim fun I9 q9=>?_) fun _ _ z=>z.elim
    cases ok with
    | false =>
      rw[if_neg Bool.false_ne_true]at q9 ⊢
      exact again I9 q9
    | true =>
      rw[if_pos rfl]at q9 ⊢
      refine wpAny_mono (he _ _ _ _ _ _ s9 σ8 H9 _ I9 q9) (fun y s10 hZ=>hZ.elim fun v hZ=>hZ.elim fun H10 hZ=>hZ.elim fun I10 hZ=>hZ.elim fun r10 hZ=>hZ.elim fun d10 hZ=>hZ.elim fun l10 w10=>?_) fun _ _ z=>z.elim
      refine wpAny_mono (z9 (X:=z0V X N scope (cellsFrom (C+1) scope.names (z0K X.env scope.names [])) C fp s2 H2) _ s10 σ8 H10 (.ref s2.heap.objs.size) [v] (.ref s2.heap.objs.size) [y] (fun z H'=>∃ m',m'<n∧W (i+1) m' (ys++[v]) H') I10 rfl (.cons r10 .nil) ⟨_,ys,v,rfl,rfl,d10,l10,w10⟩) (fun _ s11 hZ=>hZ.elim fun _ hZ=>hZ.elim fun H11 hZ=>hZ.elim fun I11 hZ=>hZ.elim fun _ w11=>?_) fun _ _ z=>z.elim
      exact again I11 w11
 exact codeAny_compStart_list (loop _ rfl) (T.self _ _ _ _ _ st4 (loop _ rfl))
theorem zkX(S:CompScope X N scope nt js)(hc:X.calm=true)(hi:PI X tg iter wi)
  (hg:∀ cl C fp s H,PG (z0V X N scope cl C fp s H) tg g) (ht:TgOk nt g) (hcs:∀ cl C fp s H,PTs (z0V X N scope cl C fp s H) ifs (tc H)) (he:∀ cl C fp s H,PE (z0V X N scope cl C fp s H) elt (te H))
  (hs:∀ x,foldedSetIterable iter X.env x=pure x:=by intro _;rfl):PE X (.ListComp elt [⟨tg,iter,ifs,0⟩] scope pos) (zfA nt js wi g tc te):=by
 intro pins s σ H Q I h
 rw[eval_ListComp]
 refine zaQ (use:=none) S hc hi hg ht hcs he I h hs ?_
 rintro D C H' s' I' q hC hL hz hcl hpn ⟨m,hm⟩
 exact⟨m,hm,fun h' sb=>⟨.ref D,H',I'.turned (fun b o hb e=>sb.extBut b o hb e) hC hL (.inr hz) hcl hpn,rfl,q⟩⟩
theorem zkY{i:Nat}{x:Str}{pos' spos:Pos}(hN:X.N.Nodup)(hix:X.N[i]?=some x)(hx:X.env.scope.names.lookup x=some .local)(S:CompScope X N scope nt js)(hc:X.calm=true)(hi:PI X tg iter wi)
  (hg:∀ cl C fp s H,PG (z0V X N scope cl C fp s H) tg g) (ht:TgOk nt g) (hcs:∀ cl C fp s H,PTs (z0V X N scope cl C fp s H) ifs (tc H)) (he:∀ cl C fp s H,PE (z0V X N scope cl C fp s H) elt (te H))
  (hsw:swapsWith (.ListComp elt [⟨tg,iter,ifs,0⟩] scope pos) (some (.Name x pos')) spos.line X.env=pure true)
  (hs:∀ x,foldedSetIterable iter X.env x=pure x:=by intro _;rfl):PS X (.Assign [.Name x pos'] (.ListComp elt [⟨tg,iter,ifs,0⟩] scope pos) spos) (tAsg (zfA nt js wi g tc te) (z7u i)):=by
 intro pins s σ H D0 I h
 rw[exec_Assign_Name_used _ _ _ _ hsw]
 refine wpAny_bind (wpAny_standAt (wpAny_bind ?_))
 show wpAny _ X.A (do let _ ←comprehension (.ListComp elt [⟨tg,iter,ifs,0⟩] scope pos) scope X.env _ (newList []) false (eval iter X.env) (some (assign (.Name x pos') X.env))) _ _ s
 refine wpAny_bind (wpAny_mono (zaQ (use:=some (assign (.Name x pos') X.env)) (Q':=fun _ s'=>SP X pins D0 .next s') S hc hi hg ht hcs he I h hs fun D C H' s' I' q hC hL hz hcl hpn hZ=>hZ.elim fun m hm=>?_) (fun _ s' hq=>wpAny_pure (wpAny_pure hq)) fun _ _ e=>e)
 show wpAny _ X.A (assign (.Name x pos') X.env (.ref D)) _ _ s'
 refine wpAny_assign_Name (z8V (v := .ref D) I' hN hix (.inl hx) rfl (fun s'' I'' hZ=>hZ.elim fun a hZ=>hZ.elim fun sb ha=>?_) (.inr hx))
 have hCa:C≠a:=by
  rintro rfl
  rcases ha with ha|ha
  · exact hL ha
  · exact hcl x C ha rfl
 refine⟨m,hm.sameBut sb hCa,fun h' sb'=>⟨_,H',I''.turned (fun b o hb e=>sb'.extBut b o hb e) hC hL (.inr hz) hcl hpn,q⟩⟩
end
end L2

end
section
set_option Elab.async false
set_option linter.all false
set_option maxRecDepth 100000
namespace L2
open PySem PySem.Spec PyProof.Rows
section
variable {X:Cx}
def CDivG(_ j:Int):Prop:=j≠0∧j.natAbs.log2<9000
theorem zhs:OpR X (binaryOp .FloorDiv) (rI CDivG fun i j => .int (i.fdiv j)):=opI fun _ _ _ _ _ _ _ hc q=>floordiv_int hc.1 q (.inl (PyProof.noPylong_of_log2 hc.2))
theorem log2_lt{n k:Nat}(h:n<2 ^ k)(hk:0<k):n.log2<k:=by
 by_cases h0:n=0
 · subst h0;exact hk
 · exact(Nat.log2_lt h0).mpr h
theorem zkZ{i:Int}{k:Nat}(h:i.natAbs<2 ^ k):Builtin.Int.intBits i≤k:=by
 unfold Builtin.Int.intBits
 split
 · exact Nat.zero_le _
 · rename_i h0
   have h1:i.natAbs≠0:=by
    intro e
    apply h0
    have:i=0:=Int.natAbs_eq_zero.mp e
    subst this
    rfl
   exact Nat.succ_le_of_lt ((Nat.log2_lt h1).mpr h)
theorem pe_ty{x:Str}{T:String}{pos:Pos}(hg:Gl X x)(hm:X.mg x=none)(hv:bootBuiltins x=some (.type T))(hn:x ≠ "__name__" := by decide)(hd:(x==("__debug__" : Str))=false:=by decide):PE X (.Name x pos) (tC (.ty T)):=zkE (v:=V.ty T) hg hm hv rfl hn hd
end
end L2

end
section
set_option Elab.async false
set_option linter.all false
set_option maxRecDepth 100000
namespace L2
open PySem PySem.Spec PyProof.Rows
def hidL(A:List Addr)(H:Hp):Hp:=fun b=>if b∈A then none else H b
def z14(A:List Addr)(H H':Hp):Hp:=fun b=>if b∈A then H b else H' b
section
variable {A:List Addr}{H H' H1:Hp}{a b:Addr}{o:HO}
theorem z2i(h:b∈A):hidL A H b=none:=if_pos h
theorem z0p(h:b ∉ A):hidL A H b=H b:=if_neg h
theorem z4w(h:hidL A H b=some o):b ∉ A∧H b=some o:=by
 unfold hidL at h
 split at h
 · cases h
 · rename_i q;exact⟨q,h⟩
theorem z0G:Same (hidL A H) H:=fun b o e=>(z4w e).2
theorem zaR:hidL [] H=H:=funext fun b=>by unfold hidL;simp
theorem z4x(h:b∈A):z14 A H H' b=H b:=if_pos h
theorem z0Z(h:b ∉ A):z14 A H H' b=H' b:=if_neg h
theorem Same.glue(h:Same (hidL A H) H')(hn:∀ a∈A,H' a=none):Same H (z14 A H H'):=fun b o e=>by
 by_cases q:b∈A
 · rw[z4x q];exact e
 · rw[z0Z q];exact h b o (by rw[z0p q];exact e)
theorem z2E(hn:∀ a∈A,H' a=none):hidL A (z14 A H H')=H':=funext fun b=>by
 by_cases q:b∈A
 · rw[z2i q,hn b q]
 · rw[z0p q,z0Z q]
end
def OwnL(X:Cx)(A:List Addr)(H:Hp):Prop:=∀ a∈A,(∃ vs,H a=some (.lst vs))∧X.H₀ a=none
section
variable {X:Cx}{A:List Addr}{pins:List (Addr×Obj)}{σ:St}{H H':Hp}{s s':Shared}
def zaS(h:Heap)(A:List Addr):List (Addr×Obj):=A.filterMap fun a=>(h.get? a).map fun o=>(a,o)
theorem z91{h:Heap}{a:Addr}{o:Obj}(ha:a∈A)(e:h.get? a=some o):(a,o)∈zaS h A:=List.mem_filterMap.mpr ⟨a,ha,by rw[e];rfl⟩
theorem zht{h:Heap}{p:Addr×Obj}(hp:p∈zaS h A):p.1∈A∧h.get? p.1=some p.2:=by
 obtain⟨a,ha,e⟩:=List.mem_filterMap.mp hp
 cases q:h.get? a with
 | none=>rw[q]at e;cases e
 | some o=>rw[q]at e;cases e;exact⟨ha,q⟩
theorem Inv.fsFree(I:Inv X pins σ H s){b:Addr}(hb:b∈X.fs):H b=none:=by
 obtain⟨_,o,ho,_⟩:=I.ok.funs.mem hb
 exact I.base.free b o ho (I.ok.frf b hb) fun z=>I.ok.exfs b z hb
theorem Inv.hide(I:Inv X pins σ H s)(hA:OwnL X A H):Inv X (pins++zaS s.heap A) σ (hidL A H) s:=by
 have nl:∀ b o,H b=some o→(∀ vs,o ≠ .lst vs)→b ∉ A:=fun b o e n hb=>by
   obtain⟨⟨vs,q⟩,_⟩:=hA b hb
   rw[e]at q
   exact n vs (Option.some.inj q)
 refine⟨I.ok,I.os,I.bare,⟨I.base.keep,I.base.slot,fun b o e n hx=>?_,I.base.there,fun b xs e=>?_,fun b o u e=>?_,fun b ps e=>?_⟩,I.loc,I.cell,?_,fun x c e=>?_,fun p hp=>?_,fun a o e=>?_,I.len⟩
 · have:=I.base.free b o e n hx
   unfold hidL
   split
   · rfl
   · exact this
 · have:=I.base.tups b xs e
   rw[z0p (nl b _ this fun _ z=>by cases z)];exact this
 · have:=I.base.frzs b o u e
   rw[z0p (nl b _ this fun _ z=>by cases z)];exact this
 · obtain⟨more,this⟩:=I.base.tbls b ps e
   exact⟨more,by rw[z0p (nl b _ this fun _ z=>by cases z)];exact this⟩
 · have:=I.free
   unfold hidL
   split
   · rfl
   · exact this
 · have:=I.freeC x c e
   unfold hidL
   split
   · rfl
   · exact this
 · rw[←List.append_assoc]at hp
   rcases List.mem_append.mp hp with hp|hp
   · obtain⟨q1,q2,q3⟩:=I.pin p hp
     refine⟨q1,?_,q3⟩
     unfold hidL
     split
     · rfl
     · exact q2
   · obtain⟨q1,q2⟩:=zht hp
     obtain⟨⟨vs,q⟩,_⟩:=hA _ q1
     refine⟨q2,z2i q1,fun z=>?_,fun z=>?_,fun v z=>?_⟩
     · rw[z,I.free]at q;cases q
     · rw[I.fsFree z]at q;cases q
     · obtain⟨_,its,n,_,e⟩:=I.hok _ _ q
       rw[q2]at e
       have e:=Option.some.inj e
       rw[e]at z
       cases z
 · obtain⟨q1,q2⟩:=z4w e
   refine(I.hok a o q2).stay (fun b u _ z=>z) (fun b z=>?_) (fun b xs z=>?_)
   · rw[z0p (nl b _ z fun _ z=>by cases z)];exact z
   · rw[z0p (nl b _ z fun _ z=>by cases z)];exact z
theorem Inv.unhide{σ':St}(I:Inv X pins σ H s)(hA:OwnL X A H)(J:Inv X (pins++zaS s.heap A) σ' H' s'):(∀ a∈A,H' a=none)∧Inv X pins σ' (z14 A H H') s':=by
 have pn:∀ a∈A,∃ o,s.heap.get? a=some o∧s'.heap.get? a=some o∧H' a=none:=fun a ha=>by
   obtain⟨⟨vs,q⟩,_⟩:=hA a ha
   obtain⟨_,its,n,_,e⟩:=I.hok _ _ q
   have:=J.pin _ (List.mem_append_right _ (List.mem_append_right _ (z91 ha e)))
   exact⟨_,e,this.1,this.2.1⟩
 have hn:∀ a∈A,H' a=none:=fun a ha=>by obtain⟨o,_,_,q⟩:=pn a ha;exact q
 have out:∀ b,H b=none→b ∉ A:=fun b e hb=>by
   obtain⟨⟨vs,q⟩,_⟩:=hA b hb
   rw[e]at q;cases q
 have tr:∀ b o,H' b=some o→b ∉ A:=fun b o e hb=>by rw[hn b hb]at e;cases e
 refine⟨hn,J.ok,J.os,J.bare,⟨J.base.keep,J.base.slot,fun b o e n hx=>?_,J.base.there,fun b xs e=>?_,fun b o u e=>?_,fun b ps e=>?_⟩,J.loc,J.cell,?_,fun x c e=>?_,fun p hp=>?_,fun a o e=>?_,J.len⟩
 · rw[z0Z (out b (I.base.free b o e n hx))];exact J.base.free b o e n hx
 · have:=J.base.tups b xs e
   rw[z0Z (tr b _ this)];exact this
 · have:=J.base.frzs b o u e
   rw[z0Z (tr b _ this)];exact this
 · obtain⟨more,this⟩:=J.base.tbls b ps e
   exact⟨more,by rw[z0Z (tr b _ this)];exact this⟩
 · rw[z0Z (out _ I.free)];exact J.free
 · rw[z0Z (out _ (I.freeC x c e))];exact J.freeC x c e
 · have hp':p∈X.pn++(pins++zaS s.heap A):=by
     rw[←List.append_assoc];exact List.mem_append_left _ hp
   obtain⟨q1,q2,q3⟩:=J.pin p hp'
   refine⟨q1,?_,q3⟩
   rw[z0Z (out _ (I.pin p hp).2.1)];exact q2
 · by_cases ha:a∈A
   · rw[z4x ha]at e
     obtain⟨⟨vs,q⟩,_⟩:=hA a ha
     rw[q]at e
     cases e
     obtain⟨hz,its,n,r,e1⟩:=I.hok _ _ q
     obtain⟨o,e2,e3,_⟩:=pn a ha
     rw[e1]at e2
     cases e2
     exact⟨hz,its,n,r,e3⟩
   · rw[z0Z ha]at e
     refine(J.hok a o e).stay (fun b u _ z=>z) (fun b z=>?_) (fun b xs z=>?_)
     · rw[z0Z (tr b _ z)];exact z
     · rw[z0Z (tr b _ z)];exact z
theorem PE.frame{e:Expr}{t:TE}(h:PE X e t):PE X e (fun σ H Q=>∃ A,OwnL X A H∧t σ (hidL A H) fun v H'=>(∀ a∈A,H' a=none)→Q v (z14 A H H')):=by
 intro pins s σ H Q I ⟨A,hA,z⟩
 refine thn (h _ s σ _ _ (I.hide hA) z) ?_
 rintro u s' ⟨v,H',J,r,q⟩
 obtain⟨hn,J'⟩:=I.unhide hA J
 exact⟨v,_,J',r,q hn⟩
theorem PA.frame{es:List Expr}{t:TA}(h:PA X es t):PA X es (fun σ H Q=>∃ A,OwnL X A H∧t σ (hidL A H) fun v H'=>(∀ a∈A,H' a=none)→Q v (z14 A H H')):=by
 intro pos pins s σ H Q I ⟨A,hA,z⟩
 refine thn (h pos _ s σ _ _ (I.hide hA) z) ?_
 rintro u s' ⟨v,H',J,r,q⟩
 obtain⟨hn,J'⟩:=I.unhide hA J
 exact⟨v,_,J',r,q hn⟩
theorem PT.frame{e:Expr}{t:TT}(h:PT X e t):PT X e (fun σ H Q=>∃ A,OwnL X A H∧t σ (hidL A H) fun v H'=>(∀ a∈A,H' a=none)→Q v (z14 A H H')):=by
 intro pins s σ H Q I ⟨A,hA,z⟩
 refine thn (h _ s σ _ _ (I.hide hA) z) ?_
 rintro u s' ⟨H',J,q⟩
 obtain⟨hn,J'⟩:=I.unhide hA J
 exact⟨_,J',q hn⟩
def hidD(A:List Addr)(H:Hp)(D:Ends):Ends where
 nx:=fun σ H'=>(∀ a∈A,H' a=none)→D.nx σ (z14 A H H')
 rt:=fun v H'=>(∀ a∈A,H' a=none)→D.rt v (z14 A H H')
 bk:=fun σ H'=>(∀ a∈A,H' a=none)→D.bk σ (z14 A H H')
 ct:=fun σ H'=>(∀ a∈A,H' a=none)→D.ct σ (z14 A H H')
theorem PS.frame{st:Stmt}{t:TS}(h:PS X st t):PS X st (fun D σ H=>∃ A,OwnL X A H∧t (hidD A H D) σ (hidL A H)):=by
 intro pins s σ H D I ⟨A,hA,z⟩
 refine thn (h _ s σ _ _ (I.hide hA) z) fun f s' q=>?_
 cases f with
 | next=>obtain⟨σ',H',J,q⟩:=q;obtain⟨hn,J'⟩:=I.unhide hA J;exact⟨_,_,J',q hn⟩
 | brk=>obtain⟨σ',H',J,q⟩:=q;obtain⟨hn,J'⟩:=I.unhide hA J;exact⟨_,_,J',q hn⟩
 | cont=>obtain⟨σ',H',J,q⟩:=q;obtain⟨hn,J'⟩:=I.unhide hA J;exact⟨_,_,J',q hn⟩
 | ret u=>obtain⟨v,σ',H',J,r,q⟩:=q;obtain⟨hn,J'⟩:=I.unhide hA J;exact⟨_,_,_,J',r,q hn⟩
theorem PI.frame{tg e:Expr}{t:TI}(h:PI X tg e t):PI X tg e (fun σ H R=>∃ A,OwnL X A H∧t σ (hidL A H) fun J H'=>(∀ a∈A,H' a=none)→R J (z14 A H H')):=by
 intro pins s σ H R I ⟨A,hA,z⟩
 refine thn (h _ s σ _ _ (I.hide hA) z) fun v s1 q=>thn q ?_
 rintro itv s2 ⟨it,fp,tn,J,H',e,I2,T,st,hf,r⟩
 obtain⟨hn,I3⟩:=I.unhide hA I2
 refine⟨it,fp,tn,J,_,e,I3,T,st,fun b hb=>?_,r hn⟩
 obtain⟨f1,f2,f3,f4,f5,f6⟩:=hf b hb
 have hbA:b ∉ A:=fun ha=>by
  obtain⟨⟨vs,q⟩,_⟩:=hA b ha
  obtain⟨_,its,n,_,e⟩:=I.hok _ _ q
  exact f6 _ (List.mem_append_right _ (List.mem_append_right _ (z91 ha e))) rfl
 refine⟨by rw[z0Z hbA];exact f1,f2,f3,f4,f5,fun p hp=>f6 p ?_⟩
 rw[←List.append_assoc];exact List.mem_append_left _ hp
end
end L2

end
section
set_option Elab.async false
set_option linter.all false
set_option maxRecDepth 100000
namespace L2
open PySem PySem.Spec PyProof.Rows
inductive Dt where
 | non|bl (b:Bool)|int (i:Int)|str (x:Str)|lst (xs:List Dt)|tup (xs:List Dt)|scr (ns:List Int)|dic
def emp:Hp:=fun _=>none
theorem z7z{A C:List Addr}{H:Hp}:hidL A (hidL C H)=hidL C (hidL A H):=funext fun b=>by
 unfold hidL
 by_cases p:b∈A<;>by_cases q:b∈C<;>simp[p,q]
theorem z1s{A:List Addr}{H H':Hp}(h:Same H H'):Same (hidL A H) (hidL A H'):=fun b o e=>by
 obtain⟨q1,q2⟩:=z4w e
 rw[z0p q1];exact h b o q2
theorem z3b{A B:List Addr}{H:Hp}(h:∀ a∈B,a∈A):Same (hidL A H) (hidL B H):=fun b o e=>by
 obtain⟨q1,q2⟩:=z4w e
 rw[z0p fun z=>q1 (h b z)];exact q2
theorem Same.seqT{K:PySem.W.Frag}{H H':Hp}{a:Addr}{xs:List V}(e:Same H H')(h:SqT K H a xs):SqT K H' a xs:=by
 rcases h with(h|⟨o,h⟩)|h
 · exact .inl (.inl (e _ _ h))
 · exact .inl (.inr ⟨o,e _ _ h⟩)
 · exact .inr h
theorem Same.emp{H:Hp}:Same emp H:=fun _ _ e=>by cases e
def dicAt(a:Addr)(h:Heap):Prop:=h.get? a=some { cls := .type "dict",data := .dict #[] }
mutual
def Rp(K:PySem.W.Frag)(B:Hp):Dt→Hp→V→Prop
 | .non,_,v=>v = .non
 | .bl b,_,v=>v = .bl b
 | .int i,_,v=>v = .int i
 | .str x,_,v=>v = .str x
 | .dic,H,v=>∃ a,v = .ref a∧H a=some (.ext (dicAt a))
 | .lst ds,H,v=>∃ a vs,v = .ref a∧B a=none∧H a=some (.lst vs)∧Rps K B ds (hidL [a] H) vs
 | .tup ds,H,v=>∃ a vs,v = .ref a∧SqT K H a vs∧Rps K B ds H vs
 | .scr ns,H,v=>∃ a,v = .ref a∧B a=none∧SqL K H a (ns.map V.int)
def Rps(K:PySem.W.Frag)(B:Hp):List Dt→Hp→List V→Prop
 | [],_,vs=>vs=[]
 | d::ds,H,vs=>∃ v r,vs=v::r∧Rp K B d H v∧Rps K B ds H r
end
section
variable {K:PySem.W.Frag}{B B' H H':Hp}
theorem Rp.int_{i:Int}{v:V}:Rp K B (.int i) H v↔v = .int i:=by unfold Rp;exact Iff.rfl
theorem Rp.bl_{b:Bool}{v:V}:Rp K B (.bl b) H v↔v = .bl b:=by unfold Rp;exact Iff.rfl
theorem Rp.non_{v:V}:Rp K B .non H v↔v = .non:=by unfold Rp;exact Iff.rfl
theorem Rp.str_{x:Str}{v:V}:Rp K B (.str x) H v↔v = .str x:=by unfold Rp;exact Iff.rfl
theorem Rp.dic_{v:V}:Rp K B .dic H v↔∃ a,v = .ref a∧H a=some (.ext (dicAt a)):=by unfold Rp;exact Iff.rfl
theorem Rp.lst_{ds:List Dt}{v:V}:Rp K B (.lst ds) H v↔∃ a vs,v = .ref a∧B a=none∧H a=some (.lst vs)∧Rps K B ds (hidL [a] H) vs:=by rw[Rp]
theorem Rp.tup_{ds:List Dt}{v:V}:Rp K B (.tup ds) H v↔∃ a vs,v = .ref a∧SqT K H a vs∧Rps K B ds H vs:=by rw[Rp]
theorem Rp.scr_{ns:List Int}{v:V}:Rp K B (.scr ns) H v↔∃ a,v = .ref a∧B a=none∧SqL K H a (ns.map V.int):=by rw[Rp]
theorem Rps.nil_{vs:List V}:Rps K B [] H vs↔vs=[]:=by rw[Rps]
theorem Rps.cons_{d:Dt}{ds:List Dt}{vs:List V}:Rps K B (d::ds) H vs↔∃ v r,vs=v::r∧Rp K B d H v∧Rps K B ds H r:=by rw[Rps]
mutual
theorem Rp.mono:∀(d:Dt) {H H':Hp} {v:V},Same H H'→Rp K B d H v→Rp K B d H' v
 | .non,_,_,v,e,h=>by unfold Rp at h ⊢;exact h
 | .bl b,_,_,v,e,h=>by unfold Rp at h ⊢;exact h
 | .int i,_,_,v,e,h=>by unfold Rp at h ⊢;exact h
 | .str x,_,_,v,e,h=>by unfold Rp at h ⊢;exact h
 | .dic,_,_,v,e,h=>by unfold Rp at h ⊢;obtain⟨a,q,r⟩:=h;exact⟨a,q,e _ _ r⟩
 | .lst ds,_,_,v,e,h=>by
  unfold Rp at h ⊢
  obtain⟨a,vs,rfl,h0,h1,h2⟩:=h
  exact⟨a,vs,rfl,h0,e _ _ h1,Rps.mono ds (z1s e) h2⟩
 | .tup ds,_,_,v,e,h=>by
  unfold Rp at h ⊢
  obtain⟨a,vs,rfl,h1,h2⟩:=h
  exact⟨a,vs,rfl,e.seqT h1,Rps.mono ds e h2⟩
 | .scr ns,_,_,v,e,h=>by
  unfold Rp at h ⊢
  obtain⟨a,rfl,h0,h1⟩:=h
  exact⟨a,rfl,h0,e.seq h1⟩
theorem Rps.mono:∀(ds:List Dt) {H H':Hp} {vs:List V},Same H H'→Rps K B ds H vs→Rps K B ds H' vs
 | [],_,_,vs,e,h=>by unfold Rps at h ⊢;exact h
 | d::ds,_,_,vs,e,h=>by
  unfold Rps at h ⊢
  obtain⟨v,r,rfl,h1,h2⟩:=h
  exact⟨v,r,rfl,Rp.mono d e h1,Rps.mono ds e h2⟩
end
mutual
theorem Rp.anti(e:Same B' B):∀(d:Dt) {H:Hp} {v:V},Rp K B d H v→Rp K B' d H v
 | .non,_,v,h=>by unfold Rp at h ⊢;exact h
 | .bl b,_,v,h=>by unfold Rp at h ⊢;exact h
 | .int i,_,v,h=>by unfold Rp at h ⊢;exact h
 | .str x,_,v,h=>by unfold Rp at h ⊢;exact h
 | .dic,_,v,h=>by unfold Rp at h ⊢;exact h
 | .lst ds,_,v,h=>by
  unfold Rp at h ⊢
  obtain⟨a,vs,rfl,h0,h1,h2⟩:=h
  exact⟨a,vs,rfl,e.free h0,h1,Rps.anti e ds h2⟩
 | .tup ds,_,v,h=>by
  unfold Rp at h ⊢
  obtain⟨a,vs,rfl,h1,h2⟩:=h
  exact⟨a,vs,rfl,h1,Rps.anti e ds h2⟩
 | .scr ns,_,v,h=>by
  unfold Rp at h ⊢
  obtain⟨a,rfl,h0,h1⟩:=h
  exact⟨a,rfl,e.free h0,h1⟩
theorem Rps.anti(e:Same B' B):∀(ds:List Dt) {H:Hp} {vs:List V},Rps K B ds H vs→Rps K B' ds H vs
 | [],_,vs,h=>by unfold Rps at h ⊢;exact h
 | d::ds,_,vs,h=>by
  unfold Rps at h ⊢
  obtain⟨v,r,rfl,h1,h2⟩:=h
  exact⟨v,r,rfl,Rp.anti e d h1,Rps.anti e ds h2⟩
end
theorem SqT.hid{A:List Addr}{a:Addr}{xs:List V}(hA:∀ b∈A,∀ o,H b=some o→∃ vs,o = .lst vs)(h:SqT K H a xs):SqT K (hidL A H) a xs:=by
 rcases h with(h|⟨o,h⟩)|h
 · refine .inl (.inl ?_)
   rw[z0p fun z=>by obtain⟨vs,e⟩:=hA a z _ h;cases e];exact h
 · refine .inl (.inr ⟨o,?_⟩)
   rw[z0p fun z=>by obtain⟨vs,e⟩:=hA a z _ h;cases e];exact h
 · exact .inr h
theorem SqL.hid{A:List Addr}{a:Addr}{xs:List V}(hA:a ∉ A)(h:SqL K H a xs):SqL K (hidL A H) a xs:=by
 rcases h with(h|⟨o,h⟩)|h
 · exact .inl (.inl (by rw[z0p hA];exact h))
 · exact .inl (.inr ⟨o,by rw[z0p hA];exact h⟩)
 · exact .inr h
mutual
theorem Rp.hid{A:List Addr}(hB:∀ b∈A,B b≠none):∀(d:Dt) {H:Hp} {v:V},(∀ b∈A,∀ o,H b=some o→∃ vs,o = .lst vs)→Rp K B d H v→Rp K B d (hidL A H) v
 | .non,_,v,_,h=>by unfold Rp at h ⊢;exact h
 | .bl b,_,v,_,h=>by unfold Rp at h ⊢;exact h
 | .int i,_,v,_,h=>by unfold Rp at h ⊢;exact h
 | .str x,_,v,_,h=>by unfold Rp at h ⊢;exact h
 | .dic,_,v,hA,h=>by unfold Rp at h ⊢;obtain⟨a,q,r⟩:=h;exact⟨a,q,by rw[z0p fun z=>by obtain⟨vs,e⟩:=hA a z _ r;cases e];exact r⟩
 | .lst ds,H,v,hA,h=>by
  unfold Rp at h ⊢
  obtain⟨a,vs,rfl,h0,h1,h2⟩:=h
  refine⟨a,vs,rfl,h0,by rw[z0p fun z=>hB a z h0];exact h1,?_⟩
  rw[z7z]
  exact Rps.hid hB ds (fun b hb o e=>hA b hb o (z4w e).2) h2
 | .tup ds,H,v,hA,h=>by
  unfold Rp at h ⊢
  obtain⟨a,vs,rfl,h1,h2⟩:=h
  exact⟨a,vs,rfl,h1.hid hA,Rps.hid hB ds hA h2⟩
 | .scr ns,H,v,hA,h=>by
  unfold Rp at h ⊢
  obtain⟨a,rfl,h0,h1⟩:=h
  exact⟨a,rfl,h0,h1.hid fun z=>hB a z h0⟩
theorem Rps.hid{A:List Addr}(hB:∀ b∈A,B b≠none):∀(ds:List Dt) {H:Hp} {vs:List V},(∀ b∈A,∀ o,H b=some o→∃ vs,o = .lst vs)→Rps K B ds H vs→Rps K B ds (hidL A H) vs
 | [],_,vs,_,h=>by unfold Rps at h ⊢;exact h
 | d::ds,_,vs,hA,h=>by
  unfold Rps at h ⊢
  obtain⟨v,r,rfl,h1,h2⟩:=h
  exact⟨v,r,rfl,Rp.hid hB d hA h1,Rps.hid hB ds hA h2⟩
end
end
mutual
def Dt.flat:Dt→Bool
 | .lst _=>false
 | .scr _=>false
 | .tup ds=>z1g ds
 | _=>true
def z1g:List Dt→Bool
 | []=>true
 | d::ds=>d.flat&&z1g ds
end
section
variable {K:PySem.W.Frag}{B B' H H':Hp}
mutual
theorem Rp.flat:∀(d:Dt) {H:Hp} {v:V},d.flat=true→Rp K B d H v→Rp K B' d H v
 | .non,_,v,_,h=>by unfold Rp at h ⊢;exact h
 | .bl b,_,v,_,h=>by unfold Rp at h ⊢;exact h
 | .int i,_,v,_,h=>by unfold Rp at h ⊢;exact h
 | .str x,_,v,_,h=>by unfold Rp at h ⊢;exact h
 | .dic,_,v,_,h=>by unfold Rp at h ⊢;exact h
 | .lst ds,_,v,f,h=>by unfold Dt.flat at f;cases f
 | .tup ds,_,v,f,h=>by
  unfold Dt.flat at f
  unfold Rp at h ⊢
  obtain⟨a,vs,rfl,h1,h2⟩:=h
  exact⟨a,vs,rfl,h1,Rps.flat ds f h2⟩
 | .scr ns,_,v,f,h=>by unfold Dt.flat at f;cases f
theorem Rps.flat:∀(ds:List Dt) {H:Hp} {vs:List V},z1g ds=true→Rps K B ds H vs→Rps K B' ds H vs
 | [],_,vs,_,h=>by unfold Rps at h ⊢;exact h
 | d::ds,_,vs,f,h=>by
  unfold z1g at f
  rw[Bool.and_eq_true]at f
  unfold Rps at h ⊢
  obtain⟨v,r,rfl,h1,h2⟩:=h
  exact⟨v,r,rfl,Rp.flat d f.1 h1,Rps.flat ds f.2 h2⟩
end
theorem Rps.length:∀{ds:List Dt} {vs:List V},Rps K B ds H vs→vs.length=ds.length
 | [],vs,h=>by rw[Rps.nil_.mp h];rfl
 | d::ds,vs,h=>by
  obtain⟨v,r,rfl,_,h2⟩:=Rps.cons_.mp h
  rw[List.length_cons,List.length_cons,Rps.length h2]
theorem Rps.get:∀{ds:List Dt} {vs:List V} {i:Nat} {d:Dt},Rps K B ds H vs→ds[i]?=some d→∃ v,vs[i]?=some v∧Rp K B d H v
 | [],vs,i,d,_,e=>by simp at e
 | c::ds,vs,0,d,h,e=>by
  obtain⟨v,r,rfl,h1,_⟩:=Rps.cons_.mp h
  simp at e;subst e
  exact⟨v,rfl,h1⟩
 | c::ds,vs,i+1,d,h,e=>by
  obtain⟨v,r,rfl,_,h2⟩:=Rps.cons_.mp h
  have e:ds[i]?=some d:=by simpa using e
  obtain⟨u,q1,q2⟩:=Rps.get h2 e
  exact⟨u,by simpa using q1,q2⟩
theorem Rps.append:∀{ds ds':List Dt} {vs vs':List V},Rps K B ds H vs→Rps K B ds' H vs'→Rps K B (ds++ds') H (vs++vs')
 | [],ds',vs,vs',h,h'=>by rw[Rps.nil_.mp h];exact h'
 | d::ds,ds',vs,vs',h,h'=>by
  obtain⟨v,r,rfl,h1,h2⟩:=Rps.cons_.mp h
  exact Rps.cons_.mpr ⟨v,r++vs',rfl,h1,Rps.append h2 h'⟩
theorem Rps.one{d:Dt}{v:V}(h:Rp K B d H v):Rps K B [d] H [v]:=Rps.cons_.mpr ⟨v,[],rfl,h,Rps.nil_.mpr rfl⟩
theorem Rps.take:∀{ds:List Dt} {vs:List V} (n:Nat),Rps K B ds H vs→Rps K B (ds.take n) H (vs.take n)
 | ds,vs,0,_=>by rw[List.take_zero,List.take_zero];exact Rps.nil_.mpr rfl
 | [],vs,n+1,h=>by rw[Rps.nil_.mp h];exact Rps.nil_.mpr rfl
 | d::ds,vs,n+1,h=>by
  obtain⟨v,r,rfl,h1,h2⟩:=Rps.cons_.mp h
  exact Rps.cons_.mpr ⟨v,r.take n,rfl,h1,Rps.take n h2⟩
theorem Rps.drop:∀{ds:List Dt} {vs:List V} (n:Nat),Rps K B ds H vs→Rps K B (ds.drop n) H (vs.drop n)
 | ds,vs,0,h=>h
 | [],vs,n+1,h=>by rw[Rps.nil_.mp h];exact Rps.nil_.mpr rfl
 | d::ds,vs,n+1,h=>by
  obtain⟨v,r,rfl,h1,h2⟩:=Rps.cons_.mp h
  exact Rps.drop n h2
theorem Rps.set:∀{ds:List Dt} {vs:List V} (i:Nat) {d:Dt} {v:V},Rps K B ds H vs→Rp K B d H v→Rps K B (ds.set i d) H (vs.set i v)
 | [],vs,i,d,v,h,_=>by rw[Rps.nil_.mp h];exact Rps.nil_.mpr rfl
 | c::ds,vs,0,d,v,h,q=>by
  obtain⟨u,r,rfl,h1,h2⟩:=Rps.cons_.mp h
  exact Rps.cons_.mpr ⟨v,r,rfl,q,h2⟩
 | c::ds,vs,i+1,d,v,h,q=>by
  obtain⟨u,r,rfl,h1,h2⟩:=Rps.cons_.mp h
  exact Rps.cons_.mpr ⟨u,r.set i v,rfl,h1,Rps.set i h2 q⟩
theorem Rps.reverse:∀{ds:List Dt} {vs:List V},Rps K B ds H vs→Rps K B ds.reverse H vs.reverse
 | [],vs,h=>by rw[Rps.nil_.mp h];exact Rps.nil_.mpr rfl
 | d::ds,vs,h=>by
  obtain⟨v,r,rfl,h1,h2⟩:=Rps.cons_.mp h
  rw[List.reverse_cons,List.reverse_cons]
  exact Rps.append (Rps.reverse h2) (Rps.one h1)
theorem zaT{p:Addr}{o:HO}(h:H p=none):hidL [p] (upd H p o)=H:=funext fun b=>by
 by_cases q:b=p
 · subst q;rw[z2i (by simp),h]
 · rw[z0p (by simpa using q),z0u q]
theorem z17{p:Addr}{o:HO}(h:H p=none):Same H (upd H p o):=fun b u e=>by rw[z0u (z23 e h)];exact e
theorem Rp.new{ds:List Dt}{vs:List V}{p:Addr}(hp:H p=none)(hB:B p=none)(r:Rps K B ds H vs):Rp K B (.lst ds) (upd H p (.lst vs)) (.ref p) :=
 Rp.lst_.mpr ⟨p,vs,rfl,hB,z0S,by rw[zaT hp];exact r⟩
end
inductive Fl where
 | sh|tn|fr|nw
def Fl.isNw:Fl→Bool
 | .nw=>true
 | _=>false
def Fl.isFr:Fl→Bool
 | .nw=>true
 | .fr=>true
 | _=>false
abbrev Dv:=Fl×Dt
def nrm(f:Fl)(d:Dt):Dv:=(if d.flat then .nw else f,d)
structure Ky where
 K:PySem.W.Frag
 H₀:Hp
abbrev Cx.ky(X:Cx):Ky:=⟨X.K,X.H₀⟩
def RpF(X:Ky)(H:Hp)(f:Fl)(d:Dt)(H':Hp)(v:V):Prop:=match f with
 | .sh=>Rp X.K emp d H' v
 | .tn=>Rp X.K emp d H' v∧(∃ ds,d = .lst ds)∧∀ a,v = .ref a→H a=none
 | .fr=>Rp X.K X.H₀ d H' v
 | .nw=>Rp X.K H d H' v
section
variable {X:Ky}{H H' H1:Hp}{f:Fl}{d:Dt}{v:V}
theorem RpF.sh(h:RpF X H f d H' v):Rp X.K emp d H' v:=by
 cases f with
 | sh=>exact h
 | tn=>exact h.1
 | fr=>exact Rp.anti Same.emp d h
 | nw=>exact Rp.anti Same.emp d h
theorem RpF.fr(h0:Same X.H₀ H)(e:f.isFr=true)(h:RpF X H f d H' v):Rp X.K X.H₀ d H' v:=by
 cases f with
 | sh=>cases e
 | tn=>cases e
 | fr=>exact h
 | nw=>exact Rp.anti h0 d h
theorem RpF.mono(h:RpF X H f d H' v)(s:Same H' H1):RpF X H f d H1 v:=by
 cases f with
 | sh=>exact Rp.mono d s h
 | tn=>exact⟨Rp.mono d s h.1,h.2⟩
 | fr=>exact Rp.mono d s h
 | nw=>exact Rp.mono d s h
theorem RpF.early(s:Same H H1)(h:RpF X H1 f d H' v):RpF X H f d H' v:=by
 cases f with
 | sh=>exact h
 | tn=>exact⟨h.1,h.2.1,fun a e=>s.free (h.2.2 a e)⟩
 | fr=>exact h
 | nw=>exact Rp.anti s d h
theorem RpF.nrm(h:RpF X H f d H' v):RpF X H (nrm f d).1 d H' v:=by
 unfold L2.nrm
 by_cases q:d.flat=true
 · rw[if_pos q];exact Rp.flat d q h.sh
 · rw[if_neg q];exact h
theorem RpF.scal(q:d.flat=true)(h:Rp X.K emp d H' v):RpF X H .nw d H' v:=Rp.flat d q h
end
inductive Cell where
 | no|sh (f:Bool) (d:Dt)|ow (f:Bool) (ds:List Dt)|ex
abbrev Rho:=List Cell
def flOf(f:Bool):Fl:=if f then .fr else .sh
def Cell.val:Cell→Option Dv
 | .no=>none
 | .ex=>none
 | .sh f d=>some (nrm (flOf f) d)
 | .ow f ds=>some (flOf f,.lst ds)
def zaU(ρ:Rho)(i:Nat):Option Dv:=(ρ[i]?).bind Cell.val
def bsOf(X:Ky)(f:Bool):Hp:=if f then X.H₀ else emp
def ExcAt(K:PySem.W.Frag)(a:Addr)(h:Heap):Prop:=∃ oe C,h.get? a=some oe∧oe.cls = .ref C∧PySem.W.kitCls K (.ref C) (.type "ValueError")=some true
def RpC(X:Ky)(H:Hp):Cell→Option V→Prop
 | .no,_=>True
 | .ex,o=>∃ a φ,o=some (.ref a)∧H a=some (.ext φ)∧∀ h,φ h→ExcAt X.K a h
 | .sh f d,o=>∃ v,o=some v∧Rp X.K (bsOf X f) d H v
 | .ow f ds,o=>∃ v,o=some v∧Rp X.K (bsOf X f) (.lst ds) H v
structure RepS(X:Ky)(H:Hp)(ρ:Rho)(σ:St):Prop where
 len:ρ.length=σ.length
 base:Same X.H₀ H
 at_:∀(i:Nat) (c:Cell),ρ[i]?=some c→∃ o,σ[i]?=some o∧RpC X H c o
section
variable {X:Ky}{H H':Hp}{ρ:Rho}{σ:St}
theorem RpC.mono(e:Same H H'){c:Cell}{o:Option V}(h:RpC X H c o):RpC X H' c o:=by
 cases c with
 | no=>trivial
 | ex=>obtain⟨a,φ,q,r,z⟩:=h;exact⟨a,φ,q,e _ _ r,z⟩
 | sh f d=>obtain⟨v,q,r⟩:=h;exact⟨v,q,Rp.mono d e r⟩
 | ow f ds=>obtain⟨v,q,r⟩:=h;exact⟨v,q,Rp.mono _ e r⟩
theorem RepS.mono(h:RepS X H ρ σ)(e:Same H H'):RepS X H' ρ σ:=⟨h.len,h.base.trans e,fun i c q=>by obtain⟨o,q1,q2⟩:=h.at_ i c q;exact⟨o,q1,q2.mono e⟩⟩
theorem zhu{f:Bool}{d:Dt}{v:V}(h:Rp X.K (bsOf X f) d H v):RpF X H (flOf f) d H v:=by
 cases f with
 | false=>exact h
 | true=>exact h
theorem RepS.val(h:RepS X H ρ σ){i:Nat}{f:Fl}{d:Dt}(e:zaU ρ i=some (f,d)):∃ v,σ[i]?=some (some v)∧RpF X H f d H v:=by
 unfold zaU at e
 cases q:ρ[i]? with
 | none=>rw[q]at e;cases e
 | some c =>
  rw[q]at e
  obtain⟨o,q1,q2⟩:=h.at_ i c q
  cases c with
  | no=>cases e
  | ex=>cases e
  | sh f' d' =>
   obtain⟨v,rfl,r⟩:=q2
   have e:nrm (flOf f') d'=(f,d):=Option.some.inj e
   have r':=(zhu r).nrm
   refine⟨v,q1,?_⟩
   have e1:d'=d:=congrArg Prod.snd e
   subst e1
   rw[e]at r'
   exact r'
  | ow f' ds =>
   obtain⟨v,rfl,r⟩:=q2
   cases e
   exact⟨v,q1,zhu r⟩
end
end L2

end
section
set_option Elab.async false
set_option linter.all false
set_option maxRecDepth 100000
namespace L2
open PySem PySem.Spec PyProof.Rows
theorem PE.imp{X:Cx}{e:Expr}{t t':TE}(h:PE X e t)(q:∀ σ H Q,t' σ H Q→t σ H Q):PE X e t':=fun pins s σ H Q I z=>h pins s σ H Q I (q σ H Q z)
theorem PT.imp{X:Cx}{e:Expr}{t t':TT}(h:PT X e t)(q:∀ σ H Q,t' σ H Q→t σ H Q):PT X e t':=fun pins s σ H Q I z=>h pins s σ H Q I (q σ H Q z)
theorem PW.imp{X:Cx}{e:Expr}{t t':TT}(h:PW X e t)(q:∀ σ H Q,t' σ H Q→t σ H Q):PW X e t':=fun whole pins s σ H Q I z=>h whole pins s σ H Q I (q σ H Q z)
theorem PA.imp{X:Cx}{es:List Expr}{t t':TA}(h:PA X es t)(q:∀ σ H Q,t' σ H Q→t σ H Q):PA X es t':=fun pos pins s σ H Q I z=>h pos pins s σ H Q I (q σ H Q z)
theorem z04{α β:Type}{o:Option α}{f:α→Option β}{b:β}(h:o.bind f=some b):∃ a,o=some a∧f a=some b:=by
 cases o with
 | none=>cases h
 | some a=>exact⟨a,rfl,h⟩
section
variable {X:Ky}{H H':Hp}
theorem RpF.i_{i:Int}:RpF X H .nw (.int i) H' (.int i):=(Rp.int_ (K:=X.K) (B:=H) (H:=H')).mpr rfl
theorem RpF.b_{i:Bool}:RpF X H .nw (.bl i) H' (.bl i):=(Rp.bl_ (K:=X.K) (B:=H) (H:=H')).mpr rfl
theorem RpF.n_:RpF X H .nw .non H' .non:=(Rp.non_ (K:=X.K) (B:=H) (H:=H')).mpr rfl
end
abbrev FE:=Rho→Option Dv
abbrev FT:=Rho→Option Bool
abbrev FA:=Rho→Option (List Dv)
def upK(Y:Ky)(F:FE):TE:=fun σ H Q=>∃ ρ f d,RepS Y H ρ σ∧F ρ=some (f,d)∧∀ v H',Same H H'→RpF Y H f d H' v→Q v H'
abbrev upF(X:Cx)(F:FE):TE:=upK X.ky F
def PF(X:Cx)(e:Expr)(F:FE):Prop:=PE X e (upF X F)
def upBK(Y:Ky)(F:FT):TT:=fun σ H Q=>∃ ρ b,RepS Y H ρ σ∧F ρ=some b∧∀ H',Same H H'→Q b H'
abbrev upB(X:Cx)(F:FT):TT:=upBK X.ky F
def PFT(X:Cx)(e:Expr)(F:FT):Prop:=PT X e (upB X F)
def PFW(X:Cx)(e:Expr)(F:FT):Prop:=PW X e (upB X F)
theorem PFW.pt{X:Cx}{e:Expr}{F:FT}(h:PFW X e F):PFT X e F:=PW.pt h
section
variable {X:Cx}{a b c e:Expr}{Fa Fb Fc:FE}{pos:Pos}
def fN(i:Nat):FE:=fun ρ=>zaU ρ i
theorem z01(i:Nat){x:Str}{pos:Pos}(hN:X.N[i]?=some x:=by rfl)(hv:Vis X.env.scope x:=by first|exact Or.inl rfl|exact Or.inr (Or.inl rfl)|exact Or.inr (Or.inr rfl))(hd:(x==("__debug__" : Str))=false:=by decide)
  (hcd:(x==("__classdict__" : Str))=false:=by decide):PF X (.Name x pos) (fN i) :=
 (za2 hN hv hd hcd).imp fun σ H Q ⟨ρ,f,d,rs,e,k⟩=>by
  obtain⟨v,e1,e2⟩:=rs.val e
  exact⟨v,e1,k v H (Same.refl H) e2⟩
def fC(d:Dt):FE:=fun _=>some (.nw,d)
theorem z09{i:Int}{j:Nat}:PF X (.Constant (.int i) j pos) (fC (.int i)):=pe_int.imp (by rintro σ H Q ⟨ρ,f,d,rs,e,k⟩;cases e;exact k _ H (Same.refl H) RpF.i_)
theorem p_bl{v:Bool}{j:Nat}:PF X (.Constant (.bool v) j pos) (fC (.bl v)):=pe_bl.imp (by rintro σ H Q ⟨ρ,f,d,rs,e,k⟩;cases e;exact k _ H (Same.refl H) RpF.b_)
theorem p_non{j:Nat}:PF X (.Constant .none j pos) (fC .non):=pe_non.imp (by rintro σ H Q ⟨ρ,f,d,rs,e,k⟩;cases e;exact k _ H (Same.refl H) RpF.n_)
theorem zcn{x:Str}{i:Int}{t:Tok}(hg:Gl X x)(hm:X.mg x=some (.int i t))(hd:(x==("__debug__" : Str))=false:=by decide):PF X (.Name x pos) (fC (.int i)) :=
 (zfu (v:=V.int i) hg hm ⟨t,rfl⟩ hd).imp (by rintro σ H Q ⟨ρ,f,d,rs,e,k⟩;cases e;exact k _ H (Same.refl H) RpF.i_)
abbrev FO:=Dt→Dt→Option Dv
def OpF(X:Cx)(f:Value→Value→Sem Value)(r:FO):Prop :=
 OpR X f (fun x y H Q=>∃ dx dy f d,Rp X.K emp dx H x∧Rp X.K emp dy H y∧r dx dy=some (f,d)∧∀ v H',Same H H'→RpF X.ky H f d H' v→Q v H')
def fOp(r:FO)(Fa Fb:FE):FE:=fun ρ=>(Fa ρ).bind fun x=>(Fb ρ).bind fun y=>r x.2 y.2
theorem zco{r:FO}{σ:St}{H:Hp}{Q:VK}(h:upF X (fOp r Fa Fb) σ H Q):
  upF X Fa σ H fun x H1=>upF X Fb σ H1 fun y H2=>∃ dx dy f d,Rp X.K emp dx H2 x∧Rp X.K emp dy H2 y∧r dx dy=some (f,d)∧∀ v H',Same H2 H'→RpF X.ky H2 f d H' v→Q v H':=by
 obtain⟨ρ,f,d,rs,e,k⟩:=h
 obtain⟨⟨fa,da⟩,ea,e⟩:=z04 e
 obtain⟨⟨fb,db⟩,eb,e⟩:=z04 e
 exact⟨ρ,fa,da,rs,ea,fun v H1 s1 r1=>⟨ρ,fb,db,rs.mono s1,eb,fun u H2 s2 r2=>⟨da,db,f,d,Rp.mono _ s2 r1.sh,r2.sh,e,fun w H' s' r'=>k w H' (s1.trans (s2.trans s')) (r'.early (s1.trans s2))⟩⟩⟩
theorem p_op{op:Operator}{r:FO}(ho:OpF X (binaryOp op) r)(ha:PF X a Fa)(hb:PF X b Fb):PF X (.BinOp a op b pos) (fOp r Fa Fb):=(pe_op ho ha hb).imp fun σ H Q h=>zco h
theorem zaV{op:CmpOp}{r:FO}(ho:OpF X (compareOp op) r)(ha:PF X a Fa)(hb:PF X b Fb)(hm:behindInMarks op b=false):PF X (.Compare a [op] [b] pos) (fOp r Fa Fb):=(zkK ho ha hb hm).imp fun σ H Q h=>zco h
def rII(C:Int→Int→Bool)(g:Int→Int→Dt):FO
 | .int i,.int j=>if C i j then some (.nw,g i j) else none
 | _,_=>none
theorem za8{f:Value→Value→Sem Value}{P:Int→Int→Prop}{C:Int→Int→Bool}{g:Int→Int→V}{g':Int→Int→Dt}(ho:OpR X f (rI P g))(hP:∀ i j,C i j=true→P i j)(hf:∀ i j,(g' i j).flat=true)(hg:∀ i j H,Rp X.K emp (g' i j) H (g i j)):OpF X f (rII C g') :=
 fun pins s σ H x y v u Q I r1 r2 ⟨d1,d2,f,d,q1,q2,e,k⟩=>by
  unfold rII at e
  split at e
  · rename_i i j
    split at e
    · rename_i hc
      cases e
      rw[Rp.int_]at q1 q2
      exact ho pins s σ H x y v u Q I r1 r2 ⟨i,j,q1,q2,hP i j hc,k _ H (Same.refl H) (RpF.scal (hf i j) (hg i j H))⟩
    · cases e
  · cases e
theorem z4y{f:Value→Value→Sem Value}{g:Int→Int→V}{g':Int→Int→Dt}(ho:OpR X f (rI0 g))(hf:∀ i j,(g' i j).flat=true)(hg:∀ i j H,Rp X.K emp (g' i j) H (g i j)):OpF X f (rII (fun _ _=>true) g') :=
 fun pins s σ H x y v u Q I r1 r2 ⟨d1,d2,f,d,q1,q2,e,k⟩=>by
  unfold rII at e
  split at e
  · rename_i i j
    rw[if_pos rfl]at e
    cases e
    rw[Rp.int_]at q1 q2
    exact ho pins s σ H x y v u Q I r1 r2 ⟨i,j,q1,q2,k _ H (Same.refl H) (RpF.scal (hf i j) (hg i j H))⟩
  · cases e
def OpF.or{f:Value→Value→Sem Value}{r r':FO}(h:OpF X f r)(h':OpF X f r'):OpF X f (fun x y=>(r x y).orElse fun _=>r' x y) :=
 fun pins s σ H x y v u Q I r1 r2 hZ=>hZ.elim fun d1 hZ=>hZ.elim fun d2 hZ=>hZ.elim fun f hZ=>hZ.elim fun d hZ=>hZ.elim fun q1 hZ=>hZ.elim fun q2 hZ=>hZ.elim fun e k=>by
  replace e:((r d1 d2).orElse fun _=>r' d1 d2)=some (f,d):=e
  cases q:r d1 d2 with
  | some z =>
   rw[q]at e
   cases e
   exact h pins s σ H x y v u Q I r1 r2 ⟨d1,d2,_,_,q1,q2,q,k⟩
  | none =>
   rw[q]at e
   exact h' pins s σ H x y v u Q I r1 r2 ⟨d1,d2,_,_,q1,q2,e,k⟩
def z15(i j:Int):Bool:=decide (Builtin.Int.intBits i+Builtin.Int.intBits j≤134217728)||(decide (i.natAbs<2 ^ 64)||decide (j.natAbs<2 ^ 64))
def z1F(_ j:Int):Bool:=decide (j≠0)&&decide (j.natAbs.log2<9000)
def z1d(_ j:Int):Bool:=decide (j≠0)
def z7A(i j:Int):Bool:=decide (0≤j)&&decide (j≤1000000)&&decide (i.natAbs<2 ^ 64)
theorem zl0:OpR X (binaryOp .Mult) (rI (fun i j=>z15 i j=true) fun i j => .int (i*j)):=opI fun i j _ _ _ _ _ hc q=>by
 refine mul_int q ?_
 unfold z15 at hc
 rw[Bool.or_eq_true,Bool.or_eq_true]at hc
 rcases hc with hc|hc|hc
 · exact IntMulOk.of_le (Nat.le_refl _) (Nat.le_refl _) (of_decide_eq_true hc)
 · have:=of_decide_eq_true hc
   exact CMul.ok (.inl ⟨by omega,by omega⟩)
 · have:=of_decide_eq_true hc
   exact CMul.ok (.inr ⟨by omega,by omega⟩)
def zhv:FO:=rII (fun _ _=>true) fun i j => .int (i+j)
def z1h:FO:=rII (fun _ _=>true) fun i j => .int (i-j)
def z0W:FO:=rII z15 fun i j => .int (i*j)
def z22:FO:=rII z1F fun i j => .int (i.fdiv j)
def z0Q:FO:=rII z1d fun i j => .int (i.fmod j)
def z92:FO:=rII z7A fun i j => .int (i ^ j.toNat)
def opLt:FO:=rII (fun _ _=>true) fun i j => .bl (decide (i<j))
def opLe:FO:=rII (fun _ _=>true) fun i j => .bl (decide (i≤j))
def opGt:FO:=rII (fun _ _=>true) fun i j => .bl (decide (j<i))
def opGe:FO:=rII (fun _ _=>true) fun i j => .bl (decide (j≤i))
theorem o_addI:OpF X (binaryOp .Add) zhv:=z4y op_add (fun _ _=>rfl) fun _ _ _=>Rp.int_.mpr rfl
theorem z6I:OpF X (binaryOp .Sub) z1h:=z4y op_sub (fun _ _=>rfl) fun _ _ _=>Rp.int_.mpr rfl
theorem z3c:OpF X (binaryOp .Mult) z0W:=za8 zl0 (fun _ _ h=>h) (fun _ _=>rfl) fun _ _ _=>Rp.int_.mpr rfl
theorem z34:OpF X (binaryOp .FloorDiv) z22:=za8 zhs (fun i j h=>by unfold z1F at h;rw[Bool.and_eq_true]at h;exact⟨of_decide_eq_true h.1,of_decide_eq_true h.2⟩) (fun _ _=>rfl) fun _ _ _=>Rp.int_.mpr rfl
theorem z1G:OpF X (binaryOp .Mod) z0Q:=za8 zkJ (fun i j h=>of_decide_eq_true h) (fun _ _=>rfl) fun _ _ _=>Rp.int_.mpr rfl
theorem zhw:OpF X (binaryOp .Pow) z92:=za8 op_pow (fun i j h=>by unfold z7A at h;rw[Bool.and_eq_true,Bool.and_eq_true]at h;exact⟨of_decide_eq_true h.1.1,of_decide_eq_true h.1.2,of_decide_eq_true h.2⟩) (fun _ _=>rfl) fun _ _ _=>Rp.int_.mpr rfl
theorem o_lt:OpF X (compareOp .Lt) opLt:=z4y op_lt (fun _ _=>rfl) fun _ _ _=>Rp.bl_.mpr rfl
theorem o_le:OpF X (compareOp .LtE) opLe:=z4y op_le (fun _ _=>rfl) fun _ _ _=>Rp.bl_.mpr rfl
theorem o_gt:OpF X (compareOp .Gt) opGt:=z4y op_gt (fun _ _=>rfl) fun _ _ _=>Rp.bl_.mpr rfl
theorem o_ge:OpF X (compareOp .GtE) opGe:=z4y op_ge (fun _ _=>rfl) fun _ _ _=>Rp.bl_.mpr rfl
def lfl(ds:List Dt):Fl:=if z1g ds then .nw else .tn
def newL(ds:List Dt):Dv:=(lfl ds,.lst ds)
theorem z5l{X:Ky}{H:Hp}{ds:List Dt}{vs:List V}{p:Addr}(hp:H p=none)(r:Rps X.K emp ds H vs):RpF X H (lfl ds) (.lst ds) (upd H p (.lst vs)) (.ref p):=by
 unfold lfl
 by_cases q:z1g ds=true
 · rw[if_pos q];exact Rp.new hp hp (Rps.flat ds q r)
 · rw[if_neg q];exact⟨Rp.new hp rfl r,⟨ds,rfl⟩,fun a e=>by cases e;exact hp⟩
def z7B:FO
 | .lst xs,.lst ys=>if xs.length+ys.length≤1000000 then some (newL (xs++ys)) else none
 | _,_=>none
theorem Rp.items{K:PySem.W.Frag}{B H:Hp}{ds:List Dt}{v:V}(h:Rp K B (.lst ds) H v):∃ a vs,v = .ref a∧B a=none∧H a=some (.lst vs)∧Rps K B ds H vs:=by
 obtain⟨a,vs,e,h0,h1,h2⟩:=Rp.lst_.mp h
 exact⟨a,vs,e,h0,h1,Rps.mono _ z0G h2⟩
theorem o_cat:OpF X (binaryOp .Add) z7B:=by
 rintro pins s σ H x y v u Q I r1 r2 ⟨d1,d2,f,d,q1,q2,e,k⟩
 unfold z7B at e
 split at e
 · rename_i xs ys
   split at e
   · rename_i hc
     cases e
     obtain⟨a,vs,rfl,_,ha,ra⟩:=q1.items
     obtain⟨b,ws,rfl,_,hb,rb⟩:=q2.items
     exact op_cat pins s σ H _ _ v u Q I r1 r2 ⟨a,b,vs,ws,rfl,rfl,ha,hb,Nat.le_trans (by rw[ra.length,rb.length];exact hc) (by decide),fun p hp=>k _ _ (z17 hp) (z5l hp (ra.append rb))⟩
   · cases e
 · cases e
def z0n:FO:=fun x y=>(zhv x y).orElse fun _=>z7B x y
theorem z1k:OpF X (binaryOp .Add) z0n:=o_addI.or o_cat
def truD:Dt→Option Bool
 | .non=>some false
 | .bl b=>some b
 | .int i=>some (i != 0)
 | .lst ds=>some (!ds.isEmpty)
 | .tup ds=>some (!ds.isEmpty)
 | _=>none
theorem Rps.isEmpty{K:PySem.W.Frag}{B H:Hp}{ds:List Dt}{vs:List V}(h:Rps K B ds H vs):(!vs.isEmpty)=!ds.isEmpty:=by
 have:=h.length
 cases ds<;>cases vs<;>first|rfl|(simp at this)
theorem zl1{H:Hp}{d:Dt}{v:V}{k:Bool}(r:Rp X.K emp d H v)(e:truD d=some k):TruV X.K v H k:=by
 cases d with
 | non=>rw[Rp.non_.mp r];cases e;rfl
 | bl b=>rw[Rp.bl_.mp r];cases e;rfl
 | int i=>rw[Rp.int_.mp r];cases e;rfl
 | str x=>cases e
 | dic=>cases e
 | scr x=>cases e
 | lst ds =>
  obtain⟨p,vs,rfl,_,h1,h2⟩:=r.items
  cases e
  exact .inl ⟨vs,SqL.of h1,h2.isEmpty.symm⟩
 | tup ds =>
  obtain⟨p,vs,rfl,h1,h2⟩:=Rp.tup_.mp r
  cases e
  exact .inr (.inl ⟨vs,h1,h2.isEmpty.symm⟩)
def blD:Dt→Option Bool
 | .bl b=>some b
 | _=>none
def z0e(F:FE):FT:=fun ρ=>(F ρ).bind fun x=>blD x.2
def fTru(F:FE):FT:=fun ρ=>(F ρ).bind fun x=>truD x.2
theorem z0L{op:CmpOp}{r:FO}(ho:OpF X (compareOp op) r)(ha:PF X a Fa)(hb:PF X b Fb)(hm:behindInMarks op b=false):PFT X (.Compare a [op] [b] pos) (z0e (fOp r Fa Fb)) :=
 (zkL ho ha hb hm).imp fun σ H Q hZ=>hZ.elim fun ρ hZ=>hZ.elim fun k hZ=>hZ.elim fun rs hZ=>hZ.elim fun e q=>by
  obtain⟨⟨f,d⟩,e1,e2⟩:=z04 e
  refine zco ⟨ρ,f,d,rs,e1,fun v H' s r=>?_⟩
  cases d<;>first|cases e2|skip
  exact⟨k,Rp.bl_.mp r.sh,q H' s⟩
theorem z3d(ha:PF X a Fa)(he:∀ whole,isTrue a X.env whole=(do let v ←whole;standAt a.pos;holding [v] (truthy v))):PFT X a (fTru Fa) :=
 (zhh ha he).imp fun σ H Q hZ=>hZ.elim fun ρ hZ=>hZ.elim fun k hZ=>hZ.elim fun rs hZ=>hZ.elim fun e q=>by
  obtain⟨⟨f,d⟩,e1,e2⟩:=z04 e
  exact⟨ρ,f,d,rs,e1,fun v H' s r=>⟨k,zl1 r.sh e2,q H' s⟩⟩
def fNot(F:FT):FT:=fun ρ=>(F ρ).map not
theorem z3e{F:FT}(ha:PFT X a F):PFT X (.UnaryOp .Not a pos) (fNot F):=(pt_not ha).imp fun σ H Q hZ=>hZ.elim fun ρ hZ=>hZ.elim fun k hZ=>hZ.elim fun rs hZ=>hZ.elim fun e q=>by
 unfold fNot at e
 cases h:F ρ with
 | none=>rw[h]at e;cases e
 | some b=>rw[h]at e;cases e;exact⟨ρ,b,rs,h,q⟩
def fAnd(F G:FT):FT:=fun ρ=>(F ρ).bind fun b=>if b then G ρ else some false
def fOr(F G:FT):FT:=fun ρ=>(F ρ).bind fun b=>if b then some true else G ρ
theorem zhx{F:FT}(ha:PFT X a F):PFW X (.BoolOp .And [a] pos) F:=zkF ha
theorem z7C{F:FT}(ha:PFT X a F):PFW X (.BoolOp .Or [a] pos) F:=pw_or1 ha
theorem w_and{rest:List Expr}{F G:FT}(ha:PFT X a F)(hb:PFW X (.BoolOp .And (b::rest) pos) G):PFW X (.BoolOp .And (a::b::rest) pos) (fAnd F G) :=
 (pw_and ha hb).imp fun σ H Q hZ=>hZ.elim fun ρ hZ=>hZ.elim fun k hZ=>hZ.elim fun rs hZ=>hZ.elim fun e q=>by
  obtain⟨z,e1,e2⟩:=z04 e
  refine⟨ρ,z,rs,e1,fun H' s=>?_⟩
  dsimp only
  cases z with
  | true=>rw[if_pos rfl]at e2 ⊢;exact⟨ρ,k,rs.mono s,e2,fun H'' s'=>q H'' (s.trans s')⟩
  | false=>rw[if_neg Bool.false_ne_true]at e2 ⊢;cases e2;exact q H' s
theorem w_or{rest:List Expr}{F G:FT}(ha:PFT X a F)(hb:PFW X (.BoolOp .Or (b::rest) pos) G):PFW X (.BoolOp .Or (a::b::rest) pos) (fOr F G) :=
 (pw_or ha hb).imp fun σ H Q hZ=>hZ.elim fun ρ hZ=>hZ.elim fun k hZ=>hZ.elim fun rs hZ=>hZ.elim fun e q=>by
  obtain⟨z,e1,e2⟩:=z04 e
  refine⟨ρ,z,rs,e1,fun H' s=>?_⟩
  dsimp only
  cases z with
  | true=>rw[if_pos rfl]at e2 ⊢;cases e2;exact q H' s
  | false=>rw[if_neg Bool.false_ne_true]at e2 ⊢;exact⟨ρ,k,rs.mono s,e2,fun H'' s'=>q H'' (s.trans s')⟩
def vAnd(F G:FE):FE:=fun ρ=>(z0e F ρ).bind fun b=>if b then G ρ else some (.nw,.bl false)
def vOr(F G:FE):FE:=fun ρ=>(z0e F ρ).bind fun b=>if b then some (.nw,.bl true) else G ρ
def vNot(F:FE):FE:=fun ρ=>(z0e F ρ).map fun b=>(.nw,.bl (!b))
theorem z93{op}(h:PF X a Fa):PF X (.BoolOp op [a] pos) Fa:=pe_one h
theorem z7D{rest:List Expr}(ha:PF X a Fa)(hb:PF X (.BoolOp .And (b::rest) pos) Fb):PF X (.BoolOp .And (a::b::rest) pos) (vAnd Fa Fb) :=
 (pe_and ha hb).imp fun σ H Q hZ=>hZ.elim fun ρ hZ=>hZ.elim fun f hZ=>hZ.elim fun d hZ=>hZ.elim fun rs hZ=>hZ.elim fun e k=>by
  obtain⟨z,e1,e2⟩:=z04 e
  obtain⟨⟨f1,d1⟩,e3,e4⟩:=z04 e1
  refine⟨ρ,f1,d1,rs,e3,fun v H' s r=>?_⟩
  cases d1<;>first|cases e4|skip
  refine⟨z,Rp.bl_.mp r.sh,?_⟩
  cases z with
  | true=>rw[if_pos rfl]at e2 ⊢;exact⟨ρ,f,d,rs.mono s,e2,fun v H'' s' r=>k v H'' (s.trans s') (r.early s)⟩
  | false=>rw[if_neg Bool.false_ne_true]at e2 ⊢;cases e2;exact k _ H' s RpF.b_
theorem p_not(ha:PF X a Fa):PF X (.UnaryOp .Not a pos) (vNot Fa):=(pe_not ha).imp fun σ H Q hZ=>hZ.elim fun ρ hZ=>hZ.elim fun f hZ=>hZ.elim fun d hZ=>hZ.elim fun rs hZ=>hZ.elim fun e k=>by
 unfold vNot at e
 cases h:z0e Fa ρ with
 | none=>rw[h]at e;cases e
 | some z =>
  rw[h]at e
  cases e
  obtain⟨⟨f1,d1⟩,e3,e4⟩:=z04 h
  refine⟨ρ,f1,d1,rs,e3,fun v H' s r=>?_⟩
  cases d1<;>first|cases e4|skip
  exact⟨z,Rp.bl_.mp r.sh,k _ H' s RpF.b_⟩
def fIf(F:FT)(Fa Fb:FE):FE:=fun ρ=>(F ρ).bind fun b=>if b then Fa ρ else Fb ρ
theorem p_if{F:FT}(hc:PFT X c F)(ha:PF X a Fa)(hb:PF X b Fb):PF X (.IfExp c a b pos) (fIf F Fa Fb) :=
 (zha hc ha hb).imp fun σ H Q hZ=>hZ.elim fun ρ hZ=>hZ.elim fun f hZ=>hZ.elim fun d hZ=>hZ.elim fun rs hZ=>hZ.elim fun e k=>by
  obtain⟨z,e1,e2⟩:=z04 e
  refine⟨ρ,z,rs,e1,fun H' s=>?_⟩
  dsimp only
  cases z with
  | true=>rw[if_pos rfl]at e2 ⊢;exact⟨ρ,f,d,rs.mono s,e2,fun v H'' s' r=>k v H'' (s.trans s') (r.early s)⟩
  | false=>rw[if_neg Bool.false_ne_true]at e2 ⊢;exact⟨ρ,f,d,rs.mono s,e2,fun v H'' s' r=>k v H'' (s.trans s') (r.early s)⟩
def fNeg(F:FE):FE:=fun ρ=>(F ρ).bind fun x=>match x.2 with|.int i=>some (.nw,.int (-i))|_=>none
theorem zfB(ha:PF X a Fa):PF X (.UnaryOp .USub a pos) (fNeg Fa):=(pe_un un_neg ha).imp fun σ H Q ⟨ρ,f,d,rs,e,k⟩=>by
 obtain⟨⟨f1,d1⟩,e1,e2⟩:=z04 e
 refine⟨ρ,f1,d1,rs,e1,fun v H' s r=>?_⟩
 cases d1<;>first|cases e2|skip
 rename_i i
 exact⟨i,Rp.int_.mp r.sh,k _ H' s RpF.i_⟩
def z7E(r r':FO)(Fa Fb Fc:FE):FE:=fun ρ=>(Fa ρ).bind fun x=>(Fb ρ).bind fun y=>(r x.2 y.2).bind fun z=>(blD z.2).bind fun k=>if k then(Fc ρ).bind fun w=>r' y.2 w.2 else some (.nw,.bl false)
theorem zgw{r r':FO}{σ:St}{H:Hp}{Q:VK}(h:upF X (z7E r r' Fa Fb Fc) σ H Q):
  zhf (fun x y H Q=>∃ dx dy f d,Rp X.K emp dx H x∧Rp X.K emp dy H y∧r dx dy=some (f,d)∧∀ v H',Same H H'→RpF X.ky H f d H' v→Q v H') (fun x y H Q=>∃ dx dy f d,Rp X.K emp dx H x∧Rp X.K emp dy H y∧r' dx dy=some (f,d)∧∀ v H',Same H H'→RpF X.ky H f d H' v→Q v H')
   (upF X Fa) (upF X Fb) (upF X Fc) σ H Q:=by
 obtain⟨ρ,f,d,rs,e0,k⟩:=h
 obtain⟨⟨fa,da⟩,ea,e1⟩:=z04 e0
 obtain⟨⟨fb,db⟩,eb,e2⟩:=z04 e1
 obtain⟨⟨fz,dz⟩,ez,e3⟩:=z04 e2
 obtain⟨z,ek,e⟩:=z04 e3
 clear e3 e2 e1 e0
 refine⟨ρ,fa,da,rs,ea,fun v H1 s1 r1=>⟨ρ,fb,db,rs.mono s1,eb,fun u H2 s2 r2=>⟨da,db,fz,dz,Rp.mono _ s2 r1.sh,r2.sh,ez,fun w H3 s3 r3=>?_⟩⟩⟩
 cases dz<;>first|cases ek|skip
 refine⟨z,Rp.bl_.mp r3.sh,?_⟩
 cases z with
 | true =>
  rw[if_pos rfl]at e ⊢
  obtain⟨⟨fc,dc⟩,ec,e⟩:=z04 e
  exact⟨ρ,fc,dc,rs.mono (s1.trans (s2.trans s3)),ec,fun w' H4 s4 r4=>⟨db,dc,f,d,Rp.mono _ (s3.trans s4) r2.sh,r4.sh,e,fun y H' s' r'=>k y H' (s1.trans (s2.trans (s3.trans (s4.trans s')))) (r'.early (s1.trans (s2.trans (s3.trans s4))))⟩⟩
 | false =>
  rw[if_neg Bool.false_ne_true]at e ⊢
  cases e
  exact k _ _ (s1.trans (s2.trans s3)) RpF.b_
theorem zl2{op op':CmpOp}{r r':FO}(ho:OpF X (compareOp op) r)(ho':OpF X (compareOp op') r')(ha:PF X a Fa)(hb:PF X b Fb)(hc:PF X c Fc)
 (hm:lastMarks [op,op'] [b,c]=false:=by with_unfolding_all rfl):PF X (.Compare a [op,op'] [b,c] pos) (z7E r r' Fa Fb Fc):=(zhg ho ho' ha hb hc hm).imp fun σ H Q h=>zgw h
def isN:Dt→Bool
 | .non=>true
 | _=>false
def zfC:FO:=fun x y=>match y with|.non=>some (.nw,.bl (isN x))|_=>none
theorem isNon{H:Hp}{d:Dt}{v:V}(r:Rp X.K emp d H v):decide (v=V.non)=isN d:=by
 cases d with
 | non=>rw[Rp.non_.mp r];rfl
 | bl b=>rw[Rp.bl_.mp r];rfl
 | int i=>rw[Rp.int_.mp r];rfl
 | str x=>rw[Rp.str_.mp r];rfl
 | lst ds=>obtain⟨a,_,rfl,_⟩:=Rp.lst_.mp r;rfl
 | tup ds=>obtain⟨a,_,rfl,_⟩:=Rp.tup_.mp r;rfl
 | scr ds=>obtain⟨a,rfl,_⟩:=Rp.scr_.mp r;rfl
 | dic=>obtain⟨a,rfl,_⟩:=Rp.dic_.mp r;rfl
theorem o_isN:OpF X (compareOp .Is) zfC:=by
 rintro pins s σ H x y v u Q I r1 r2 ⟨d1,d2,f,d,q1,q2,e,k⟩
 unfold zfC at e
 split at e
 · cases e
   refine op_isN pins s σ H x y v u Q I r1 r2 ⟨Rp.non_.mp q2,?_⟩
   rw[isNon q1]
   exact k _ H (Same.refl H) RpF.b_
 · cases e
theorem z3u{K:PySem.W.Frag}{B H:Hp}{ds:List Dt}{vs:List V}{i:Int}{d:Dt}(h:Rps K B ds H vs)(e:atI ds i=some d):∃ v,atI vs i=some v∧Rp K B d H v:=by
 unfold atI at e ⊢
 rw[h.length]
 cases q:ixN ds.length i with
 | none=>rw[q]at e;cases e
 | some j =>
  rw[q]at e
  exact h.get e
def Fl.item:Fl→Fl
 | .tn => .sh
 | f=>f
def opAt(x:Dv)(y:Dv):Option Dv:=match x.2,y.2 with
 | .lst ds,.int i=>(atI ds i).map (nrm x.1.item)
 | .tup ds,.int i=>(atI ds i).map (nrm x.1.item)
 | .scr ns,.int i=>(atI ns i).map fun n=>(.nw,.int n)
 | _,_=>none
def fAt(Fa Fb:FE):FE:=fun ρ=>(Fa ρ).bind fun x=>(Fb ρ).bind fun y=>opAt x y
theorem RpF.item{X:Ky}{H H':Hp}{f:Fl}{ds:List Dt}{v:V}{i:Int}{d:Dt}(h:RpF X H f (.lst ds) H' v)(e:atI ds i=some d):∃ a vs w,v = .ref a∧SqL X.K H' a vs∧atI vs i=some w∧RpF X H f.item d H' w:=by
 cases f with
 | sh=>obtain⟨a,vs,rfl,_,h1,h2⟩:=Rp.items h;obtain⟨w,e1,e2⟩:=z3u h2 e;exact⟨a,vs,w,rfl,SqL.of h1,e1,e2⟩
 | tn=>obtain⟨a,vs,rfl,_,h1,h2⟩:=Rp.items h.1;obtain⟨w,e1,e2⟩:=z3u h2 e;exact⟨a,vs,w,rfl,SqL.of h1,e1,e2⟩
 | fr=>obtain⟨a,vs,rfl,_,h1,h2⟩:=Rp.items h;obtain⟨w,e1,e2⟩:=z3u h2 e;exact⟨a,vs,w,rfl,SqL.of h1,e1,e2⟩
 | nw=>obtain⟨a,vs,rfl,_,h1,h2⟩:=Rp.items h;obtain⟨w,e1,e2⟩:=z3u h2 e;exact⟨a,vs,w,rfl,SqL.of h1,e1,e2⟩
theorem RpF.itemT{X:Ky}{H H':Hp}{f:Fl}{ds:List Dt}{v:V}{i:Int}{d:Dt}(h:RpF X H f (.tup ds) H' v)(e:atI ds i=some d):∃ a vs w,v = .ref a∧SqT X.K H' a vs∧atI vs i=some w∧RpF X H f.item d H' w:=by
 cases f with
 | sh=>obtain⟨a,vs,rfl,h1,h2⟩:=Rp.tup_.mp h;obtain⟨w,e1,e2⟩:=z3u h2 e;exact⟨a,vs,w,rfl,h1,e1,e2⟩
 | tn=>obtain⟨⟨_,h2⟩,_⟩:=h.2;cases h2
 | fr=>obtain⟨a,vs,rfl,h1,h2⟩:=Rp.tup_.mp h;obtain⟨w,e1,e2⟩:=z3u h2 e;exact⟨a,vs,w,rfl,h1,e1,e2⟩
 | nw=>obtain⟨a,vs,rfl,h1,h2⟩:=Rp.tup_.mp h;obtain⟨w,e1,e2⟩:=z3u h2 e;exact⟨a,vs,w,rfl,h1,e1,e2⟩
theorem zl3{α β:Type}{g:α→β}{xs:List α}{i:Int}{x:α}(h:atI xs i=some x):atI (xs.map g) i=some (g x):=by
 unfold atI at h ⊢
 rw[List.length_map]
 cases q:ixN xs.length i with
 | none=>rw[q]at h;cases h
 | some j=>rw[q]at h;have h:xs[j]?=some x:=h;show(xs.map g)[j]?=_;rw[List.getElem?_map,h];rfl
theorem p_ix(ha:PF X a Fa)(hb:PF X b Fb)(hs:zfz b):PF X (.Subscript a b pos) (fAt Fa Fb) :=
 (pe_ix ix_seq ha hb hs).imp fun σ H Q hZ=>hZ.elim fun ρ hZ=>hZ.elim fun f hZ=>hZ.elim fun d hZ=>hZ.elim fun rs hZ=>hZ.elim fun e0 k=>by
  obtain⟨⟨fa,da⟩,ea,e1⟩:=z04 e0
  obtain⟨⟨fb,db⟩,eb,e⟩:=z04 e1
  clear e1 e0
  refine⟨ρ,fa,da,rs,ea,fun v H1 s1 r1=>⟨ρ,fb,db,rs.mono s1,eb,fun u H2 s2 r2=>?_⟩⟩
  have r1:=r1.mono s2
  unfold opAt at e
  split at e
  · rename_i ds i ed ei
    cases ed;cases ei
    cases q:atI ds i with
    | none=>rw[q]at e;cases e
    | some d0 =>
     rw[q]at e
     obtain⟨p,vs,w,rfl,h1,h2,h3⟩:=r1.item q
     have e:nrm fa.item d0=(f,d):=Option.some.inj e
     have h4:=h3.nrm
     have e1:d0=d:=congrArg Prod.snd e
     subst e1
     rw[e]at h4
     exact .inl ⟨p,vs,i,w,rfl,Rp.int_.mp r2.sh,h1,h2,k _ _ (s1.trans s2) h4⟩
  · rename_i ds i ed ei
    cases ed;cases ei
    cases q:atI ds i with
    | none=>rw[q]at e;cases e
    | some d0 =>
     rw[q]at e
     obtain⟨p,vs,w,rfl,h1,h2,h3⟩:=r1.itemT q
     have e:nrm fa.item d0=(f,d):=Option.some.inj e
     have h4:=h3.nrm
     have e1:d0=d:=congrArg Prod.snd e
     subst e1
     rw[e]at h4
     exact .inr (.inl ⟨p,vs,i,w,rfl,Rp.int_.mp r2.sh,h1,h2,k _ _ (s1.trans s2) h4⟩)
  · rename_i ns i ed ei
    cases ed;cases ei
    cases q:atI ns i with
    | none=>rw[q]at e;cases e
    | some n =>
     rw[q]at e
     cases e
     obtain⟨p,rfl,_,h1⟩:=Rp.scr_.mp r1.sh
     exact .inl ⟨p,_,i,_,rfl,Rp.int_.mp r2.sh,h1,zl3 q,k _ _ (s1.trans s2) RpF.i_⟩
  · cases e
end
end L2

end
section
local macro_rules|`(tactic| omega)=>`(tactic| first|lia|omega +splitDisjunctions)
set_option Elab.async false
set_option linter.all false
set_option maxRecDepth 100000
namespace L2
open PySem PySem.Spec PyProof.Rows
mutual
def Dt.py:Dt→PyData
 | .non => .none
 | .bl b => .bool b
 | .int i => .int i
 | .str x => .str x
 | .lst ds => .list (pys ds)
 | .tup ds => .tuple (pys ds)
 | .scr ns => .list (ns.map .int)
 | .dic => .dict []
def pys:List Dt→List PyData
 | []=>[]
 | d::ds=>d.py::pys ds
end
mutual
def Dt.okN:Nat→Dt→Bool
 | _,.str x=>PyData.strOk x
 | 0,.lst _=>false
 | 0,.tup _=>false
 | n+1,.lst ds=>oksN n ds
 | n+1,.tup ds=>oksN n ds
 | 0,.scr _=>false
 | _,.dic=>false
 | _,_=>true
def oksN:Nat→List Dt→Bool
 | _,[]=>true
 | n,d::ds=>d.okN n&&oksN n ds
end
theorem za9:∀ ns:List Int,PyData.canLayAll0 (ns.map PyData.int)=true∧PyData.depthAll (ns.map PyData.int)=0
 | []=>⟨rfl,rfl⟩
 | n::ns=>⟨by rw[List.map_cons,PyData.canLayAll0,(za9 ns).1];rfl,by rw[List.map_cons,PyData.depthAll,(za9 ns).2];rfl⟩
mutual
theorem zfD:∀(n:Nat) (d:Dt),d.okN n=true→d.py.canLay0=true∧d.py.depth≤n
 | n,.non,_=>⟨rfl,by rw[Dt.py,PyData.depth];exact Nat.zero_le _⟩
 | n,.bl b,_=>⟨rfl,by rw[Dt.py,PyData.depth];exact Nat.zero_le _⟩
 | n,.int i,_=>⟨rfl,by rw[Dt.py,PyData.depth];exact Nat.zero_le _⟩
 | n,.str x,h=>by
  have h:PyData.strOk x=true:=by cases n<;>simpa[Dt.okN]using h
  exact⟨by rw[Dt.py,PyData.canLay0];exact h,by rw[Dt.py,PyData.depth];exact Nat.zero_le _⟩
 | 0,.lst ds,h=>by rw[Dt.okN]at h;cases h
 | 0,.tup ds,h=>by rw[Dt.okN]at h;cases h
 | 0,.scr ds,h=>by rw[Dt.okN]at h;cases h
 | n,.dic,h=>by cases n<;>(unfold Dt.okN at h;cases h)
 | n+1,.lst ds,h=>by
  rw[Dt.okN]at h
  obtain⟨h1,h2⟩:=z7F n ds h
  exact⟨by rw[Dt.py,PyData.canLay0];exact h1,by rw[Dt.py,PyData.depth];omega⟩
 | n+1,.tup ds,h=>by
  rw[Dt.okN]at h
  obtain⟨h1,h2⟩:=z7F n ds h
  exact⟨by rw[Dt.py,PyData.canLay0];exact h1,by rw[Dt.py,PyData.depth];omega⟩
 | n+1,.scr ns,h=>by
  obtain⟨h1,h2⟩:=za9 ns
  exact⟨by rw[Dt.py,PyData.canLay0];exact h1,by rw[Dt.py,PyData.depth];omega⟩
theorem z7F:∀(n:Nat) (ds:List Dt),oksN n ds=true→PyData.canLayAll0 (pys ds)=true∧PyData.depthAll (pys ds)≤n
 | n,[],_=>⟨rfl,by rw[pys,PyData.depthAll];exact Nat.zero_le _⟩
 | n,d::ds,h=>by
  rw[oksN,Bool.and_eq_true]at h
  obtain⟨h1,h2⟩:=zfD n d h.1
  obtain⟨h3,h4⟩:=z7F n ds h.2
  refine⟨by rw[pys,PyData.canLayAll0,h1,h3];rfl,?_⟩
  rw[pys,PyData.depthAll]
  exact Nat.max_le.mpr ⟨h2,h4⟩
end
theorem z4z{d:Dt}{n:Nat}(h:d.okN n=true)(hn:n≤64):SeqAt.shaped d.py=true:=by
 obtain⟨h1,h2⟩:=zfD n d h
 unfold SeqAt.shaped
 rw[h1,Bool.true_and]
 exact decide_eq_true (Nat.le_trans h2 hn)
section
variable {X:Cx}{pins:List (Addr×Obj)}{σ:St}{H:Hp}{s:Shared}
theorem z7G{h:Heap}:∀{ns:List Int} {us:List Value},Vals (ns.map V.int) us→∃ as,ReadsAll h us (ns.map PyData.int) as
 | [],us,r=>by cases r;exact⟨_,.nil⟩
 | n::ns,us,r=>by
  rw[List.map_cons]at r
  cases r with
  | cons r1 r2 =>
   obtain⟨t,rfl⟩:=r1
   obtain⟨as,q⟩:=z7G r2
   exact⟨_,.cons (.int n t) q⟩
mutual
theorem z3Z(I:Inv X pins σ H s):∀(d:Dt) {v:V} {u:Value},Rp X.K emp d H v→RelV v u→∃ as,Reads s.heap u d.py as
 | .non,v,u,h,r=>by rw[Rp.non_]at h;subst h;cases r;exact⟨_,.none⟩
 | .bl b,v,u,h,r=>by rw[Rp.bl_]at h;subst h;cases r;exact⟨_,.bool b⟩
 | .int i,v,u,h,r=>by rw[Rp.int_]at h;subst h;obtain⟨t,rfl⟩:=r;exact⟨_,.int i t⟩
 | .str x,v,u,h,r=>by rw[Rp.str_]at h;subst h;obtain⟨t,rfl⟩:=r;exact⟨_,.str x t⟩
 | .dic,v,u,h,r=>by
  obtain⟨a,rfl,h1⟩:=Rp.dic_.mp h
  cases r
  exact⟨_,by rw[Dt.py];exact .dict (I.hok a _ h1).1 rfl rfl .nil .nil⟩
 | .lst ds,v,u,h,r=>by
  obtain⟨a,vs,rfl,_,h1,h2⟩:=Rp.lst_.mp h
  cases r
  obtain⟨its,rv,⟨o,n,e,c,dd,dt⟩,_⟩:=I.list (SqL.of (K:=X.K) h1)
  obtain⟨as,q⟩:=z40 I ds (Rps.mono ds z0G h2) rv
  exact⟨_,by rw[Dt.py];exact .list e c dt q⟩
 | .tup ds,v,u,h,r=>by
  obtain⟨a,vs,rfl,h1,h2⟩:=Rp.tup_.mp h
  cases r
  obtain⟨its,rv,⟨o,e,c,n,dt⟩,_⟩:=I.tuple h1
  obtain⟨as,q⟩:=z40 I ds h2 rv
  exact⟨_,by rw[Dt.py];exact .tuple e c dt q⟩
 | .scr ns,v,u,h,r=>by
  obtain⟨a,rfl,_,h1⟩:=Rp.scr_.mp h
  cases r
  obtain⟨its,rv,⟨o,n,e,c,dd,dt⟩,_⟩:=I.list h1
  obtain⟨as,q⟩:=z7G (h:=s.heap) rv
  exact⟨_,by rw[Dt.py];exact .list e c dt q⟩
theorem z40(I:Inv X pins σ H s):∀(ds:List Dt) {vs:List V} {us:List Value},Rps X.K emp ds H vs→Vals vs us→∃ as,ReadsAll s.heap us (pys ds) as
 | [],vs,us,h,r=>by rw[Rps.nil_]at h;subst h;cases r;exact⟨_,by rw[pys];exact .nil⟩
 | d::ds,vs,us,h,r=>by
  obtain⟨v,ws,rfl,h1,h2⟩:=Rps.cons_.mp h
  cases r with
  | cons r1 r2 =>
   obtain⟨as,q1⟩:=z3Z I d h1 r1
   obtain⟨bs,q2⟩:=z40 I ds h2 r2
   exact⟨_,by rw[pys];exact .cons q1 q2⟩
end
end
def eqD(x y:Dt):Bool:=PyData.eqv x.py y.py
section
variable {X:Cx}{a b c e:Expr}{Fa Fb Fc:FE}{pos:Pos}
def opEq:FO:=fun x y=>if x.okN 8&&y.okN 8 then some (.nw,.bl (eqD x y)) else none
def opNe:FO:=fun x y=>if x.okN 8&&y.okN 8 then some (.nw,.bl (!eqD x y)) else none
theorem o_eq(hu:X.A.units+64<cLine):OpF X (compareOp .Eq) opEq:=by
 rintro pins s σ H x y v u Q I r1 r2 ⟨d1,d2,f,d,q1,q2,e,k⟩
 unfold opEq at e
 split at e
 · rename_i h
   rw[Bool.and_eq_true]at h
   cases e
   obtain⟨as,ra⟩:=z3Z I d1 q1 r1
   obtain⟨bs,rb⟩:=z3Z I d2 q2 r2
   exact eq_dataH ra rb (z4z h.1 (by decide)) (z4z h.2 (by decide)) hu ⟨.bl _,H,I,rfl,k _ H (Same.refl H) RpF.b_⟩
 · cases e
theorem o_ne(hu:X.A.units+64<cLine):OpF X (compareOp .NotEq) opNe:=by
 rintro pins s σ H x y v u Q I r1 r2 ⟨d1,d2,f,d,q1,q2,e,k⟩
 unfold opNe at e
 split at e
 · rename_i h
   rw[Bool.and_eq_true]at h
   cases e
   obtain⟨as,ra⟩:=z3Z I d1 q1 r1
   obtain⟨bs,rb⟩:=z3Z I d2 q2 r2
   exact ne_dataH ra rb (z4z h.1 (by decide)) (z4z h.2 (by decide)) hu ⟨.bl _,H,I,rfl,k _ H (Same.refl H) RpF.b_⟩
 · cases e
end
def RpFs(X:Ky)(H:Hp):List Dv→Hp→List V→Prop
 | [],_,vs=>vs=[]
 | x::xs,H',vs=>∃ v r,vs=v::r∧RpF X H x.1 x.2 H' v∧RpFs X H xs H' r
def upAs(X:Cx)(F:FA):TA:=fun σ H Q=>∃ ρ xs,RepS X.ky H ρ σ∧F ρ=some xs∧∀ vs H',Same H H'→RpFs X.ky H xs H' vs→Q vs H'
def PFA(X:Cx)(es:List Expr)(F:FA):Prop:=PA X es (upAs X F)
def sndL:List Dv→List Dt
 | []=>[]
 | x::xs=>x.2::sndL xs
def z3S:List Dv→Bool
 | []=>true
 | x::xs=>x.1.isNw&&z3S xs
def z2F:List Dv→Bool
 | []=>true
 | x::xs=>x.1.isFr&&z2F xs
section
variable {X:Ky}{H H' H1:Hp}
theorem RpFs.sh:∀{xs:List Dv} {vs:List V},RpFs X H xs H' vs→Rps X.K emp (sndL xs) H' vs
 | [],vs,h=>Rps.nil_.mpr h
 | x::xs,vs,⟨v,r,e,h1,h2⟩=>Rps.cons_.mpr ⟨v,r,e,h1.sh,RpFs.sh h2⟩
theorem RpFs.nw:∀{xs:List Dv} {vs:List V},z3S xs=true→RpFs X H xs H' vs→Rps X.K H (sndL xs) H' vs
 | [],vs,_,h=>Rps.nil_.mpr h
 | ⟨f,d⟩::xs,vs,q,⟨v,r,e,h1,h2⟩=>by
  unfold z3S at q
  rw[Bool.and_eq_true]at q
  cases f<;>first|(exact absurd q.1 Bool.false_ne_true)|exact Rps.cons_.mpr ⟨v,r,e,h1,RpFs.nw q.2 h2⟩
theorem RpFs.fr(h0:Same X.H₀ H):∀{xs:List Dv} {vs:List V},z2F xs=true→RpFs X H xs H' vs→Rps X.K X.H₀ (sndL xs) H' vs
 | [],vs,_,h=>Rps.nil_.mpr h
 | ⟨f,d⟩::xs,vs,q,⟨v,r,e,h1,h2⟩=>by
  unfold z2F at q
  rw[Bool.and_eq_true]at q
  exact Rps.cons_.mpr ⟨v,r,e,h1.fr h0 q.1,RpFs.fr h0 q.2 h2⟩
theorem RpFs.mono:∀{xs:List Dv} {vs:List V},RpFs X H xs H' vs→Same H' H1→RpFs X H xs H1 vs
 | [],vs,h,_=>h
 | x::xs,vs,⟨v,r,e,h1,h2⟩,s=>⟨v,r,e,h1.mono s,RpFs.mono h2 s⟩
theorem RpFs.early(s:Same H H1):∀{xs:List Dv} {vs:List V},RpFs X H1 xs H' vs→RpFs X H xs H' vs
 | [],vs,h=>h
 | x::xs,vs,⟨v,r,e,h1,h2⟩=>⟨v,r,e,h1.early s,RpFs.early s h2⟩
end
section
variable {X:Cx}{a b c e:Expr}{es:List Expr}{Fa Fb Fe:FE}{Fs:FA}{pos:Pos}
def fNil:FA:=fun _=>some []
def z02(Fa:FE)(Fs:FA):FA:=fun ρ=>(Fa ρ).bind fun x=>(Fs ρ).bind fun xs=>some (x::xs)
theorem z07:PFA X [] fNil:=zch.imp (by rintro σ H Q ⟨ρ,xs,rs,e,k⟩;cases e;exact k [] H (Same.refl H) rfl)
theorem z03(ha:PF X e Fe)(hr:PFA X es Fs)(hs:starEach (e::es) X.env=(false,eval e X.env)::starEach es X.env:=by rfl):PFA X (e::es) (z02 Fe Fs) :=
 (z7g ha hr hs).imp fun σ H Q hZ=>hZ.elim fun ρ hZ=>hZ.elim fun xs hZ=>hZ.elim fun rs hZ=>hZ.elim fun e0 k=>by
  obtain⟨⟨f,d⟩,e1,e2⟩:=z04 e0
  obtain⟨ys,e3,e4⟩:=z04 e2
  cases e4
  exact⟨ρ,f,d,rs,e1,fun v H1 s1 r1=>⟨ρ,ys,rs.mono s1,e3,fun vs H2 s2 r2=>k _ _ (s1.trans s2) ⟨v,vs,rfl,r1.mono s2,r2.early s1⟩⟩⟩
theorem RpFs.length{X:Ky}{H H':Hp}:∀{xs:List Dv} {vs:List V},RpFs X H xs H' vs→vs.length=xs.length
 | [],vs,h=>by rw[show vs=[]from h];rfl
 | x::xs,vs,⟨v,r,e,_,h2⟩=>by rw[e,List.length_cons,List.length_cons,RpFs.length h2]
def fLst(Fs:FA):FE:=fun ρ=>(Fs ρ).bind fun xs=>if xs.length≤1000 then some (if z3S xs then .nw else .tn,.lst (sndL xs)) else none
def fTup(Fs:FA):FE:=fun ρ=>(Fs ρ).bind fun xs=>if xs.length≤1000 then some (if z3S xs then .nw else if z2F xs then .fr else .sh,.tup (sndL xs)) else none
theorem z1H(h:PFA X es Fs):PF X (.List es pos) (fLst Fs):=(pe_lst h).imp fun σ H Q hZ=>hZ.elim fun ρ hZ=>hZ.elim fun f hZ=>hZ.elim fun d hZ=>hZ.elim fun rs hZ=>hZ.elim fun e0 k=>by
 obtain⟨xs,e1,e2⟩:=z04 e0
 split at e2
 · rename_i hl
   cases e2
   refine⟨ρ,xs,rs,e1,fun vs H1 s1 r1=>⟨Nat.le_trans (by rw[r1.length];exact hl) (by decide),fun p hp=>k _ _ (s1.trans (z17 hp)) ?_⟩⟩
   have hp0:H p=none:=s1.free hp
   by_cases q:z3S xs=true
   · rw[if_pos q]
     exact Rp.new (K:=X.K) (B:=H) hp hp0 (r1.nw q)
   · rw[if_neg q]
     exact⟨Rp.new hp rfl r1.sh,⟨_,rfl⟩,fun a e=>by cases e;exact hp0⟩
 · cases e2
theorem z5m{x1}(h:PFA X es Fs):PF X (.Tuple es x1 pos) (fTup Fs):=(pe_tup h).imp fun σ H Q hZ=>hZ.elim fun ρ hZ=>hZ.elim fun f hZ=>hZ.elim fun d hZ=>hZ.elim fun rs hZ=>hZ.elim fun e0 k=>by
 obtain⟨xs,e1,e2⟩:=z04 e0
 split at e2
 · rename_i hl
   cases e2
   refine⟨ρ,xs,rs,e1,fun vs H1 s1 r1=>⟨Nat.le_trans (by rw[r1.length];exact hl) (by decide),fun p hp=>k _ _ (s1.trans (z17 hp)) ?_⟩⟩
   have r2:=r1.mono (z17 (o := .tup vs) hp)
   by_cases q:z3S xs=true
   · rw[if_pos q]
     exact(Rp.tup_ (K:=X.K) (B:=H)).mpr ⟨p,vs,rfl,SqT.of z0S,r2.nw q⟩
   · rw[if_neg q]
     by_cases q2:z2F xs=true
     · rw[if_pos q2]
       exact(Rp.tup_ (K:=X.K) (B:=X.H₀)).mpr ⟨p,vs,rfl,SqT.of z0S,r2.fr rs.base q2⟩
     · rw[if_neg q2]
       exact(Rp.tup_ (K:=X.K) (B:=emp)).mpr ⟨p,vs,rfl,SqT.of z0S,r2.sh⟩
 · cases e2
abbrev FC:=List Dt→Option Dt
def spc(K:PySem.W.Frag)(fr:Bool)(c:FC):Sp:=fun vs H Q _=>∃ ds d,Rps K emp ds H vs∧c ds=some d∧∀ v H',Same H H'→Rp K (if fr then H else emp) d H' v→Q v H'
def z08(fr:Bool)(c:FC)(Fs:FA):FE:=fun ρ=>(Fs ρ).bind fun xs=>(c (sndL xs)).map (nrm (if fr then .nw else .sh))
theorem zhy{X:Ky}{fr:Bool}{H H1 H':Hp}{d:Dt}{v:V}(s:Same H H1)(r:Rp X.K (if fr then H1 else emp) d H' v):RpF X H (nrm (if fr then .nw else .sh) d).1 d H' v:=by
 cases fr with
 | true=>exact RpF.nrm (f := .nw) (RpF.early s (show RpF X H1 .nw d H' v from r))
 | false=>exact RpF.nrm (f := .sh) r
theorem p_call{fr:Bool}{k:Nat}{f:Addr}{fd:FuncData}{ps:List Str}{ct:FC}{x:Str}{p:Pos}(F:FnOk X.prog X.w X.K X.mg X.base CX0 k f fd ps (spc X.K fr ct))(hr:Room k X.A)(hg:Gl X x)(hm:X.mg x=some (.ref f))(hk:PySem.W.keepIn X.K (.ref f)=true)(hb:Binds X.K fd ps [])
  (ha:PFA X (e::es) Fs) (hdb:(x==("__debug__" : Str))=false:=by decide) (hst:starEach (e::es) X.env=(false,eval e X.env)::starEach es X.env:=by rfl) (hpl:(backTo pos (starEach es X.env)).any (·.1)=false:=by rfl):PF X (.Call (.Name x p) (e::es) [] pos) (z08 fr ct Fs) :=
 (zkN (E:=E0) (dvs:=[]) F hr hg hm hk hb .nil pass0 ha hdb hst hpl).imp fun σ H Q hZ=>hZ.elim fun ρ hZ=>hZ.elim fun f hZ=>hZ.elim fun d hZ=>hZ.elim fun rs hZ=>hZ.elim fun e0 k=>by
  obtain⟨xs,e1,e2⟩:=z04 e0
  cases q:ct (sndL xs) with
  | none=>rw[q]at e2;cases e2
  | some d0 =>
   rw[q]at e2
   have e2:nrm (if fr then .nw else .sh) d0=(f,d):=Option.some.inj e2
   have e3:d0=d:=congrArg Prod.snd e2
   subst e3
   refine⟨ρ,xs,rs,e1,fun vs H1 s1 r1=>?_⟩
   dsimp only
   rw[List.append_nil]
   refine⟨_,d0,r1.sh,q,fun v H' s' r'=>k v H' (s1.trans s') ?_⟩
   have:=zhy (X:=X.ky) s1 r'
   rw[e2]at this
   exact this
abbrev FB:=List Dt→Option Dv
def z7H(X:Cx)(f:Value)(r:FB):Prop:=CallR X f (fun xs H Q=>∃ ds f d,Rps X.K emp ds H xs∧r ds=some (f,d)∧∀ v H',Same H H'→RpF X.ky H f d H' v→Q v H')
def fBlt(r:FB)(Fs:FA):FE:=fun ρ=>(Fs ρ).bind fun xs=>r (sndL xs)
theorem zfE{r:FB}{σ:St}{H:Hp}{Q:VK}(h:upF X (fBlt r Fs) σ H Q):upAs X Fs σ H fun vs H1=>∃ ds f d,Rps X.K emp ds H1 vs∧r ds=some (f,d)∧∀ v H',Same H1 H'→RpF X.ky H1 f d H' v→Q v H':=by
 obtain⟨ρ,f,d,rs,e0,k⟩:=h
 obtain⟨xs,e1,e2⟩:=z04 e0
 exact⟨ρ,xs,rs,e1,fun vs H1 s1 r1=>⟨_,f,d,r1.sh,e2,fun v H' s' r'=>k v H' (s1.trans s') (r'.early s1)⟩⟩
theorem z19{id:String}{r:FB}{x:Str}{p:Pos}(hc:z7H X (.builtin id) r)(hg:Gl X x)(hm:X.mg x=none)(hv:bootBuiltins x=some (.builtin id))(ha:PFA X (e::es) Fs)(hn:x ≠ "__name__" := by decide)(hdb:(x==("__debug__" : Str))=false:=by decide)(hst:starEach (e::es) X.env=(false,eval e X.env)::starEach es X.env:=by rfl)(hpl:(backTo pos (starEach es X.env)).any (·.1)=false:=by rfl):
 PF X (.Call (.Name x p) (e::es) [] pos) (fBlt r Fs):=(zaO hc hg hm hv ha hn hdb hst hpl).imp fun σ H Q h=>zfE h
theorem z0X{T:String}{r:FB}{x:Str}{p:Pos}(hc:z7H X (.type T) r)(hg:Gl X x)(hm:X.mg x=none)(hv:bootBuiltins x=some (.type T))(ha:PFA X (e::es) Fs)(hn:x ≠ "__name__" := by decide)(hdb:(x==("__debug__" : Str))=false:=by decide)(hst:starEach (e::es) X.env=(false,eval e X.env)::starEach es X.env:=by rfl)(hpl:(backTo pos (starEach es X.env)).any (·.1)=false:=by rfl):
 PF X (.Call (.Name x p) (e::es) [] pos) (fBlt r Fs):=(zgt hc hg hm hv ha hn hdb hst hpl).imp fun σ H Q h=>zfE h
end
section
variable {X:Cx}
theorem Rps.one'{K:PySem.W.Frag}{B H:Hp}{d:Dt}{vs:List V}(h:Rps K B [d] H vs):∃ v,vs=[v]∧Rp K B d H v:=by
 obtain⟨v,r,rfl,h1,h2⟩:=Rps.cons_.mp h
 rw[Rps.nil_.mp h2]
 exact⟨v,rfl,h1⟩
def bLen:FB
 | [.lst xs]=>some (.nw,.int xs.length)
 | [.tup xs]=>some (.nw,.int xs.length)
 | [.scr xs]=>some (.nw,.int xs.length)
 | _=>none
theorem z3T:z7H X (.builtin "len") bLen:=by
 rintro pins s σ H xs us Q I r ⟨ds,f,d,rs,e,k⟩
 unfold bLen at e
 split at e
 · cases e
   obtain⟨v,rfl,h⟩:=rs.one'
   obtain⟨p,vs,rfl,_,q1,q2⟩:=h.items
   exact z3r pins s σ H _ us Q I r ⟨p,vs,rfl,.inl (SqL.of q1),by rw[q2.length];exact k _ H (Same.refl H) RpF.i_⟩
 · cases e
   obtain⟨v,rfl,h⟩:=rs.one'
   obtain⟨p,vs,rfl,q1,q2⟩:=Rp.tup_.mp h
   exact z3r pins s σ H _ us Q I r ⟨p,vs,rfl,.inr q1,by rw[q2.length];exact k _ H (Same.refl H) RpF.i_⟩
 · cases e
   obtain⟨v,rfl,h⟩:=rs.one'
   obtain⟨p,rfl,_,q1⟩:=Rp.scr_.mp h
   exact z3r pins s σ H _ us Q I r ⟨p,_,rfl,.inl q1,by rw[List.length_map];exact k _ H (Same.refl H) RpF.i_⟩
 · cases e
def bTup:FB
 | [.lst xs]=>some (if z1g xs then .nw else .sh,.tup xs)
 | [.tup xs]=>some (if z1g xs then .nw else .sh,.tup xs)
 | _=>none
theorem zfF{X:Ky}{H H':Hp}{xs:List Dt}{v:V}(h:Rp X.K emp (.tup xs) H' v):RpF X H (if z1g xs then .nw else .sh) (.tup xs) H' v:=by
 by_cases q:z1g xs=true
 · rw[if_pos q];exact RpF.scal (by rw[Dt.flat];exact q) h
 · rw[if_neg q];exact h
theorem zhz:z7H X (.type "tuple") bTup:=by
 rintro pins s σ H xs us Q I r ⟨ds,f,d,rs,e,k⟩
 unfold bTup at e
 split at e
 · cases e
   obtain⟨v,rfl,h⟩:=rs.one'
   obtain⟨p,vs,rfl,_,q1,q2⟩:=h.items
   exact z4O pins s σ H _ us Q I r ⟨p,vs,rfl,.inl ⟨SqL.of q1,fun l hl=>k _ _ (z17 hl) (zfF (Rp.tup_.mpr ⟨l,vs,rfl,SqT.of z0S,Rps.mono _ (z17 hl) q2⟩))⟩⟩
 · cases e
   obtain⟨v,rfl,h⟩:=rs.one'
   obtain⟨p,vs,rfl,q1,q2⟩:=Rp.tup_.mp h
   exact z4O pins s σ H _ us Q I r ⟨p,vs,rfl,.inr ⟨q1,k _ H (Same.refl H) (zfF h)⟩⟩
 · cases e
def bLst:FB
 | [.lst xs]=>some (newL xs)
 | [.tup xs]=>some (newL xs)
 | _=>none
theorem z3U:z7H X (.type "list") bLst:=by
 rintro pins s σ H xs us Q I r ⟨ds,f,d,rs,e,k⟩
 unfold bLst at e
 split at e
 · cases e
   obtain⟨v,rfl,h⟩:=rs.one'
   obtain⟨p,vs,rfl,_,q1,q2⟩:=h.items
   exact z5k pins s σ H _ us Q I r ⟨p,vs,rfl,.inl (SqL.of q1),fun l hl=>k _ _ (z17 hl) (z5l hl q2)⟩
 · cases e
   obtain⟨v,rfl,h⟩:=rs.one'
   obtain⟨p,vs,rfl,q1,q2⟩:=Rp.tup_.mp h
   exact z5k pins s σ H _ us Q I r ⟨p,vs,rfl,.inr q1,fun l hl=>k _ _ (z17 hl) (z5l hl q2)⟩
 · cases e
def bAbs:FB
 | [.int i]=>some (.nw,.int (if i<0 then -i else i))
 | _=>none
theorem c_abs:z7H X (.builtin "abs") bAbs:=by
 rintro pins s σ H xs us Q I r ⟨ds,f,d,rs,e,k⟩
 unfold bAbs at e
 split at e
 · rename_i i
   cases e
   obtain⟨v,rfl,h⟩:=rs.one'
   rw[Rp.int_]at h
   subst h
   exact zhi pins s σ H _ us Q I r ⟨i,rfl,k _ H (Same.refl H) RpF.i_⟩
 · cases e
def z6J:List Dt→Option (List Bool)
 | []=>some []
 | .bl b::ds=>(z6J ds).map (b::·)
 | _=>none
theorem z94{K:PySem.W.Frag}{B H:Hp}:∀{ds:List Dt} {bs:List Bool} {vs:List V},z6J ds=some bs→Rps K B ds H vs→vs=bs.map V.bl
 | [],bs,vs,e,r=>by cases e;exact Rps.nil_.mp r
 | .bl b::ds,bs,vs,e,r=>by
  obtain⟨v,ws,rfl,h1,h2⟩:=Rps.cons_.mp r
  unfold z6J at e
  cases q:z6J ds with
  | none=>rw[q]at e;cases e
  | some cs=>rw[q]at e;cases e;rw[Rp.bl_.mp h1,z94 q h2];rfl
 | .non::ds,bs,vs,e,r=>by cases e
 | .int _::ds,bs,vs,e,r=>by cases e
 | .str _::ds,bs,vs,e,r=>by cases e
 | .lst _::ds,bs,vs,e,r=>by cases e
 | .tup _::ds,bs,vs,e,r=>by cases e
 | .scr _::ds,bs,vs,e,r=>by cases e
 | .dic::ds,bs,vs,e,r=>by cases e
def bAll:FB
 | [.lst xs]=>(z6J xs).map fun bs=>(.nw,.bl (bs.all id))
 | _=>none
theorem zgx(bs:List Bool):(List.range bs.length).all (fun i=>bs.getD i false)=bs.all id:=by
 rw[Bool.eq_iff_iff,List.all_eq_true,List.all_eq_true]
 constructor
 · intro h b hb
   obtain⟨i,hi,e⟩:=List.getElem_of_mem hb
   have:=h i (List.mem_range.mpr hi)
   simp[List.getD,List.getElem?_eq_getElem hi,e]at this
   exact this
 · intro h i hi
   have hi:=List.mem_range.mp hi
   have:=h _ (List.getElem_mem hi)
   simpa[List.getD,List.getElem?_eq_getElem hi]using this
theorem zl4{bs:List Bool}{us:List Value}(r:Vals (bs.map V.bl) us){prog:Program}{w:World}{A:Around}:TruthOf prog w A (fun i v=>us.toArray[i]?=some v) (fun i=>bs.getD i false):=by
 intro i v s Q E hP hQ
 have e:us[i]?=some v:=by simpa using hP
 cases q:bs[i]? with
 | none =>
  have:=r.none_of (i:=i) (by rw[List.getElem?_map,q];rfl)
  rw[this]at e;cases e
 | some b =>
  obtain⟨u,h1,h2⟩:=r.get (i:=i) (x:=V.bl b) (by rw[List.getElem?_map,q];rfl)
  rw[e]at h1
  cases h1
  cases h2
  have hQ':Q b s:=by simpa[List.getD,q]using hQ
  exact wpAny_truthy_bool hQ'
theorem c_all(hc:X.calm=true):z7H X (.builtin "all") bAll:=by
 rintro pins s σ H xs us Q I r ⟨ds,f,d,rs,e,k⟩
 unfold bAll at e
 split at e
 · rename_i ys
   cases q:z6J ys with
   | none=>rw[q]at e;cases e
   | some bs =>
    rw[q]at e
    cases e
    obtain⟨v,rfl,h⟩:=rs.one'
    obtain⟨p,vs,rfl,_,q1,q2⟩:=h.items
    obtain⟨u,rfl,ru⟩:=r.one
    cases ru
    have ev:=z94 q q2
    subst ev
    obtain⟨its,rv,pl,hz⟩:=I.list (SqL.of (K:=X.K) q1)
    have hlen:its.toArray.size=bs.length:=by rw[List.size_toArray,←rv.length,List.length_map]
    refine call_all_walk (wpAny_pyIter_list pl.isList ?_)
    have hne:p≠s.heap.objs.size:=Nat.ne_of_lt (by obtain⟨o,e,_⟩:=pl.isList;exact Heap.lt_size e)
    refine⟨_,_,_,_,_,_,fun i=>bs.getD i false,rfl,Walks.list (A:=X.A.in1) (I.ok.hd hc) s.heap.objs.size p hne its.toArray,⟨⟨_,Heap.get?_push_size _ rfl,rfl,rfl⟩,pl.isList.at fun o e=>Heap.get?_push_of_some _ e⟩,zl4 rv,fun h' tk hk=>?_⟩
    rw[hlen,zgx]
    exact⟨.bl _,H,I.kept fun b o e=>hk b o (by simp;exact Nat.ne_of_lt (Heap.lt_size e)) (Heap.get?_push_of_some _ e),rfl,k _ H (Same.refl H) RpF.b_⟩
 · cases e
def tyN:Dt→String
 | .non => "NoneType"
 | .bl _ => "bool"
 | .int _ => "int"
 | .str _ => "str"
 | .lst _ => "list"
 | .scr _ => "list"
 | .tup _ => "tuple"
 | .dic => "dict"
def zaW(t T:String):Bool:=t==T||(t == "bool" && T == "int")
def okT(T:String):Bool:=T == "int" || T == "bool" || T == "str" || T == "list" || T == "tuple" || T == "dict"
theorem zgy{T:String}(h:okT T=true):T = "int" ∨ T = "bool" ∨ T = "str" ∨ T = "list" ∨ T = "tuple" ∨ T = "dict" := by
 unfold okT at h
 simp only[Bool.or_eq_true,beq_iff_eq]at h
 rcases h with((((h|h)|h)|h)|h)|h
 · exact .inl h
 · exact .inr (.inl h)
 · exact .inr (.inr (.inl h))
 · exact .inr (.inr (.inr (.inl h)))
 · exact .inr (.inr (.inr (.inr (.inl h))))
 · exact .inr (.inr (.inr (.inr (.inr h))))
theorem kit_D{K:PySem.W.Frag}{d:Dt}{T:String}(h:okT T=true):PySem.W.kitOne K (.type (tyN d)) (.type T)=some (zaW (tyN d) T):=by
 rcases zgy h with rfl|rfl|rfl|rfl|rfl|rfl<;>cases d<;>rfl
def fIsi(T:String)(F:FE):FE:=fun ρ=>(F ρ).map fun x=>(.nw,.bl (zaW (tyN x.2) T))
theorem zl5{T:String}(hT:okT T=true):CallR X (.builtin "isinstance") (fun xs H Q=>∃ d v,xs=[v,.ty T]∧Rp X.K emp d H v∧Q (.bl (zaW (tyN d) T)) H):=by
 intro pins s σ H xs us Q I r ⟨d,v,ex,h1,fin⟩
 subst ex
 have e:=kit_D (K:=X.K) (d:=d) hT
 obtain⟨u,u',rfl,r1,r2⟩:=vals2 r
 cases r2
 cases d with
 | non=>rw[Rp.non_.mp h1]at r1;exact z4v I r1 .non e fun tk=>⟨.bl _,H,I.tok tk,rfl,fin⟩
 | bl b=>rw[Rp.bl_.mp h1]at r1;exact z4v I r1 (.bl b) e fun tk=>⟨.bl _,H,I.tok tk,rfl,fin⟩
 | int i=>rw[Rp.int_.mp h1]at r1;exact z4v I r1 (.int i) e fun tk=>⟨.bl _,H,I.tok tk,rfl,fin⟩
 | str x=>rw[Rp.str_.mp h1]at r1;exact z4v I r1 (.str x) e fun tk=>⟨.bl _,H,I.tok tk,rfl,fin⟩
 | dic =>
  obtain⟨a,rfl,q⟩:=Rp.dic_.mp h1
  cases r1
  exact PySem.W.kia_one PySem.W.kitx_dict I.kIn ⟨_,(I.hok a _ q).1,rfl⟩ e (fun z=>nomatch z) fun tk=>⟨.bl _,H,I.tok tk,rfl,fin⟩
 | lst ys =>
  obtain⟨p,vs,rfl,_,q1,q2⟩:=h1.items
  cases r1
  obtain⟨its,_,pl,_⟩:=I.list (SqL.of (K:=X.K) q1)
  obtain⟨o,ho,hc,_⟩:=pl.isList
  exact PySem.W.kia_one PySem.W.kitx_list I.kIn ⟨o,ho,hc⟩ e (fun z=>nomatch z) fun tk=>⟨.bl _,H,I.tok tk,rfl,fin⟩
 | scr ys =>
  obtain⟨p,rfl,_,q1⟩:=Rp.scr_.mp h1
  cases r1
  obtain⟨its,_,pl,_⟩:=I.list q1
  obtain⟨o,ho,hc,_⟩:=pl.isList
  exact PySem.W.kia_one PySem.W.kitx_list I.kIn ⟨o,ho,hc⟩ e (fun z=>nomatch z) fun tk=>⟨.bl _,H,I.tok tk,rfl,fin⟩
 | tup ys =>
  obtain⟨p,vs,rfl,q1,q2⟩:=Rp.tup_.mp h1
  cases r1
  obtain⟨its,_,pl,_⟩:=I.tuple q1
  obtain⟨o,ho,hc,_⟩:=pl
  exact PySem.W.kia_one PySem.W.kitx_tuple I.kIn ⟨o,ho,hc⟩ e (fun z=>nomatch z) fun tk=>⟨.bl _,H,I.tok tk,rfl,fin⟩
theorem z5n{a:Expr}{Fa:FE}{x:Str}{T:String}{p q pos:Pos}(hT:okT T=true)(hg:Gl X "isinstance")(hm:X.mg "isinstance" = none)(hgT:Gl X x)(hmT:X.mg x=none)(hvT:bootBuiltins x=some (.type T))(ha:PF X a Fa)
  (hn:x ≠ "__name__" := by decide) (hd:(x==("__debug__" : Str))=false:=by decide) (hs1:starEach [.Name x q] X.env=[(false,eval (.Name x q) X.env)]:=by rfl)
  (hs:starEach [a,.Name x q] X.env=(false,eval a X.env)::starEach [.Name x q] X.env:=by rfl):PF X (.Call (.Name "isinstance" p) [a,.Name x q] [] pos) (fIsi T Fa) :=
 (zaO (zl5 hT) hg hm boot_isinstance (z7g ha (z7g (pe_ty hgT hmT hvT hn hd) zch hs1) hs) (by decide) (by decide) hs (by rw[hs1];rfl)).imp fun σ H Q hZ=>hZ.elim fun ρ hZ=>hZ.elim fun f hZ=>hZ.elim fun d hZ=>hZ.elim fun rs hZ=>hZ.elim fun e0 k=>by
  unfold fIsi at e0
  cases h:Fa ρ with
  | none=>rw[h]at e0;cases e0
  | some z =>
   rw[h]at e0
   cases e0
   exact⟨ρ,z.1,z.2,rs,h,fun v H1 s1 r1=>⟨z.2,v,rfl,r1.sh,k _ H1 s1 RpF.b_⟩⟩
abbrev FP:=Rho→Option (Option Int)
def upP(X:Cx)(F:FP):TO:=fun σ H Q=>∃ ρ o,RepS X.ky H ρ σ∧F ρ=some o∧∀ H',Same H H'→Q o H'
def PFP(X:Cx)(e:Option Expr)(F:FP):Prop:=PO X e (upP X F)
def z7h:FP:=fun _=>some none
def intD:Dt→Option Int
 | .int i=>some i
 | _=>none
def zfG(F:FE):FP:=fun ρ=>(F ρ).bind fun x=>(intD x.2).map some
theorem PO.imp{e:Option Expr}{t t':TO}(h:PO X e t)(q:∀ σ H Q,t' σ H Q→t σ H Q):PO X e t':=fun pins s σ H Q I z=>h pins s σ H Q I (q σ H Q z)
theorem s_none:PFP X none z7h:=zkP.imp (by rintro σ H Q ⟨ρ,o,rs,e,k⟩;cases e;exact k H (Same.refl H))
theorem s_some{e:Expr}{F:FE}(h:PF X e F):PFP X (some e) (zfG F):=(zkQ h).imp fun σ H Q ⟨ρ,o,rs,e,k⟩=>by
 obtain⟨⟨f,d⟩,e1,e2⟩:=z04 e
 refine⟨ρ,f,d,rs,e1,fun v H1 s1 r1=>?_⟩
 cases d<;>first|cases e2|skip
 rename_i i
 exact⟨i,Rp.int_.mp r1.sh,k H1 s1⟩
def cutD{α:Type}(xs:List α)(lo hi:Option Int):List α:=(xs.drop (HT.sIx xs.length 0 lo)).take (HT.sIx xs.length xs.length hi-HT.sIx xs.length 0 lo)
def fSl(F:FE)(L U:FP):FE:=fun ρ=>(F ρ).bind fun x=>(L ρ).bind fun lo=>(U ρ).bind fun hi=>match x.2 with|.lst ds=>some (newL (cutD ds lo hi))|_=>none
theorem zl6{e:Expr}{F:FE}{lo hi:Option Expr}{L U:FP}{pos p2:Pos}(he:PF X e F)(hl:PFP X lo L)(hu:PFP X hi U):PF X (.Subscript e (.Slice lo hi none p2) pos) (fSl F L U) :=
 (zhk zkS he hl hu).imp fun σ H Q hZ=>hZ.elim fun ρ hZ=>hZ.elim fun f hZ=>hZ.elim fun d hZ=>hZ.elim fun rs hZ=>hZ.elim fun e0 k=>by
  obtain⟨⟨fx,dx⟩,e1,e2⟩:=z04 e0
  obtain⟨l,e3,e4⟩:=z04 e2
  obtain⟨u,e5,e6⟩:=z04 e4
  clear e0 e2 e4
  refine⟨ρ,fx,dx,rs,e1,fun v H1 s1 r1=>⟨ρ,l,rs.mono s1,e3,fun H2 s2=>⟨ρ,u,rs.mono (s1.trans s2),e5,fun H3 s3=>?_⟩⟩⟩
  have ex:∃ ds,dx = .lst ds∧newL (cutD ds l u)=(f,d):=by
   cases dx<;>first|(rename_i ds;exact⟨ds,rfl,Option.some.inj e6⟩)|cases e6
  obtain⟨ds,rfl,e7⟩:=ex
  cases e7
  obtain⟨p,vs,rfl,_,q1,q2⟩:=(Rp.mono _ (s2.trans s3) r1.sh).items
  refine⟨p,vs,rfl,SqL.of q1,fun a ha=>k _ _ ((s1.trans (s2.trans s3)).trans (z17 ha)) ?_⟩
  have h1:Rps X.K emp (cutD ds l u) H3 (cutV vs l u):=by
   unfold cutD cutV
   rw[q2.length]
   exact Rps.take _ (Rps.drop _ q2)
  exact(z5l ha h1).early (s1.trans (s2.trans s3))
end
end L2

end
section
local macro_rules|`(tactic| omega)=>`(tactic| first|lia|omega +splitDisjunctions)
set_option Elab.async false
set_option linter.all false
set_option maxRecDepth 100000
namespace L2
open PySem PySem.Spec PyProof.Rows
def Walk(K:PySem.W.Frag)(J:It)(items:List Dt)(H1:Hp):Prop:=∀(A:List Addr) (H:Hp),Same H1 (hidL A H)→(∀ a∈A,∃ o,H a=some o) →
 (∀(i:Nat) (d:Dt),items[i]?=some d→J.go i H∧∀ x H',J.yld i H x H'→Same (hidL A H) (hidL A H')∧(∀ a∈A,H' a=H a)∧Rp K emp d (hidL A H') x)∧∀ i,items.length≤i→J.stop i H
abbrev FI:=Rho→Option (List Dt)
def upIK(Y:Ky)(F:FI):TI:=fun σ H R=>∃ ρ items,RepS Y H ρ σ∧F ρ=some items∧∀ J H',Same H H'→items.length≤sizeLine→Walk Y.K J items H'→R J H'
abbrev upI(X:Cx)(F:FI):TI:=upIK X.ky F
def PFI(X:Cx)(tg e:Expr)(F:FI):Prop:=PI X tg e (upI X F)
theorem PI.imp{X:Cx}{tg e:Expr}{t t':TI}(h:PI X tg e t)(q:∀ σ H Q,t' σ H Q→t σ H Q):PI X tg e t':=fun pins s σ H Q I z=>h pins s σ H Q I (q σ H Q z)
section
variable {X:Cx}{tg a b e:Expr}{Fa Fb Fe:FE}{pos:Pos}
theorem zgz{K:PySem.W.Frag}{p:Addr}{ds:List Dt}{vs:List V}{H1:Hp}(h1:SqL K H1 p vs)(h2:Rps K emp ds H1 vs):Walk K (Itl K p) ds H1:=by
 intro A H sm hA
 have s2:Same H1 H:=sm.trans z0G
 refine⟨fun i d e=>?_,fun i hi=>⟨vs,s2.seq h1,by rw[h2.length];exact hi⟩⟩
 obtain⟨v,e1,e2⟩:=h2.get e
 refine⟨⟨vs,v,s2.seq h1,e1⟩,?_⟩
 rintro x H' ⟨z,y⟩
 subst z
 have hx:=y vs (s2.seq h1)
 rw[e1]at hx
 cases hx
 exact⟨Same.refl _,fun _ _=>rfl,Rp.mono _ sm e2⟩
theorem zhA{K:PySem.W.Frag}{p:Addr}{ds:List Dt}{vs:List V}{H1:Hp}(h1:SqT K H1 p vs)(h2:Rps K emp ds H1 vs):Walk K (Itt K p) ds H1:=by
 intro A H sm hA
 have s2:Same H1 H:=sm.trans z0G
 refine⟨fun i d e=>?_,fun i hi=>⟨vs,s2.seqT h1,by rw[h2.length];exact hi⟩⟩
 obtain⟨v,e1,e2⟩:=h2.get e
 refine⟨⟨vs,v,s2.seqT h1,e1⟩,?_⟩
 rintro x H' ⟨z,y⟩
 subst z
 have hx:=y vs (s2.seqT h1)
 rw[e1]at hx
 cases hx
 exact⟨Same.refl _,fun _ _=>rfl,Rp.mono _ sm e2⟩
def z35(lo:Int)(n:Nat):List Dt:=(List.range n).map fun(k:Nat) => .int (lo+(k:Int))
theorem zcp{K:PySem.W.Frag}{lo:Int}{n:Nat}{H1:Hp}:Walk K (Itr lo n) (z35 lo n) H1:=by
 intro A H sm hA
 refine⟨fun i d e=>?_,fun i hi=>by unfold z35 at hi;rw[List.length_map,List.length_range]at hi;exact hi⟩
 unfold z35 at e
 rw[List.getElem?_map]at e
 have hi:i<n:=by
  by_cases hi:i<n
  · exact hi
  · rw[List.getElem?_eq_none (by simp;omega)]at e;cases e
 rw[List.getElem?_range hi]at e
 cases e
 refine⟨hi,fun x H' hZ=>hZ.elim fun z y=>?_⟩
 subst z;subst y
 exact⟨Same.refl _,fun _ _=>rfl,Rp.int_.mpr rfl⟩
def seqD:Dt→Option (List Dt)
 | .lst ds=>some ds
 | .tup ds=>some ds
 | _=>none
def iSeq(F:FE):FI:=fun ρ=>(F ρ).bind fun x=>seqD x.2
theorem z2k(ha:PF X a Fa):PFI X tg a (iSeq Fa):=by
 intro pins s σ H R I ⟨ρ,items,rs,e0,k⟩
 obtain⟨⟨f,d⟩,e1,e2⟩:=z04 e0
 refine thn (ha pins s σ H (fun x H1=>Same H H1∧Rp X.K emp d H1 x) I ⟨ρ,f,d,rs,e1,fun v H1 s1 r1=>⟨s1,r1.sh⟩⟩) fun v s1 hZ=>hZ.elim fun x hZ=>hZ.elim fun H1 hZ=>hZ.elim fun I1 hZ=>hZ.elim fun r1 hZ=>hZ.elim fun sm rd=>?_
 cases d<;>first|cases e2|skip
 · rename_i ds
   obtain⟨p,vs,rfl,_,h1,h2⟩:=rd.items
   cases r1
   obtain⟨its,rv,pl,hz⟩:=I1.list (SqL.of (K:=X.K) h1)
   refine wpAny_pyIter_list pl.isList ?_
   refine⟨s1.heap.objs.size,[s1.heap.objs.size],_,_,H1,rfl,I1.kept (t':=s1.toks) fun b o e=>Heap.get?_push_of_some _ e,zgo p _,⟨_,Heap.get?_push_size _ rfl,rfl,rfl⟩,fun b hb=>?_,k _ H1 sm (by rw[←h2.length];exact hz) (zgz (SqL.of h1) h2)⟩
   have e:b=s1.heap.objs.size:=by simpa using hb
   subst e
   exact I1.fpOk (Nat.le_refl _) (I1.hok.fresh (Nat.le_refl _))
 · rename_i ds
   obtain⟨p,vs,rfl,h1,h2⟩:=Rp.tup_.mp rd
   cases r1
   obtain⟨its,rv,pl,hz⟩:=I1.tuple h1
   refine wpAny_pyIter_tuple (show s1.heap.IsTuple p its.toArray from pl) ?_
   refine⟨s1.heap.objs.size,[s1.heap.objs.size],_,_,H1,rfl,I1.kept (t':=s1.toks) fun b o e=>Heap.get?_push_of_some _ e,zce p _,⟨_,Heap.get?_push_size _ rfl,rfl,rfl⟩,fun b hb=>?_,k _ H1 sm (by rw[←h2.length];exact hz) (zhA h1 h2)⟩
   have e:b=s1.heap.objs.size:=by simpa using hb
   subst e
   exact I1.fpOk (Nat.le_refl _) (I1.hok.fresh (Nat.le_refl _))
def z4P(i:Int):Bool:=decide (-1000000≤i)&&decide (i≤1000000)
theorem rngOk_{i:Int}(h:z4P i=true): -1000000≤i∧i≤1000000:=by
 unfold z4P at h
 rw[Bool.and_eq_true]at h
 exact⟨of_decide_eq_true h.1,of_decide_eq_true h.2⟩
def z0A(F:FE):FI:=fun ρ=>(F ρ).bind fun x=>(intD x.2).bind fun j=>if z4P j then some (z35 0 j.toNat) else none
theorem zcq{lo:Int}{n:Nat}:(z35 lo n).length=n:=by unfold z35;simp
theorem zaa{d:Dt}{i:Int}(h:intD d=some i):d = .int i:=by
 cases d<;>first|cases h|skip
 rfl
theorem z2G{p:Pos}(hg:Gl X "range")(hm:X.mg "range" = none)(ha:PF X a Fa)(hs:starEach [a] X.env=[(false,eval a X.env)]:=by rfl):PFI X tg (.Call (.Name "range" p) [a] [] pos) (z0A Fa) :=
 (zgp hg hm (z7g ha zch hs) hs).imp fun σ H R hZ=>hZ.elim fun ρ hZ=>hZ.elim fun items hZ=>hZ.elim fun rs hZ=>hZ.elim fun e0 k=>by
  obtain⟨⟨f,d⟩,e1,e2⟩:=z04 e0
  obtain⟨j,e3,e4⟩:=z04 e2
  clear e0 e2
  have ed:=zaa e3
  cases (show d = .int j from ed)
  split at e4
  · rename_i hr
    cases e4
    obtain⟨h1,h2⟩:=rngOk_ hr
    refine⟨ρ,f,_,rs,e1,fun v H1 s1 r1=>⟨j,by rw[Rp.int_.mp r1.sh],by omega,by omega,k _ H1 s1 ?_ zcp⟩⟩
    rw[zcq]
    have:sizeLine=16777216:=rfl
    omega
  · cases e4
end
inductive Tg where
 | one (i:Nat)|many (is:List Nat)
def z1X:List Nat→TGs
 | []=>gNil
 | i::is=>gCons (z7u i) (z1X is)
def Tg.low(K:PySem.W.Frag):Tg→TG
 | .one i=>z7u i
 | .many is=>gTup K is.length (z1X is)
def z24:Rho→List Nat→List Dt→Rho
 | ρ,i::is,d::ds=>z24 (ρ.set i (.sh false d)) is ds
 | ρ,_,_=>ρ
def Tg.put:Tg→Dt→Rho→Option Rho
 | .one i,d,ρ=>some (ρ.set i (.sh false d))
 | .many is,.tup ds,ρ=>if ds.length=is.length then some (z24 ρ is ds) else none
 | .many _,_,_=>none
def Tg.below(nt:Nat):Tg→Prop
 | .one i=>i<nt
 | .many is=>∀ i∈is,i<nt
def KeepS(nt:Nat)(σ σ':St):Prop:=σ'.length=σ.length∧∀ i,nt≤i→σ'[i]?=σ[i]?
theorem KeepS.refl{nt:Nat}{σ:St}:KeepS nt σ σ:=⟨rfl,fun _ _=>rfl⟩
theorem KeepS.set{nt i:Nat}{σ:St}{v:V}(h:i<nt):KeepS nt σ (σ.set i (some v)):=⟨List.length_set,fun j hj=>List.getElem?_set_ne (by omega)⟩
theorem KeepS.trans{nt:Nat}{a b c:St}(h:KeepS nt a b)(k:KeepS nt b c):KeepS nt a c:=⟨k.1.trans h.1,fun i hi=>(k.2 i hi).trans (h.2 i hi)⟩
theorem z6K:∀{is:List Nat} {vs:List V} {σ:St} {H:Hp} {Q Q':St→Hp→Prop},z1X is vs σ H Q→(∀ σ H,Q σ H→Q' σ H)→z1X is vs σ H Q':=by
 intro is
 induction is with
 | nil=>intro vs σ H Q Q' ⟨e,q⟩ k;exact⟨e,k _ _ q⟩
 | cons j js ih=>intro vs σ H Q Q' ⟨v,r,e,q⟩ k;exact⟨v,r,e,ih q k⟩
theorem z95{nt:Nat}:∀{is:List Nat} {vs:List V} {σ:St} {H:Hp} {Q:St→Hp→Prop},(∀ i∈is,i<nt)→z1X is vs σ H Q→z1X is vs σ H fun σ2 H2=>KeepS nt σ σ2∧Q σ2 H2
 | [],vs,σ,H,Q,_,⟨e,q⟩=>⟨e,KeepS.refl,q⟩
 | i::is,vs,σ,H,Q,hi,⟨v,r,e,q⟩=>by
  refine⟨v,r,e,?_⟩
  have q:z1X is r (σ.set i (some v)) H Q:=q
  have z:=z95 (nt:=nt) (fun j hj=>hi j (List.mem_cons_of_mem _ hj)) q
  show z1X is r (σ.set i (some v)) H _
  exact z6K z fun σ2 H2 hZ=>hZ.elim fun k1 k2=>⟨(KeepS.set (hi i List.mem_cons_self)).trans k1,k2⟩
theorem Tg.ok{K:PySem.W.Frag}{nt:Nat}{g:Tg}(h:g.below nt):TgOk nt (g.low K):=by
 intro x σ H Q q
 cases g with
 | one i=>exact⟨KeepS.set h,q⟩
 | many is =>
  obtain⟨a,xs,e,hq,hl,q⟩:=q
  exact⟨a,xs,e,hq,hl,z95 h q⟩
theorem Tg.low_mono{K:PySem.W.Frag}{g:Tg}{v:V}{σ:St}{H:Hp}{Q Q':St→Hp→Prop}(h:g.low K v σ H Q)(k:∀ σ H,Q σ H→Q' σ H):g.low K v σ H Q':=by
 cases g with
 | one i=>exact k _ _ h
 | many is =>
  obtain⟨a,xs,e,hq,hl,q⟩:=h
  exact⟨a,xs,e,hq,hl,z6K q k⟩
section
variable {Y:Ky}{H H':Hp}{ρ:Rho}{σ:St}
theorem RepS.set(h:RepS Y H ρ σ){i:Nat}{f:Bool}{d:Dt}{v:V}(r:Rp Y.K (bsOf Y f) d H v):RepS Y H (ρ.set i (.sh f d)) (σ.set i (some v)):=by
 refine⟨by rw[List.length_set,List.length_set];exact h.len,h.base,fun j c q=>?_⟩
 by_cases e:i=j
 · subst e
   rw[List.getElem?_set]at q ⊢
   rw[if_pos rfl]at q ⊢
   split at q
   · rename_i hl
     cases q
     rw[if_pos (by rw[←h.len];exact hl)]
     exact⟨_,rfl,v,rfl,r⟩
   · cases q
 · rw[List.getElem?_set_ne e]at q ⊢
   exact h.at_ j c q
theorem z7I{Hh:Hp}{ρ':Rho}:∀{is:List Nat} {ds:List Dt} {vs:List V} {ρ:Rho} {σ:St},RepS Y Hh ρ σ→Rps Y.K emp ds Hh vs→ds.length=is.length→z24 ρ is ds=ρ' →
  z1X is vs σ H fun σ' H'=>H'=H∧RepS Y Hh ρ' σ'
 | [],[],vs,ρ,σ,rs,r,hl,q=>⟨Rps.nil_.mp r,rfl,by rw[←q];exact rs⟩
 | [],d::ds,vs,ρ,σ,rs,r,hl,q=>by cases hl
 | i::is,[],vs,ρ,σ,rs,r,hl,q=>by cases hl
 | i::is,d::ds,vs,ρ,σ,rs,r,hl,q=>by
  obtain⟨v,r',rfl,h1,h2⟩:=Rps.cons_.mp r
  exact⟨v,r',rfl,z7I (rs.set (f:=false) h1) h2 (by simpa using hl) q⟩
theorem Tg.sim{Hh:Hp}{g:Tg}{d:Dt}{v:V}{ρ':Rho}(sm:Same Hh H)(rs:RepS Y Hh ρ σ)(r:Rp Y.K emp d Hh v)(h:g.put d ρ=some ρ'):
  g.low Y.K v σ H fun σ' H'=>H'=H∧RepS Y Hh ρ' σ':=by
 cases g with
 | one i=>cases h;exact⟨rfl,rs.set (f:=false) r⟩
 | many is =>
  cases d<;>first|cases h|skip
  rename_i ds
  replace h:(if ds.length=is.length then some (z24 ρ is ds) else none)=some ρ':=h
  split at h
  · rename_i hl
    obtain⟨a,vs,rfl,h1,h2⟩:=Rp.tup_.mp r
    exact⟨a,vs,rfl,sm.seqT h1,by rw[h2.length];exact hl,z7I rs h2 hl (Option.some.inj h)⟩
  · cases h
end
section
variable {X:Cx}{pos:Pos}
theorem z1i{i:Nat}{x:Str}(hN:X.N.Nodup)(hi:X.N[i]?=some x)(hx:Loc X.env.scope x)(hf:X.fn x=true∨X.env.scope.names.lookup x=some .local):PG X (.Name x pos) ((Tg.one i).low X.K):=z1q hN hi hx hf
theorem z69:PGs X [] (z1X []):=zkI
theorem z1L{e:Expr}{es:List Expr}{i:Nat}{is:List Nat}(h1:PG X e (z7u i))(h2:PGs X es (z1X is))(hs:(assignEach (e::es) X.env).map (·.2)=assign e X.env::(assignEach es X.env).map (·.2):=by rfl):PGs X (e::es) (z1X (i::is)):=zhc h1 h2 hs
theorem z6a{es:List Expr}{k:Nat}{is:List Nat}(hc:X.calm=true)(h:PGs X es (z1X is))(hn:(assignEach es X.env).length=is.length:=by rfl)(hst:(assignEach es X.env).findIdx? (·.1)=none:=by rfl):PG X (.Tuple es k pos) ((Tg.many is).low X.K):=pg_tup hc h hn hst
end
def z41(g:Tg)(Fc:FT)(Fe:FE)(ρ0:Rho):List Dt→Option (List Dv)
 | []=>some []
 | x::xs=>(g.put x ρ0).bind fun ρ1=>(Fc ρ1).bind fun b=>if b then(Fe ρ1).bind fun v=>(z41 g Fc Fe ρ0 xs).bind fun r=>some (v::r) else z41 g Fc Fe ρ0 xs
def z5o:Cell→Cell
 | .no => .no
 | .ex => .no
 | .sh _ d => .sh false d
 | .ow _ ds => .sh false (.lst ds)
def sigD(nt:Nat)(js:List Nat)(ρ:Rho):Rho:=List.replicate nt Cell.no++js.map fun j=>match ρ[j]? with|some c=>z5o c|none => .no
def z0k(nt:Nat)(js:List Nat)(Fi:FI)(g:Tg)(Fc:FT)(Fe:FE):FE:=fun ρ=>(Fi ρ).bind fun items=>(z41 g Fc Fe (sigD nt js ρ) items).bind fun vs=>some (if z2F vs then .nw else .tn,.lst (sndL vs))
theorem z6b{g:Tg}{Fc:FT}{Fe:FE}{ρ0:Rho}:∀{xs:List Dt} {vs:List Dv},z41 g Fc Fe ρ0 xs=some vs→vs.length≤xs.length
 | [],vs,h=>by cases h;exact Nat.le_refl _
 | x::xs,vs,h=>by
  unfold z41 at h
  obtain⟨ρ1,_,h⟩:=z04 h
  obtain⟨b,_,h⟩:=z04 h
  split at h
  · obtain⟨v,_,h⟩:=z04 h
    obtain⟨r,h1,h⟩:=z04 h
    cases h
    have:=z6b h1
    rw[List.length_cons,List.length_cons];omega
  · have:=z6b h
    rw[List.length_cons];omega
def PFTs(X:Cx)(ifs:List Expr)(F:FT):Prop:=PTs X ifs (upB X F)
def fYes:FT:=fun _=>some true
theorem z1a{X:Cx}:PFTs X [] fYes:=fun pins s σ H Q I hZ=>hZ.elim fun ρ hZ=>hZ.elim fun b hZ=>hZ.elim fun rs hZ=>hZ.elim fun e k=>by cases e;exact zkV pins s σ H Q I (k H (Same.refl H))
theorem zhB{X:Cx}{c:Expr}{F:FT}(h:PFT X c F):PFTs X [c] F:=zkW h
theorem RpC.shS{Y:Ky}{H H1:Hp}{c:Cell}{o:Option V}(h:RpC Y H c o):RpC ⟨Y.K,H1⟩ H (z5o c) o:=by
 cases c with
 | no=>trivial
 | ex=>trivial
 | sh f d=>obtain⟨v,q,r⟩:=h;exact⟨v,q,Rp.anti Same.emp d r⟩
 | ow f ds=>obtain⟨v,q,r⟩:=h;exact⟨v,q,Rp.anti Same.emp _ r⟩
theorem RepS.sigs{Y:Ky}{H H1:Hp}{ρ:Rho}{σ:St}{nt:Nat}{js:List Nat}(h:RepS Y H ρ σ)(hj:∀ j∈js,j<σ.length)(h1:Same H1 H):RepS ⟨Y.K,H1⟩ H (sigD nt js ρ) (sig nt js σ):=by
 unfold sigD sig
 refine⟨by simp,h1,fun i c q=>?_⟩
 by_cases hi:i<nt
 · rw[List.getElem?_append_left (by simpa using hi),List.getElem?_replicate,if_pos hi]at q
   cases q
   exact⟨none,by rw[List.getElem?_append_left (by simpa using hi),List.getElem?_replicate,if_pos hi],trivial⟩
 · rw[List.getElem?_append_right (by simp;omega),List.length_replicate,List.getElem?_map]at q
   rw[List.getElem?_append_right (by simp;omega),List.length_replicate,List.getElem?_map]
   cases ej:js[i-nt]? with
   | none=>rw[ej]at q;cases q
   | some j =>
    rw[ej]at q
    have hlt:=hj j (List.mem_of_getElem? ej)
    have hlt':j<ρ.length:=by rw[h.len];exact hlt
    rw[Option.map_some,List.getElem?_eq_getElem hlt']at q
    cases q
    obtain⟨o,e1,e2⟩:=h.at_ j _ (List.getElem?_eq_getElem hlt')
    refine⟨o,?_,e2.shS⟩
    rw[Option.map_some,e1];rfl
def frE(t:Hp→TE)(H1:Hp):TE:=fun σ H Q=>∃ A:List Addr,(∀ a∈A,(∃ vs,H a=some (.lst vs))∧H1 a=none)∧t H1 σ (hidL A H) fun v H'=>(∀ a∈A,H' a=none)→Q v (z14 A H H')
def frT(t:Hp→TT)(H1:Hp):TT:=fun σ H Q=>∃ A:List Addr,(∀ a∈A,(∃ vs,H a=some (.lst vs))∧H1 a=none)∧t H1 σ (hidL A H) fun v H'=>(∀ a∈A,H' a=none)→Q v (z14 A H H')
theorem PTs.frame{Y:Cx}{ifs:List Expr}{t:Hp→TT}(h:PTs Y ifs (t Y.H₀)):PTs Y ifs (frT t Y.H₀):=by
 intro pins s σ H Q I ⟨A,hA,z⟩
 refine thn (h _ s σ _ _ (I.hide hA) z) ?_
 rintro u s' ⟨H',J,q⟩
 obtain⟨hn,J'⟩:=I.unhide hA J
 exact⟨_,J',q hn⟩
theorem zab{D:Addr}{H:Hp}{o:HO}:hidL [D] (upd H D o)=hidL [D] H:=funext fun b=>by
 by_cases q:b=D
 · subst q;rw[z2i (by simp),z2i (by simp)]
 · rw[z0p (by simpa using q),z0p (by simpa using q),z0u q]
theorem zhC{D:Addr}{H:Hp}(h:H D=none):hidL [D] H=H:=funext fun b=>by
 by_cases q:b=D
 · subst q;rw[z2i (by simp),h]
 · rw[z0p (by simpa using q)]
section
variable {X:Cx}{N:List Str}{scope:Scope}{nt:Nat}{js:List Nat}{tg elt iter:Expr}{ifs:List Expr}{Fi:FI}{g:Tg}{Fc:FT}{Fe:FE}{pos:Pos}
theorem RpFs.append{Y:Ky}{H H':Hp}:∀{xs ys:List Dv} {vs ws:List V},RpFs Y H xs H' vs→RpFs Y H ys H' ws→RpFs Y H (xs++ys) H' (vs++ws)
 | [],ys,vs,ws,h,h'=>by rw[show vs=[]from h];exact h'
 | x::xs,ys,vs,ws,⟨v,r,e,h1,h2⟩,h'=>⟨v,r++ws,by rw[e];rfl,h1,RpFs.append h2 h'⟩
def RpE(Y:Ky)(x:Dv)(H':Hp)(v:V):Prop:=if x.1.isFr then Rp Y.K Y.H₀ x.2 H' v else Rp Y.K emp x.2 H' v
def RpEs(Y:Ky):List Dv→Hp→List V→Prop
 | [],_,vs=>vs=[]
 | x::xs,H',vs=>∃ v r,vs=v::r∧RpE Y x H' v∧RpEs Y xs H' r
theorem RpE.of{Y:Ky}{H H':Hp}{x:Dv}{v:V}(h0:Same Y.H₀ H)(h:RpF Y H x.1 x.2 H' v):RpE Y x H' v:=by
 unfold RpE
 by_cases q:x.1.isFr=true
 · rw[if_pos q];exact h.fr h0 q
 · rw[if_neg q];exact h.sh
theorem RpE.mono{Y:Ky}{H H':Hp}{x:Dv}{v:V}(h:RpE Y x H v)(s:Same H H'):RpE Y x H' v:=by
 unfold RpE at h ⊢
 by_cases q:x.1.isFr=true
 · rw[if_pos q]at h ⊢;exact Rp.mono _ s h
 · rw[if_neg q]at h ⊢;exact Rp.mono _ s h
theorem RpEs.mono{Y:Ky}{H H':Hp}(s:Same H H'):∀{xs:List Dv} {vs:List V},RpEs Y xs H vs→RpEs Y xs H' vs
 | [],vs,h=>h
 | x::xs,vs,⟨v,r,e,h1,h2⟩=>⟨v,r,e,h1.mono s,RpEs.mono s h2⟩
theorem RpEs.append{Y:Ky}{H':Hp}:∀{xs ys:List Dv} {vs ws:List V},RpEs Y xs H' vs→RpEs Y ys H' ws→RpEs Y (xs++ys) H' (vs++ws)
 | [],ys,vs,ws,h,h'=>by rw[show vs=[]from h];exact h'
 | x::xs,ys,vs,ws,⟨v,r,e,h1,h2⟩,h'=>⟨v,r++ws,by rw[e];rfl,h1,RpEs.append h2 h'⟩
theorem RpEs.length{Y:Ky}{H':Hp}:∀{xs:List Dv} {vs:List V},RpEs Y xs H' vs→vs.length=xs.length
 | [],vs,h=>by rw[show vs=[]from h];rfl
 | x::xs,vs,⟨v,r,e,_,h2⟩=>by rw[e,List.length_cons,List.length_cons,RpEs.length h2]
theorem RpEs.sh{Y:Ky}{H':Hp}:∀{xs:List Dv} {vs:List V},RpEs Y xs H' vs→Rps Y.K emp (sndL xs) H' vs
 | [],vs,h=>Rps.nil_.mpr h
 | x::xs,vs,⟨v,r,e,h1,h2⟩=>by
  refine Rps.cons_.mpr ⟨v,r,e,?_,RpEs.sh h2⟩
  unfold RpE at h1
  split at h1
  · exact Rp.anti Same.emp _ h1
  · exact h1
theorem RpEs.fr{Y:Ky}{H':Hp}:∀{xs:List Dv} {vs:List V},z2F xs=true→RpEs Y xs H' vs→Rps Y.K Y.H₀ (sndL xs) H' vs
 | [],vs,_,h=>Rps.nil_.mpr h
 | x::xs,vs,q,⟨v,r,e,h1,h2⟩=>by
  unfold z2F at q
  rw[Bool.and_eq_true]at q
  refine Rps.cons_.mpr ⟨v,r,e,?_,RpEs.fr q.2 h2⟩
  unfold RpE at h1
  rw[if_pos q.1]at h1
  exact h1
theorem zfH{σ:St}{H:Hp}{Q:VK}(hj:∀ j∈js,j<σ.length)(h:upF X (z0k nt js Fi g Fc Fe) σ H Q):
   zfA nt js (upI X Fi) (g.low X.K) (frT fun H1=>upBK ⟨X.K,H1⟩ Fc) (frE fun H1=>upK ⟨X.K,H1⟩ Fe) σ H Q:=by
 obtain⟨ρ,f,d,rs,e0,k⟩:=h
 obtain⟨items,ei,e1⟩:=z04 e0
 obtain⟨vs0,ec,e2⟩:=z04 e1
 cases e2
 clear e0 e1
 refine⟨ρ,items,rs,ei,fun J H1 sm hsz wk D hD=>?_⟩
 have nD:H D=none:=sm.free hD
 refine⟨fun i m ys H2=>m=items.length-i∧H2 D=some (.lst ys)∧Same H1 (hidL [D] H2)∧∃ ds rest,RpEs ⟨X.K,H1⟩ ds (hidL [D] H2) ys∧z41 g Fc Fe (sigD nt js ρ) (items.drop i)=some rest∧ds++rest=vs0,⟨_,rfl,z0S,?_,[],vs0,rfl,ec,rfl⟩,?_⟩
 · rw[zab,zhC hD];exact Same.refl _
 rintro i m ys H2 ⟨rfl,e2,s2,ds,rest,r2,c2,es⟩
 obtain⟨w1,w2⟩:=wk [D] H2 s2 (fun a ha=>by rw[List.mem_singleton.mp ha];exact⟨_,e2⟩)
 by_cases hlt:i<items.length
 · obtain⟨x,hx⟩:∃ x,items[i]?=some x:=⟨_,List.getElem?_eq_getElem hlt⟩
   have hdrop:items.drop i=x::items.drop (i+1):=by
     rw[List.drop_eq_getElem_cons hlt]
     rw[List.getElem?_eq_getElem hlt]at hx
     cases hx;rfl
   rw[hdrop]at c2
   unfold z41 at c2
   obtain⟨ρ1,p1,c3⟩:=z04 c2
   obtain⟨b,p2,c4⟩:=z04 c3
   obtain⟨go,yl⟩:=w1 i x hx
   refine .inr ⟨go,fun xv H3 y3=>?_⟩
   obtain⟨s3,k3,r3⟩:=yl xv H3 y3
   have e3:H3 D=some (.lst ys):=by rw[k3 D (by simp)];exact e2
   have s13:Same H1 (hidL [D] H3):=s2.trans s3
   refine Tg.low_mono (Tg.sim (Y:=⟨X.K,H1⟩) (Hh:=hidL [D] H3) z0G ((rs.mono (sm.trans s13)).sigs hj s13) r3 p1) ?_
   rintro σ4 H4 ⟨eH,rs4⟩
   subst eH
   have own:∀{H':Hp},H' D=some (.lst ys)→∀ a∈[D],(∃ vs,H' a=some (.lst vs))∧H1 a=none:=fun{H'} z a ha=>by
     rw[List.mem_singleton.mp ha]
     exact⟨⟨ys,z⟩,hD⟩
   refine⟨[D],own e3,ρ1,b,rs4,p2,fun H5 s5 n5=>?_⟩
   have h5:hidL [D] (z14 [D] H4 H5)=H5:=z2E n5
   have e5:z14 [D] H4 H5 D=some (.lst ys):=by rw[z4x (by simp)];exact e3
   have m5:items.length-(i+1)<items.length-i:=by omega
   dsimp only
   cases b with
   | true =>
     rw[if_pos rfl]at c4 ⊢
     obtain⟨⟨fv,dv⟩,p3,c5⟩:=z04 c4
     obtain⟨rest',p4,c6⟩:=z04 c5
     cases c6
     have rs5:RepS ⟨X.K,H1⟩ H5 ρ1 σ4:=rs4.mono s5
     refine⟨[D],own e5,ρ1,fv,dv,by rw[h5];exact rs5,p3,fun v H6 s6 r6 n6=>?_⟩
     rw[h5]at s6 r6
     have h6:hidL [D] (z14 [D] (z14 [D] H4 H5) H6)=H6:=z2E n6
     have r2':RpEs ⟨X.K,H1⟩ ds H6 ys:=r2.mono (s3.trans (s5.trans s6))
     have hlen:ys.length<sizeLine:=by
       have a1:=z6b ec
       have a2:=r2.length
       rw[←es,List.length_append,List.length_cons]at a1
       omega
     refine⟨by rw[z4x (by simp)];exact e5,hlen,_,m5,rfl,z0S,?_,ds++[(fv,dv)],rest',?_,p4,by rw[List.append_assoc];exact es⟩
     · rw[zab,h6];exact s13.trans (s5.trans s6)
     · rw[zab,h6];exact r2'.append ⟨v,[],rfl,RpE.of rs5.base r6,rfl⟩
   | false =>
     rw[if_neg Bool.false_ne_true]at c4 ⊢
     refine⟨_,m5,rfl,e5,?_,ds,rest,?_,c4,es⟩
     · rw[h5];exact s13.trans s5
     · rw[h5];exact r2.mono (s3.trans s5)
 · have hd:items.drop i=[]:=List.drop_of_length_le (by omega)
   rw[hd]at c2
   cases c2
   rw[List.append_nil]at es
   subst es
   refine .inl ⟨w2 i (by omega),k _ H2 (sm.trans (s2.trans z0G)) ?_⟩
   by_cases q:z2F ds=true
   · rw[if_pos q]
     exact(Rp.lst_ (K:=X.K) (B:=H)).mpr ⟨D,ys,rfl,nD,e2,Rps.anti (show Same H H1 from sm) _ (r2.fr q)⟩
   · rw[if_neg q]
     exact⟨Rp.lst_.mpr ⟨D,ys,rfl,rfl,e2,r2.sh⟩,⟨_,rfl⟩,fun a e=>by cases e;exact nD⟩
theorem z1C(S:CompScope X N scope nt js)(hc:X.calm=true)(hi:PFI X tg iter Fi)(hg:∀ cl C fp s H,PG (z0V X N scope cl C fp s H) tg (g.low X.K))(hb:g.below nt)
  (hcs:∀ cl C fp s H,PFTs (z0V X N scope cl C fp s H) ifs Fc) (he:∀ cl C fp s H,PF (z0V X N scope cl C fp s H) elt Fe) (hj:∀ j∈js,j<X.N.length)
  (hs:∀ x,foldedSetIterable iter X.env x=pure x:=by intro _;rfl):PF X (.ListComp elt [⟨tg,iter,ifs,0⟩] scope pos) (z0k nt js Fi g Fc Fe):=by
 intro pins s σ H Q I h
 exact zkX S hc hi hg (Tg.ok hb) (fun cl C fp s H=>PTs.frame (t:=fun H1=>upBK ⟨X.K,H1⟩ Fc) (hcs cl C fp s H)) (fun cl C fp s H=>PE.frame (he cl C fp s H)) hs pins s σ H Q I (zfH (fun j z=>by rw[I.len];exact hj j z) h)
end
end L2

end
section
set_option Elab.async false
set_option linter.all false
set_option maxRecDepth 100000
namespace L2
open PySem PySem.Spec PySem.W PyProof.Rows
def Fly(h0:Heap)(H:Hp)(e C:Addr)(h:Heap):Prop :=
 h0.get? e=none∧H e=none∧∃ oe vs T oT ts a0,h.get? e=some oe∧oe.cls = .ref C∧vs[0]?=some a0∧oe.data = .fields vs∧vs[1]?=some (.ref T)∧h0.get? T=none∧H T=none∧T≠e∧h.get? T=some oT∧oT.data = .fields ts∧ts[3]?=some .none
theorem zl7{l:List Env}{env:Env}{a:Addr}(h:env∈l)(e:env.frame=some a):a∈frs l:=List.mem_filterMap.mpr ⟨env,h,e⟩
theorem UpToSlots.trans{h h1 h2:Heap}(a:h.UpToSlots h1)(b:h1.UpToSlots h2):h.UpToSlots h2:=fun c o e n=>by
 obtain⟨sl,e1⟩:=a c o e n
 obtain⟨sl2,e2⟩:=b c _ e1 n
 exact⟨sl2,e2⟩
section
variable {P:Program}{w:World}{fs ex:List Addr}{H0 H:Hp}{h0 h h':Heap}{l:List Env}{bas:Heap}{e C:Addr}
theorem un_fly(u:Un fs ex H0 H h0 h)(k:∀ b o o',h0.get? b=some o→h.get? b=some o'→b ∉ frs l→h'.get? b=some o')(sl:∀ b∈frs l,∀ o,h.get? b=some o→∃ z,h'.get? b=some { o with slots:=z })
  (hf:∀ b∈frs l,b∈fs∨h0.get? b=none):Un fs ex H0 H h0 h' where
 keep:=fun b o q n hb hx=>k b o o q (u.keep b o q n hb hx) fun z=>(hf b z).elim hb fun e=>by rw[e]at q;cases q
 slot:=fun b o q n hb hx=>by
  obtain⟨z,e⟩:=u.slot b o q n hb hx
  by_cases m:b∈frs l
  · obtain⟨z',e'⟩:=sl b m _ e
    exact⟨z',e'⟩
  · exact⟨z,k b o _ q e m⟩
 free:=u.free
 there:=fun b o q hx=>by
  obtain⟨o',e⟩:=u.there b o q hx
  by_cases m:b∈frs l
  · obtain⟨z',e'⟩:=sl b m _ e
    exact⟨_,e'⟩
  · exact⟨_,k b o _ q e m⟩
 tups:=u.tups
 frzs:=u.frzs
 tbls:=u.tbls
theorem ObjOk.obj{a:Addr}{o:HO}(x:ObjOk P w H h a o):∃ ob,h.get? a=some ob:=by
 cases o with
 | lst xs=>obtain⟨_,_,_,_,e⟩:=x;exact⟨_,e⟩
 | tup xs=>obtain⟨_,_,_,_,e,_⟩:=x;exact⟨_,e⟩
 | dK kvs=>obtain⟨_,_,_,_,o,_,_,e,_⟩:=x;exact⟨_,e⟩
 | dT kvs=>obtain⟨_,_,_,_,o,_,_,e,_⟩:=x;exact⟨_,e⟩
 | set S n=>obtain⟨o,_,_,_,e,_⟩:=x;exact⟨_,e⟩
 | ins C dx fs=>obtain⟨_,_,_,e,_⟩:=x;exact⟨_,e⟩
 | own y=>obtain⟨_,e⟩:=x;exact⟨_,e⟩
 | xd fs=>obtain⟨_,⟨_,_,_,e,_⟩,_⟩:=x;exact⟨_,e⟩
 | rng lo hi=>obtain⟨_,_,_,e⟩:=x;exact⟨_,e⟩
 | frz ob u=>obtain⟨e,_⟩:=x;exact⟨_,e⟩
 | tbl ps=>exact⟨_,show h.get? a=some _ from x⟩
 | met f y=>exact⟨_,show h.get? a=some _ from x⟩
 | ext φ=>obtain⟨_,⟨_,e⟩,_⟩:=x;exact⟨_,e⟩
theorem zl8(hok:HOk P w H h)(k:∀ b o,H b≠none→h.get? b=some o→h'.get? b=some o):HOk P w H h':=fun b ob e =>
 (hok b ob e).stay (fun c v hc q=>k c v (by
  rcases hc with rfl|hc
  · rw[e];exact fun z=>nomatch z
  · rw[hc];exact fun z=>nomatch z) q) (fun _ q=>q) fun _ _ q=>q
theorem Fly.base(f:Fly h0 H e C h)(ff:h.FunFrames bas l):∃ T a0,h0.get? T=none∧H T=none∧(hideAll h (e::T::frs l)).FlyingW l e (.ref C) a0 h:=by
 obtain⟨n,n2,oe,vs,T,oT,ts,a0,q1,q2,q3,q4,q5,q6,q7,q8,q9,q10,q11⟩:=f
 refine⟨T,a0,q6,q7,fun b o z=>of_hideAll _ z,hideAll_none _ (by simp),funFrames_hide ff fun env he a ea=>by simp[zl7 he ea],oe,vs,T,oT,ts,q1,⟨q2,q3⟩,q4,q5,hideAll_none _ (by simp),q8,q9,q10,q11⟩
theorem Fly.step{T:Addr}{l':List Env}{a0:Value}(n:h0.get? e=none)(n2:H e=none)(n3:h0.get? T=none)(n4:H T=none)(ff:h.FunFrames bas l)(st:∀ b∈frs l,H b=none)(hok:HOk P w H h)(u:Un fs ex H0 H h0 h)
   (f:(hideAll h (e::T::frs l)).FlyingW l' e (.ref C) a0 h') (us:h.UpToSlots h') (hf:∀ b∈frs l,b∈fs∨h0.get? b=none) (hx:∀ b o,h0.get? b=some o→b ∉ ex):Fly h0 H e C h'∧HOk P w H h'∧Un fs ex H0 H h0 h':=by
 have sl:∀ b∈frs l,∀ o,h.get? b=some o→∃ z,h'.get? b=some { o with slots:=z }:=fun b hb o q=>by
   obtain⟨_,o',q',nf⟩:=ff.mem hb
   rw[q]at q';cases q'
   exact us b o q nf
 have k:∀ b o,h.get? b=some o→b ∉ (e::T::frs l)→h'.get? b=some o:=fun b o q m=>f.1 b o (hideAll_get _ q m)
 obtain⟨s1,s2,s3,oe,vs,T',oT,ts,q1,⟨q2,q3⟩,q4,q5,q6,q7,q8,q9,q10⟩:=f
 have hT:T'=T∨h.get? T'=none:=by
   by_cases m:T'∈(e::T::frs l)
   · rcases List.mem_cons.mp m with z|m
     · exact absurd z q7
     · rcases List.mem_cons.mp m with z|m
       · exact .inl z
       · obtain⟨_,o,e1,nf⟩:=ff.mem m
         obtain⟨z,e2⟩:=sl T' m o e1
         rw[q8]at e2
         cases e2
         exact absurd q9 (nf ts)
   · refine .inr ?_
     cases z:h.get? T' with
     | none=>rfl
     | some o=>rw[hideAll_get _ z m]at q6;cases q6
 refine⟨⟨n,n2,oe,vs,T',oT,ts,a0,q1,q2,q3,q4,q5,?_,?_,q7,q8,q9,q10⟩,zl8 hok fun b o hb q=>k b o q fun m=>?_,un_fly u (fun b o o' q q' m=>k b o' q' fun z=>?_) sl hf⟩
 · rcases hT with z|z
   · rw[z];exact n3
   · cases y:h0.get? T' with
     | none=>rfl
     | some o=>obtain⟨o',e'⟩:=u.there T' o y (hx T' o y);rw[z]at e';cases e'
 · rcases hT with z|z
   · rw[z];exact n4
   · cases y:H T' with
     | none=>rfl
     | some o =>
       obtain⟨ob,q⟩:=(hok T' o y).obj
       rw[z]at q;cases q
 · rcases List.mem_cons.mp m with z|m
   · exact hb (z ▸ n2)
   · rcases List.mem_cons.mp m with z|m
     · exact hb (z ▸ n4)
     · exact hb (st b m)
 · rcases List.mem_cons.mp z with z|z
   · rw[z,n]at q;cases q
   · rcases List.mem_cons.mp z with z|z
     · rw[z,n3]at q;cases q
     · exact m z
end
def CX1(P:Program)(w:World):CXT:=fun outer H s E e s' =>
 ∃ ea C H',e = .ref ea∧s'.os=s.os∧AllBare s'.gens∧Un (frs outer) [] H H' s.heap s'.heap∧HOk P w H' s'.heap∧Fly s.heap H' ea C s'.heap∧E (.ref C) none H'
section
variable {P:Program}{w:World}{K:PySem.W.Frag}{mg:Str→Option Value}{base:Heap}{N:List Str}{qual:Str}{scope:Scope}{f:Addr}{cd:Value}{A:Around}{outer:List Env}{s₀:Shared}{H₀:Hp}{E:XK}
end
def exN:Nat→Str
 | 0 => "HallError"
 | 1 => "NoHall"
 | 2 => "NoBasket"
 | 3 => "NoPlace"
 | 4 => "NoText"
 | 5 => "Unlike"
 | 6 => "TooMany"
 | _ => "NotWithin"
def XOk(X:Cx)(H₀:Hp)(C:Addr):Prop:=∃ E:XK,(∀ H,Same H₀ H→E (.ref C) none H)∧za4 (CX1 X.prog X.w) X E ∧
 ∀(pins:List (Addr×Obj)) (σ:St) (H:Hp) (s s':Shared) (ea:Addr) (args:List Value),Inv X pins σ H s→s.heap.MadeExcOf s'.heap ea (.ref C) args→s'.os=s.os→s'.gens=s.gens→E (.ref C) none H→X.xe (.ref ea) s'
theorem XOk.base{X:Cx}{H₀ H1:Hp}{C:Addr}(h:XOk X H₀ C)(s:Same H₀ H1):XOk X H1 C:=by
 obtain⟨E,a,b,c⟩:=h
 exact⟨E,fun H z=>a H (s.trans z),b,c⟩
end L2

end
section
local macro_rules|`(tactic| omega)=>`(tactic| first|lia|omega +splitDisjunctions)
set_option Elab.async false
set_option linter.all false
set_option maxRecDepth 100000
namespace L2
open PySem PySem.Spec PyProof.Rows
abbrev Own:=List (Nat×Addr)
abbrev Own.adr(O:Own):List Addr:=O.map (·.2)
def CellB(X:Cx)(H:Hp)(O:Own)(i:Nat):Cell→Option V→Prop
 | .no,_=>True
 | .ex,o=>∃ a φ,o=some (.ref a)∧hidL O.adr H a=some (.ext φ)∧∀ h,φ h→ExcAt X.K a h
 | .sh f d,o=>∃ v,o=some v∧Rp X.K (bsOf X.ky f) d (hidL O.adr H) v
 | .ow f ds,o=>∃ a vs,(i,a)∈O∧o=some (.ref a)∧H a=some (.lst vs)∧Rps X.K (bsOf X.ky f) ds (hidL O.adr H) vs
structure RepO(X:Cx)(H₀ H:Hp)(O:Own)(ρ:Rho)(σ:St):Prop where
 ndA:O.adr.Nodup
 ndI:(O.map (·.1)).Nodup
 own:OwnL X O.adr H
 len:ρ.length=σ.length
 b0:Same X.H₀ H₀
 same:Same H₀ (hidL O.adr H)
 at_:∀(i:Nat) (c:Cell),ρ[i]?=some c→∃ o,σ[i]?=some o∧CellB X H O i c o
def RepB(X:Cx)(H₀ H:Hp)(ρ:Rho)(σ:St):Prop:=∃ O,RepO X H₀ H O ρ σ
def z2H:Cell→Cell
 | .ow _ _ => .no
 | c=>c
def z1l:Rho→Rho
 | []=>[]
 | c::ρ=>z2H c::z1l ρ
theorem z96:∀ ρ:Rho,z1l ρ=ρ.map z2H
 | []=>rfl
 | c::ρ=>by rw[z1l,z96 ρ,List.map_cons]
section
variable {X:Cx}{H₀ H H':Hp}{O:Own}{ρ:Rho}{σ:St}
theorem RepO.mono(h:RepO X H₀ H O ρ σ)(sm:Same H H'):RepO X H₀ H' O ρ σ:=by
 refine⟨h.ndA,h.ndI,fun a ha=>?_,h.len,h.b0,h.same.trans (z1s sm),fun i c e=>?_⟩
 · obtain⟨⟨vs,q⟩,z⟩:=h.own a ha
   exact⟨⟨vs,sm _ _ q⟩,z⟩
 · obtain⟨o,e1,e2⟩:=h.at_ i c e
   refine⟨o,e1,?_⟩
   cases c with
   | no=>trivial
   | ex=>obtain⟨a,φ,q,r,z⟩:=e2;exact⟨a,φ,q,z1s sm _ _ r,z⟩
   | sh f d=>obtain⟨v,q,r⟩:=e2;exact⟨v,q,Rp.mono _ (z1s sm) r⟩
   | ow f ds=>obtain⟨a,vs,q1,q2,q3,r⟩:=e2;exact⟨a,vs,q1,q2,sm _ _ q3,Rps.mono _ (z1s sm) r⟩
theorem RepO.base(h:RepO X H₀ H O ρ σ){H1:Hp}(sm:Same H1 H₀)(b:Same X.H₀ H1):RepO X H1 H O ρ σ:=⟨h.ndA,h.ndI,h.own,h.len,b,sm.trans h.same,h.at_⟩
theorem RepO.below(h:RepO X H₀ H O ρ σ):Same X.H₀ H:=h.b0.trans (h.same.trans z0G)
theorem RepO.bsFree(h:RepO X H₀ H O ρ σ){a:Addr}(ha:a∈O.adr)(f:Bool):bsOf X.ky f a=none:=by
 cases f with
 | false=>rfl
 | true=>exact(h.own a ha).2
theorem z3v{i:Nat}{a:Addr}(h:(i,a)∈O):a∈O.adr:=List.mem_map.mpr ⟨_,h,rfl⟩
theorem RepO.all(h:RepO X H₀ H O ρ σ):RepS X.ky H ρ σ:=by
 refine⟨h.len,h.below,fun i c e=>?_⟩
 obtain⟨o,e1,e2⟩:=h.at_ i c e
 refine⟨o,e1,?_⟩
 cases c with
 | no=>trivial
 | ex=>obtain⟨a,φ,q,r,z⟩:=e2;exact⟨a,φ,q,z0G _ _ r,z⟩
 | sh f d=>obtain⟨v,q,r⟩:=e2;exact⟨v,q,Rp.mono _ z0G r⟩
 | ow f ds =>
  obtain⟨a,vs,q1,q2,q3,r⟩:=e2
  exact⟨_,q2,Rp.lst_.mpr ⟨a,vs,rfl,h.bsFree (z3v q1) f,q3,Rps.mono _ (z3b fun b hb=>by rw[List.mem_singleton.mp hb];exact z3v q1) r⟩⟩
theorem RepO.rest(h:RepO X H₀ H O ρ σ):RepS X.ky (hidL O.adr H) (z1l ρ) σ:=by
 rw[z96]
 refine⟨by rw[List.length_map];exact h.len,h.b0.trans h.same,fun i c e=>?_⟩
 rw[List.getElem?_map]at e
 cases q:ρ[i]? with
 | none=>rw[q]at e;cases e
 | some c' =>
  rw[q]at e
  obtain⟨o,e1,e2⟩:=h.at_ i c' q
  refine⟨o,e1,?_⟩
  cases c' with
  | no=>cases e;trivial
  | ex=>cases e;exact e2
  | sh f d=>cases e;obtain⟨v,q,r⟩:=e2;exact⟨v,q,r⟩
  | ow f ds=>cases e;trivial
def z3f(O:Own)(i:Nat):Own:=O.filter fun p=>p.1 != i
theorem z25{p:Nat×Addr}{i:Nat}:p∈z3f O i↔p∈O∧p.1≠i:=by
 unfold z3f
 rw[List.mem_filter]
 simp
theorem z1t{i:Nat}:∀ a∈(z3f O i).adr,a∈O.adr:=fun a ha=>by
 obtain⟨p,hp,e⟩:=List.mem_map.mp ha
 exact List.mem_map.mpr ⟨p,(z25.mp hp).1,e⟩
theorem RepO.set(h:RepO X H₀ H O ρ σ){i:Nat}{f:Bool}{d:Dt}{v:V}(r:Rp X.K (bsOf X.ky f) d (hidL O.adr H) v):RepO X H₀ H (z3f O i) (ρ.set i (.sh f d)) (σ.set i (some v)):=by
 have sm:Same (hidL O.adr H) (hidL (z3f O i).adr H):=z3b z1t
 refine⟨h.ndA.sublist (List.Sublist.map _ (List.filter_sublist)),h.ndI.sublist (List.Sublist.map _ (List.filter_sublist)),fun a ha=>h.own a (z1t a ha),by rw[List.length_set,List.length_set];exact h.len,h.b0,h.same.trans sm,fun j c q=>?_⟩
 by_cases e:i=j
 · subst e
   rw[List.getElem?_set,if_pos rfl]at q
   rw[List.getElem?_set,if_pos rfl]
   split at q
   · rename_i hl
     cases q
     rw[if_pos (by rw[←h.len];exact hl)]
     exact⟨_,rfl,v,rfl,Rp.mono _ sm r⟩
   · cases q
 · rw[List.getElem?_set_ne e]at q ⊢
   obtain⟨o,e1,e2⟩:=h.at_ j c q
   refine⟨o,e1,?_⟩
   cases c with
   | no=>trivial
   | ex=>obtain⟨a,φ,q,r,z⟩:=e2;exact⟨a,φ,q,sm _ _ r,z⟩
   | sh f d=>obtain⟨v,q,r⟩:=e2;exact⟨v,q,Rp.mono _ sm r⟩
   | ow f ds=>obtain⟨a,vs,q1,q2,q3,r⟩:=e2;exact⟨a,vs,z25.mpr ⟨q1,fun z=>e z.symm⟩,q2,q3,Rps.mono _ sm r⟩
theorem z7J{D:Addr}{A:List Addr}{H:Hp}:hidL A (hidL [D] H)=hidL (D::A) H:=funext fun b=>by
 unfold hidL
 by_cases q1:b=D
 · subst q1;simp
 · by_cases q2:b∈A
   · simp[q1,q2]
   · simp[q1,q2]
theorem RepO.setNew(h:RepO X H₀ H' O ρ σ){i:Nat}{D:Addr}{f:Bool}{ds:List Dt}{vs:List V}(hi:i<ρ.length)(sm0:Same H' H)(hN:H' D=none)(hD:H D=some (.lst vs))(hn:D ∉ O.adr)(hX:X.H₀ D=none)
   (r:Rps X.K (bsOf X.ky f) ds (hidL (D::O.adr) H) vs):RepO X H₀ H ((i,D)::z3f O i) (ρ.set i (.ow f ds)) (σ.set i (some (.ref D))):=by
 have sub:∀ a∈(Own.adr ((i,D)::z3f O i)),a∈D::O.adr:=fun a ha=>by
   rcases List.mem_cons.mp ha with z|z
   · rw[z];exact List.mem_cons_self
   · exact List.mem_cons_of_mem _ (z1t a z)
 have sm:Same (hidL (D::O.adr) H) (hidL (Own.adr ((i,D)::z3f O i)) H):=z3b sub
 have sm1:Same H' (hidL [D] H):=fun b o e=>by
   rw[z0p (by rw[List.mem_singleton];rintro rfl;rw[hN]at e;cases e)];exact sm0 _ _ e
 have sm2:Same (hidL O.adr H') (hidL (D::O.adr) H):=by rw[←z7J];exact z1s sm1
 have nD:D ∉ (z3f O i).adr:=fun z=>hn (z1t D z)
 refine⟨List.nodup_cons.mpr ⟨nD,h.ndA.sublist (List.Sublist.map _ (List.filter_sublist))⟩,List.nodup_cons.mpr ⟨fun z=>?_,h.ndI.sublist (List.Sublist.map _ (List.filter_sublist))⟩,fun a ha=>?_,by rw[List.length_set,List.length_set];exact h.len,h.b0,h.same.trans (sm2.trans sm),fun j c q=>?_⟩
 · obtain⟨p,hp,e⟩:=List.mem_map.mp z
   exact(z25.mp hp).2 e
 · rcases List.mem_cons.mp ha with z|z
   · rw[z];exact⟨⟨vs,hD⟩,hX⟩
   · obtain⟨⟨ws,q⟩,z2⟩:=h.own a (z1t a z)
     exact⟨⟨ws,sm0 _ _ q⟩,z2⟩
 · by_cases e:i=j
   · subst e
     rw[List.getElem?_set,if_pos rfl,if_pos hi]at q
     rw[List.getElem?_set,if_pos rfl,if_pos (by rw[←h.len];exact hi)]
     cases q
     exact⟨_,rfl,D,vs,List.mem_cons_self,rfl,hD,Rps.mono _ sm r⟩
   · rw[List.getElem?_set_ne e]at q ⊢
     obtain⟨o,e1,e2⟩:=h.at_ j c q
     refine⟨o,e1,?_⟩
     cases c with
     | no=>trivial
     | ex=>obtain⟨a,φ,q,r,z⟩:=e2;exact⟨a,φ,q,(sm2.trans sm) _ _ r,z⟩
     | sh f d=>obtain⟨v,q,r⟩:=e2;exact⟨v,q,Rp.mono _ (sm2.trans sm) r⟩
     | ow f ds' =>
      obtain⟨a,vs',q1,q2,q3,r⟩:=e2
      exact⟨a,vs',List.mem_cons_of_mem _ (z25.mpr ⟨q1,fun z=>e z.symm⟩),q2,sm0 _ _ q3,Rps.mono _ (sm2.trans sm) r⟩
theorem zfI{O:Own}(nd:O.adr.Nodup):∀{p q:Nat×Addr},p∈O→q∈O→p.2=q.2→p=q:=by
 induction O with
 | nil=>intro p q hp;cases hp
 | cons o O ih =>
  intro p q hp hq e
  have nd:(o.2::O.map (·.2)).Nodup:=nd
  obtain⟨n1,n2⟩:=List.nodup_cons.mp nd
  rcases List.mem_cons.mp hp with hp|hp<;>rcases List.mem_cons.mp hq with hq|hq
  · rw[hp,hq]
  · exact absurd (List.mem_map.mpr ⟨q,hq,by rw[←e,hp]⟩) n1
  · exact absurd (List.mem_map.mpr ⟨p,hp,by rw[e,hq]⟩) n1
  · exact ih n2 hp hq e
theorem zl9{O:Own}(nd:(O.map (·.1)).Nodup):∀{p q:Nat×Addr},p∈O→q∈O→p.1=q.1→p=q:=by
 induction O with
 | nil=>intro p q hp;cases hp
 | cons o O ih =>
  intro p q hp hq e
  have nd:(o.1::O.map (·.1)).Nodup:=nd
  obtain⟨n1,n2⟩:=List.nodup_cons.mp nd
  rcases List.mem_cons.mp hp with hp|hp<;>rcases List.mem_cons.mp hq with hq|hq
  · rw[hp,hq]
  · exact absurd (List.mem_map.mpr ⟨q,hq,by rw[←e,hp]⟩) n1
  · exact absurd (List.mem_map.mpr ⟨p,hp,by rw[e,hq]⟩) n1
  · exact ih n2 hp hq e
theorem zcr{A:List Addr}{a:Addr}{o:HO}{H:Hp}(h:a∈A):hidL A (upd H a o)=hidL A H:=funext fun b=>by
 by_cases q:b∈A
 · rw[z2i q,z2i q]
 · rw[z0p q,z0p q,z0u fun z=>q (by rw[z];exact h)]
theorem RepO.upd(h:RepO X H₀ H O ρ σ){i:Nat}{a:Addr}{f g:Bool}{ds ds0:List Dt}{vs:List V}(hc:ρ[i]?=some (.ow g ds0))(hi:(i,a)∈O)(r:Rps X.K (bsOf X.ky f) ds (hidL O.adr H) vs):
   RepO X H₀ (upd H a (.lst vs)) O (ρ.set i (.ow f ds)) σ:=by
 have ha:a∈O.adr:=z3v hi
 have hh:hidL O.adr (L2.upd H a (.lst vs))=hidL O.adr H:=zcr ha
 have hlt:i<ρ.length:=by
   by_cases hlt:i<ρ.length
   · exact hlt
   · rw[List.getElem?_eq_none (by omega)]at hc;cases hc
 refine⟨h.ndA,h.ndI,fun b hb=>?_,by rw[List.length_set];exact h.len,h.b0,by rw[hh];exact h.same,fun j c q=>?_⟩
 · by_cases e:b=a
   · subst e;exact⟨⟨vs,z0S⟩,(h.own b hb).2⟩
   · rw[z0u e];exact h.own b hb
 · by_cases e:i=j
   · subst e
     rw[List.getElem?_set,if_pos rfl,if_pos hlt]at q
     cases q
     obtain⟨o,e1,a',vs',q1,q2,q3,r'⟩:=h.at_ i _ hc
     have e2:(i,a')=(i,a):=zl9 h.ndI q1 hi rfl
     cases e2
     exact⟨o,e1,a,vs,hi,q2,z0S,by rw[hh];exact r⟩
   · rw[List.getElem?_set_ne e]at q
     obtain⟨o,e1,e2⟩:=h.at_ j c q
     refine⟨o,e1,?_⟩
     cases c with
     | no=>trivial
     | ex=>obtain⟨b,φ,q,r,z⟩:=e2;exact⟨b,φ,q,by rw[hh];exact r,z⟩
     | sh f d=>obtain⟨v,q,r⟩:=e2;exact⟨v,q,by rw[hh];exact r⟩
     | ow f ds' =>
      obtain⟨b,vs',q1,q2,q3,r'⟩:=e2
      have hne:b≠a:=fun z=>by
       have:=zfI h.ndA q1 hi z
       exact e (congrArg Prod.fst this).symm
      exact⟨b,vs',q1,q2,by rw[z0u hne];exact q3,by rw[hh];exact r'⟩
def relC:Cell→Cell
 | .ow f ds => .sh f (.lst ds)
 | c=>c
def z97(ρ:Rho)(i:Nat):Rho:=match ρ[i]? with|some c=>ρ.set i (relC c)|none=>ρ
def relS:List Nat→Rho→Rho
 | [],ρ=>ρ
 | i::is,ρ=>relS is (z97 ρ i)
theorem RepO.rel(h:RepO X H₀ H O ρ σ)(i:Nat):RepO X H₀ H (z3f O i) (z97 ρ i) σ:=by
 have sm:Same (hidL O.adr H) (hidL (z3f O i).adr H):=z3b z1t
 have hl:(z97 ρ i).length=ρ.length:=by
  unfold z97
  split
  · exact List.length_set
  · rfl
 refine⟨h.ndA.sublist (List.Sublist.map _ (List.filter_sublist)),h.ndI.sublist (List.Sublist.map _ (List.filter_sublist)),fun a ha=>h.own a (z1t a ha),hl.trans h.len,h.b0,h.same.trans sm,fun j c q=>?_⟩
 have other:∀{c:Cell},ρ[j]?=some c→(∀ f ds,c = .ow f ds→j≠i)→∃ o,σ[j]?=some o∧CellB X H (z3f O i) j c o:=fun{c} q hne=>by
  obtain⟨o,e1,e2⟩:=h.at_ j c q
  refine⟨o,e1,?_⟩
  cases c with
  | no=>trivial
  | ex=>obtain⟨a,φ,q,r,z⟩:=e2;exact⟨a,φ,q,sm _ _ r,z⟩
  | sh f d=>obtain⟨v,q,r⟩:=e2;exact⟨v,q,Rp.mono _ sm r⟩
  | ow f ds=>obtain⟨a,vs,q1,q2,q3,r⟩:=e2;exact⟨a,vs,z25.mpr ⟨q1,hne f ds rfl⟩,q2,q3,Rps.mono _ sm r⟩
 unfold z97 at q
 cases e:ρ[i]? with
 | none =>
  rw[e]at q
  exact other q fun f ds _ z=>by rw[z,e]at q;cases q
 | some c' =>
  rw[e]at q
  dsimp only at q
  by_cases hij:i=j
  · subst hij
    have hlt:i<ρ.length:=by
     by_cases hlt:i<ρ.length
     · exact hlt
     · rw[List.getElem?_eq_none (by omega)]at e;cases e
    rw[List.getElem?_set,if_pos rfl,if_pos hlt]at q
    cases q
    cases c' with
    | no=>obtain⟨o,e1,e2⟩:=h.at_ i _ e;exact⟨o,e1,trivial⟩
    | ex=>exact other e fun f ds z=>by cases z
    | sh f d=>exact other e fun f ds z=>by cases z
    | ow f ds =>
     obtain⟨o,e1,a,vs,q1,q2,q3,r⟩:=h.at_ i _ e
     have hna:a ∉ (z3f O i).adr:=fun z=>by
       obtain⟨p,hp,ep⟩:=List.mem_map.mp z
       have:=zfI h.ndA (z25.mp hp).1 q1 ep
       exact(z25.mp hp).2 (by rw[this])
     refine⟨o,e1,.ref a,q2,Rp.lst_.mpr ⟨a,vs,rfl,h.bsFree (z3v q1) f,by rw[z0p hna];exact q3,Rps.mono _ ?_ r⟩⟩
     rw[z7z,z7J]
     refine z3b fun b hb=>?_
     rcases List.mem_cons.mp hb with z|z
     · rw[z];exact z3v q1
     · exact z1t b z
  · rw[List.getElem?_set_ne hij]at q
    exact other q fun f ds _ z=>hij z.symm
theorem RepO.rels(h:RepO X H₀ H O ρ σ):∀ is:List Nat,∃ O',RepO X H₀ H O' (relS is ρ) σ:=fun is=>by
 induction is generalizing O ρ with
 | nil=>exact⟨O,h⟩
 | cons i is ih=>exact ih (h.rel i)
end
inductive Oc where
 | nx (ρ:Rho)|rt (f:Fl) (d:Dt)|bk (ρ:Rho)|ct (ρ:Rho)|ex (n:Nat)
def OcOk(X:Cx)(H₀:Hp)(D:Ends):Oc→Prop
 | .nx ρ=>∀ σ H,RepB X H₀ H ρ σ→D.nx σ H
 | .rt f d=>∀ v H,Same H₀ H→Rp X.K (bsOf X.ky f.isFr) d H v→D.rt v H
 | .bk ρ=>∀ σ H,RepB X H₀ H ρ σ→D.bk σ H
 | .ct ρ=>∀ σ H,RepB X H₀ H ρ σ→D.ct σ H
 | .ex n=>∀ C,X.mg (exN n)=some (.ref C)→XOk X H₀ C
abbrev FS:=Rho→Option Oc
def upS(X:Cx)(F:FS):TS:=fun D σ H=>∃ H₀ ρ oc,RepB X H₀ H ρ σ∧F ρ=some oc∧OcOk X H₀ D oc
def PFS(X:Cx)(st:Stmt)(F:FS):Prop:=PS X st (upS X F)
def PFSs(X:Cx)(sts:List Stmt)(F:FS):Prop:=PSs X sts (upS X F)
theorem PS.imp{X:Cx}{st:Stmt}{t t':TS}(h:PS X st t)(q:∀ D σ H,t' D σ H→t D σ H):PS X st t':=fun pins s σ H D I z=>h pins s σ H D I (q D σ H z)
theorem PSs.imp{X:Cx}{st:List Stmt}{t t':TS}(h:PSs X st t)(q:∀ D σ H,t' D σ H→t D σ H):PSs X st t':=fun pins s σ H D I z=>h pins s σ H D I (q D σ H z)
section
variable {X:Cx}{st:Stmt}{rest:List Stmt}{F G:FS}{e:Expr}{Fe:FE}{pos:Pos}
def z0w:FS:=fun ρ=>some (.nx ρ)
def seqO(G:FS):Oc→Option Oc
 | .nx ρ=>G ρ
 | o=>some o
def sSeq(F G:FS):FS:=fun ρ=>(F ρ).bind (seqO G)
theorem z0E:PFSs X [] z0w:=zkG.imp (by rintro D σ H ⟨H₀,ρ,oc,rb,e,k⟩;cases e;exact k σ H rb)
theorem z0b(h:PFS X st F):PFSs X [st] F:=zkH h
theorem z05(h1:PFS X st F)(h2:PFSs X rest G):PFSs X (st::rest) (sSeq F G):=(zhb h1 h2).imp fun D σ H hZ=>hZ.elim fun H₀ hZ=>hZ.elim fun ρ hZ=>hZ.elim fun oc hZ=>hZ.elim fun rb hZ=>hZ.elim fun e k=>by
 obtain⟨o1,e1,e2⟩:=z04 e
 refine⟨H₀,ρ,o1,rb,e1,?_⟩
 cases o1 with
 | nx ρ'=>exact fun σ' H' rb'=>⟨H₀,ρ',oc,rb',e2,k⟩
 | rt f d=>cases e2;exact k
 | ex C=>cases e2;exact k
 | bk ρ'=>cases e2;exact k
 | ct ρ'=>cases e2;exact k
def z6c:FS:=fun _=>none
theorem z5p:PFS X st z6c:=fun pins s σ H D I hZ=>hZ.elim fun H₀ hZ=>hZ.elim fun ρ hZ=>hZ.elim fun oc hZ=>hZ.elim fun rb hZ=>hZ.elim fun e k=>by cases e
def sRet(F:FE):FS:=fun ρ=>(F ρ).map fun x => .rt x.1 x.2
theorem z0s(he:PF X e Fe):PFS X (.Return (some e) pos) (sRet Fe):=(ps_ret he).imp fun D σ H ⟨H₀,ρ,oc,⟨O,rb⟩,e0,k⟩=>by
 unfold sRet at e0
 cases h:Fe ρ with
 | none=>rw[h]at e0;cases e0
 | some x =>
  rw[h]at e0
  cases e0
  refine⟨ρ,x.1,x.2,rb.all,h,fun v H' sm r=>k v H' (rb.same.trans (z0G.trans sm)) ?_⟩
  by_cases q:x.1.isFr=true
  · rw[q];exact r.fr rb.below q
  · rw[show x.1.isFr=false by simpa using q];exact r.sh
def sIf(c:FT)(F G:FS):FS:=fun ρ=>(c ρ).bind fun b=>if b then F ρ else G ρ
theorem s_if{c:Expr}{a b:List Stmt}{Fc:FT}(hc:PFT X c Fc)(ha:PFSs X a F)(hb:PFSs X b G):PFS X (.If c a b pos) (sIf Fc F G):=(ps_if hc ha hb).imp fun D σ H ⟨H₀,ρ,oc,⟨O,rb⟩,e0,k⟩=>by
 obtain⟨z,e1,e2⟩:=z04 e0
 refine⟨ρ,z,rb.all,e1,fun H' sm=>?_⟩
 dsimp only
 cases z with
 | true=>rw[if_pos rfl]at e2 ⊢;exact⟨H₀,ρ,oc,⟨O,rb.mono sm⟩,e2,k⟩
 | false=>rw[if_neg Bool.false_ne_true]at e2 ⊢;exact⟨H₀,ρ,oc,⟨O,rb.mono sm⟩,e2,k⟩
def z4Q(F:FE):FS:=fun ρ=>(F ρ).map fun _ => .nx ρ
theorem zac(he:PF X e Fe)(hs:swapsWith e none pos.line X.env=pure false:=by rfl):PFS X (.Expr e pos) (z4Q Fe):=(za3 he hs).imp fun D σ H ⟨H₀,ρ,oc,⟨O,rb⟩,e0,k⟩=>by
 unfold z4Q at e0
 cases h:Fe ρ with
 | none=>rw[h]at e0;cases e0
 | some x =>
  rw[h]at e0
  cases e0
  exact⟨ρ,x.1,x.2,rb.all,h,fun v H' sm r=>k σ H' ⟨O,rb.mono sm⟩⟩
def AsgF(X:Cx)(st:Stmt)(i:Nat)(F:FE):Prop:=PS X st (tAsg (upF X F) (z7u i))
theorem z0a{i:Nat}{x:Str}{pos':Pos}(he:PF X e Fe)(hN:X.N.Nodup)(hi:X.N[i]?=some x)(hx:Loc X.env.scope x)(hs:swapsWith e (some (.Name x pos')) pos.line X.env=pure false)(hf:X.fn x=true∨X.env.scope.names.lookup x=some .local):
 AsgF X (.Assign [.Name x pos'] e pos) i Fe:=ps_set hN hi hx he hs hf
theorem z42{N:List Str}{scope:Scope}{nt:Nat}{js:List Nat}{tg elt iter:Expr}{ifs:List Expr}{Fi:FI}{g:Tg}{Fc:FT}{i:Nat}{x:Str}{pos' spos:Pos}(hN:X.N.Nodup)(hix:X.N[i]?=some x)(hx:X.env.scope.names.lookup x=some .local)
  (hsw:swapsWith (.ListComp elt [⟨tg,iter,ifs,0⟩] scope pos) (some (.Name x pos')) spos.line X.env=pure true)
  (S:CompScope X N scope nt js) (hc:X.calm=true) (hi:PFI X tg iter Fi) (hg:∀ cl C fp s H,PG (z0V X N scope cl C fp s H) tg (g.low X.K)) (hb:g.below nt)
  (hcs:∀ cl C fp s H,PFTs (z0V X N scope cl C fp s H) ifs Fc) (he:∀ cl C fp s H,PF (z0V X N scope cl C fp s H) elt Fe) (hj:∀ j∈js,j<X.N.length)
  (hs:∀ x,foldedSetIterable iter X.env x=pure x:=by intro _;rfl):AsgF X (.Assign [.Name x pos'] (.ListComp elt [⟨tg,iter,ifs,0⟩] scope pos) spos) i (z0k nt js Fi g Fc Fe):=by
 intro pins s σ H D I h
 exact zkY hN hix hx S hc hi hg (Tg.ok hb) (fun cl C fp s H=>PTs.frame (t:=fun H1=>upBK ⟨X.K,H1⟩ Fc) (hcs cl C fp s H)) (fun cl C fp s H=>PE.frame (he cl C fp s H)) hsw hs pins s σ H D I
  (zfH (fun j z=>by rw[I.len];exact hj j z) h)
def sSet(rels:List Nat)(i:Nat)(F:FE):FS:=fun ρ=>(F (z1l (relS rels ρ))).map fun x => .nx ((relS rels ρ).set i (.sh x.1.isFr x.2))
theorem z0l{rels:List Nat}{i:Nat}(ha:AsgF X st i Fe):PFS X st (sSet rels i Fe):=(PS.frame ha).imp fun D σ H ⟨H₀,ρ,oc,⟨O,rb⟩,e0,k⟩=>by
 unfold sSet at e0
 cases h:Fe (z1l (relS rels ρ)) with
 | none=>rw[h]at e0;cases e0
 | some x =>
  rw[h]at e0
  cases e0
  obtain⟨O',rb'⟩:=rb.rels rels
  refine⟨O'.adr,rb'.own,z1l (relS rels ρ),x.1,x.2,rb'.rest,h,fun v H' sm r hn=>?_⟩
  have hg:hidL O'.adr (z14 O'.adr H H')=H':=z2E hn
  have rb2:RepO X H₀ (z14 O'.adr H H') O' (relS rels ρ) σ:=rb'.mono (Same.glue sm hn)
  refine k _ _ ⟨_,rb2.set (f:=x.1.isFr) ?_⟩
  rw[hg]
  by_cases q:x.1.isFr=true
  · rw[q];exact r.fr (rb'.b0.trans rb'.same) q
  · rw[show x.1.isFr=false by simpa using q];exact r.sh
def z2V(i:Nat)(F:FE):FS:=fun ρ=>(F ρ).bind fun x=>if x.1.isNw then some (.nx (ρ.set i (.sh true x.2))) else none
theorem zhD{H H':Hp}{O:Own}{f:Fl}{d:Dt}{v:V}(ho:OwnL X O.adr H)(sm:Same H H')(q:f.isNw=true)(r:RpF X.ky H f d H' v):Rp X.K H d (hidL O.adr H') v:=by
 cases f<;>first|cases q|skip
 refine Rp.hid (fun b hb=>?_) d (fun b hb o e=>?_) r
 · obtain⟨⟨vs,z⟩,_⟩:=ho b hb
   rw[z];exact fun w=>nomatch w
 · obtain⟨⟨vs,z⟩,_⟩:=ho b hb
   rw[sm _ _ z]at e
   cases e
   exact⟨vs,rfl⟩
theorem zad{i:Nat}(ha:AsgF X st i Fe):PFS X st (z2V i Fe):=PS.imp ha fun D σ H ⟨H₀,ρ,oc,⟨O,rb⟩,e0,k⟩=>by
 obtain⟨x,e1,e2⟩:=z04 e0
 split at e2
 · rename_i q
   cases e2
   refine⟨ρ,x.1,x.2,rb.all,e1,fun v H' sm r=>k _ _ ⟨_,(rb.mono sm).set (f:=true) ?_⟩⟩
   exact Rp.anti rb.below _ (zhD rb.own sm q r)
 · cases e2
def sOwn(i:Nat)(F:FE):FS:=fun ρ=>(F (z1l ρ)).bind fun x=>match x with
 | (.nw,.lst ds)=>if i<ρ.length then some (.nx (ρ.set i (.ow true ds))) else none
 | (.tn,.lst ds)=>if i<ρ.length then some (.nx (ρ.set i (.ow false ds))) else none
 | _=>none
theorem zaX{i:Nat}(ha:AsgF X st i Fe):PFS X st (sOwn i Fe):=(PS.frame ha).imp fun D σ H ⟨H₀,ρ,oc,⟨O,rb⟩,e0,k⟩=>by
 obtain⟨x,e1,e2⟩:=z04 e0
 refine⟨O.adr,rb.own,z1l ρ,x.1,x.2,rb.rest,e1,fun v H' sm r hn=>?_⟩
 have hg:hidL O.adr (z14 O.adr H H')=H':=z2E hn
 have sg:Same H (z14 O.adr H H'):=Same.glue sm hn
 have new:∀{f:Bool} {ds:List Dt} {D:Addr} {vs:List V},hidL O.adr H D=none→H' D=some (.lst vs)→Rps X.K (bsOf X.ky f) ds (hidL [D] H') vs→i<ρ.length→RepB X H₀ (z14 O.adr H H') (ρ.set i (.ow f ds)) (σ.set i (some (.ref D))):=by
   intro f ds D vs hD hv hr hi
   have nO:D ∉ O.adr:=fun z=>by rw[hn D z]at hv;cases hv
   have hH:H D=none:=by rw[z0p nO]at hD;exact hD
   refine⟨_,rb.setNew hi sg hH (by rw[z0Z nO];exact hv) nO (rb.below.free hH) ?_⟩
   rw[←z7J,z7z,hg]
   exact hr
 split at e2
 · rename_i ds
   split at e2
   · rename_i hi
     cases e2
     obtain⟨D,vs,rfl,h0,h1,h2⟩:=(Rp.lst_ (K:=X.K)).mp (show Rp X.K (hidL O.adr H) (.lst ds) H' v from r)
     exact k _ _ (new (f:=true) h0 h1 (Rps.anti (rb.b0.trans rb.same) _ h2) hi)
   · cases e2
 · rename_i ds
   split at e2
   · rename_i hi
     cases e2
     obtain⟨D,vs,rfl,h0,h1,h2⟩:=Rp.lst_.mp r.1
     exact k _ _ (new (f:=false) (r.2.2 D rfl) h1 h2 hi)
   · cases e2
 · cases e2
def sOwnA(i:Nat)(F:FE):FS:=fun ρ=>(F ρ).bind fun x=>match x with
 | (.nw,.lst ds)=>if i<ρ.length then some (.nx (ρ.set i (.ow true ds))) else none
 | _=>none
def z0z(c:FT)(F:FS):Nat→FS
 | 0,_=>none
 | n+1,ρ=>(c ρ).bind fun b=>if b then(F ρ).bind fun oc=>match oc with|.nx ρ'=>z0z c F n ρ'|.ct ρ'=>z0z c F n ρ'|.bk ρ'=>some (.nx ρ')|.rt f d=>some (.rt f d)|.ex C=>some (.ex C) else some (.nx ρ)
open Classical in
noncomputable def z1D(c:FT)(F:FS):FS:=fun ρ=>if h:∃ n o,z0z c F n ρ=some o then some (choose (choose_spec h)) else none
theorem z2W{c:FT}{F:FS}:∀{n m:Nat} {ρ:Rho} {o:Oc},n≤m→z0z c F n ρ=some o→z0z c F m ρ=some o
 | 0,m,ρ,o,_,h=>by cases h
 | n+1,0,ρ,o,hl,h=>by omega
 | n+1,m+1,ρ,o,hl,h=>by
  unfold z0z at h ⊢
  obtain⟨b,e1,e2⟩:=z04 h
  rw[e1]
  show(if b=true then _ else _)=_
  cases b with
  | false=>exact e2
  | true =>
   rw[if_pos rfl]at e2 ⊢
   obtain⟨oc,e3,e4⟩:=z04 e2
   rw[e3]
   cases oc with
   | nx ρ'=>exact z2W (by omega) e4
   | ct ρ'=>exact z2W (by omega) e4
   | bk ρ'=>exact e4
   | rt f d=>exact e4
   | ex C=>exact e4
theorem z1u{c:FT}{F:FS}{n:Nat}{ρ:Rho}{o:Oc}(h:z0z c F n ρ=some o):z1D c F ρ=some o:=by
 have hx:∃ n o,z0z c F n ρ=some o:=⟨n,o,h⟩
 unfold z1D
 rw[dif_pos hx]
 have z:=Classical.choose_spec (Classical.choose_spec hx)
 have a:=z2W (Nat.le_max_left n (Classical.choose hx)) h
 have b:=z2W (Nat.le_max_right n (Classical.choose hx)) z
 rw[a]at b
 exact b.symm
theorem zgA{c:FT}{F:FS}{ρ:Rho}{o:Oc}(h:z1D c F ρ=some o):∃ n,z0z c F n ρ=some o:=by
 unfold z1D at h
 split at h
 · rename_i hx
   cases h
   exact⟨_,Classical.choose_spec (Classical.choose_spec hx)⟩
 · cases h
theorem z3w{c:Expr}{body:List Stmt}{Fc:FT}(hp:PassesOwn (model X.prog X.w) X.A X.env X.xe)(hc:PFT X c Fc)(hb:PFSs X body F):PFS X (.While c body [] pos) (z1D Fc F):=(zhd hp hc hb).imp fun D σ H hZ=>hZ.elim fun H₀ hZ=>hZ.elim fun ρ hZ=>hZ.elim fun oc hZ=>hZ.elim fun rb hZ=>hZ.elim fun e0 k=>by
 obtain⟨n0,e1⟩:=zgA e0
 refine⟨fun m σ' H'=>∃ ρ',RepB X H₀ H' ρ' σ'∧z0z Fc F m ρ'=some oc,⟨n0,ρ,rb,e1⟩,?_⟩
 rintro m σ' H' ⟨ρ',⟨O,rb'⟩,w'⟩
 cases m with
 | zero=>cases w'
 | succ n =>
  unfold z0z at w'
  obtain⟨z,p1,p2⟩:=z04 w'
  refine⟨ρ',z,rb'.all,p1,fun H2 sm=>?_⟩
  dsimp only
  cases z with
  | false =>
   rw[if_neg Bool.false_ne_true]at p2 ⊢
   cases p2
   exact k _ _ ⟨O,rb'.mono sm⟩
  | true =>
   rw[if_pos rfl]at p2 ⊢
   obtain⟨oc',p3,p4⟩:=z04 p2
   refine⟨fun σ' H'=>∃ ρ'',RepB X H₀ H' ρ'' σ'∧z0z Fc F n ρ''=some oc,fun σ3 H3 hZ=>hZ.elim fun ρ3 hZ=>hZ.elim fun rb3 w3=>⟨n,Nat.lt_succ_self n,ρ3,rb3,w3⟩,H₀,ρ',oc',⟨O,rb'.mono sm⟩,p3,?_⟩
   cases oc' with
   | nx ρ3=>exact fun σ3 H3 rb3=>⟨ρ3,rb3,p4⟩
   | ct ρ3=>exact fun σ3 H3 rb3=>⟨ρ3,rb3,p4⟩
   | bk ρ3=>cases p4;exact k
   | rt f d=>cases p4;exact k
   | ex C=>cases p4;exact k
def forF(g:Tg)(F:FS):List Dt→FS
 | [],ρ=>some (.nx ρ)
 | x::xs,ρ=>(g.put x ρ).bind fun ρ2=>(F ρ2).bind fun oc=>match oc with|.nx ρ'=>forF g F xs ρ'|.ct ρ'=>forF g F xs ρ'|.bk ρ'=>some (.nx ρ')|.rt f d=>some (.rt f d)|.ex C=>some (.ex C)
def sFor(rels:List Nat)(Fi:FI)(g:Tg)(F:FS):FS:=fun ρ=>(Fi (z1l (relS rels ρ))).bind fun items=>forF g F items (relS rels ρ)
end
section
variable {X:Cx}{H₀ H H':Hp}{O:Own}{ρ ρ':Rho}{σ:St}
theorem z6L:∀{is:List Nat} {ds:List Dt} {vs:List V} {O:Own} {ρ:Rho} {σ:St},RepO X H₀ H O ρ σ→Rps X.K emp ds (hidL O.adr H) vs→ds.length=is.length→z24 ρ is ds=ρ' →
  z1X is vs σ H fun σ' H'=>H'=H∧∃ O',RepO X H₀ H O' ρ' σ'
 | [],[],vs,O,ρ,σ,rs,r,hl,q=>⟨Rps.nil_.mp r,rfl,O,by rw[←q];exact rs⟩
 | [],d::ds,vs,O,ρ,σ,rs,r,hl,q=>by cases hl
 | i::is,[],vs,O,ρ,σ,rs,r,hl,q=>by cases hl
 | i::is,d::ds,vs,O,ρ,σ,rs,r,hl,q=>by
  obtain⟨v,r',rfl,h1,h2⟩:=Rps.cons_.mp r
  exact⟨v,r',rfl,z6L (rs.set (f:=false) h1) (Rps.mono _ (z3b z1t) h2) (by simpa using hl) q⟩
theorem Tg.simO{g:Tg}{d:Dt}{v:V}(rs:RepO X H₀ H O ρ σ)(r:Rp X.K emp d (hidL O.adr H) v)(h:g.put d ρ=some ρ'):
  g.low X.K v σ H fun σ' H'=>H'=H∧∃ O',RepO X H₀ H O' ρ' σ':=by
 cases g with
 | one i=>cases h;exact⟨rfl,_,rs.set (f:=false) r⟩
 | many is =>
  cases d<;>first|cases h|skip
  rename_i ds
  replace h:(if ds.length=is.length then some (z24 ρ is ds) else none)=some ρ':=h
  split at h
  · rename_i hl
    obtain⟨a,vs,rfl,h1,h2⟩:=Rp.tup_.mp r
    exact⟨a,vs,rfl,z0G.seqT h1,by rw[h2.length];exact hl,z6L rs h2 hl (Option.some.inj h)⟩
  · cases h
end
section
variable {X:Cx}{tg iter:Expr}{body:List Stmt}{Fi:FI}{g:Tg}{F:FS}{pos:Pos}
theorem z5q{rels:List Nat}(hp:PassesOwn (model X.prog X.w) X.A X.env X.xe)(hc:X.calm=true)(hi:PFI X tg iter Fi)(hg:PG X tg (g.low X.K))(hb:PFSs X body F)
   (hs:∀ x,foldedSetIterable iter X.env x=pure x:=by intro _;rfl):PFS X (.For tg iter body [] pos) (sFor rels Fi g F):=(ps_for hp hc (PI.frame hi) hg hb hs).imp fun D σ H ⟨H₀,ρ,oc,⟨O,rb⟩,e0,k⟩=>by
 obtain⟨items,e1,e2⟩:=z04 e0
 obtain⟨O',rb'⟩:=rb.rels rels
 refine⟨O'.adr,rb'.own,z1l (relS rels ρ),items,rb'.rest,e1,fun J H1 sm hsz wk hn=>?_⟩
 have hg1:hidL O'.adr (z14 O'.adr H H1)=H1:=z2E hn
 have s01:Same H₀ H1:=rb'.same.trans sm
 have start:RepO X H1 (z14 O'.adr H H1) O' (relS rels ρ) σ:=by
   have z:=rb'.mono (Same.glue sm hn)
   exact⟨z.ndA,z.ndI,z.own,z.len,rb'.b0.trans s01,by rw[hg1];exact Same.refl _,z.at_⟩
 have back:∀{oc:Oc},OcOk X H₀ D oc→OcOk X H1 D oc:=fun{oc} z=>by
   cases oc with
   | nx ρ5=>exact fun σ5 H5 hZ=>hZ.elim fun O5 r5=>z σ5 H5 ⟨O5,r5.base s01 rb'.b0⟩
   | bk ρ5=>exact fun σ5 H5 hZ=>hZ.elim fun O5 r5=>z σ5 H5 ⟨O5,r5.base s01 rb'.b0⟩
   | ct ρ5=>exact fun σ5 H5 hZ=>hZ.elim fun O5 r5=>z σ5 H5 ⟨O5,r5.base s01 rb'.b0⟩
   | rt f d=>exact fun v H5 s5 r5=>z v H5 (s01.trans s5) r5
   | ex n=>exact fun C q=>(z C q).base s01
 refine⟨fun i m σ' H'=>m=items.length-i∧∃ ρ',RepB X H1 H' ρ' σ'∧forF g F (items.drop i) ρ'=some oc,⟨_,rfl,_,⟨O',start⟩,e2⟩,?_⟩
 rintro i m σ' H' ⟨rfl,ρ',⟨O2,r2⟩,f2⟩
 obtain⟨w1,w2⟩:=wk O2.adr H' r2.same fun a ha=>by obtain⟨⟨vs,q⟩,_⟩:=r2.own a ha;exact⟨_,q⟩
 by_cases hlt:i<items.length
 · obtain⟨x,hx⟩:∃ x,items[i]?=some x:=⟨_,List.getElem?_eq_getElem hlt⟩
   have hdrop:items.drop i=x::items.drop (i+1):=by
    rw[List.drop_eq_getElem_cons hlt]
    rw[List.getElem?_eq_getElem hlt]at hx
    cases hx;rfl
   rw[hdrop]at f2
   unfold forF at f2
   obtain⟨ρ2,p1,f3⟩:=z04 f2
   obtain⟨oc',p2,f4⟩:=z04 f3
   obtain⟨go,yl⟩:=w1 i x hx
   refine .inr ⟨go,fun σ3 H3=>∃ ρ3,RepB X H1 H3 ρ3 σ3∧forF g F (items.drop (i+1)) ρ3=some oc,fun σ3 H3 hZ=>hZ.elim fun ρ3 hZ=>hZ.elim fun r3 f3=>⟨items.length-(i+1),by omega,rfl,ρ3,r3,f3⟩,fun xv H3 y3=>?_⟩
   obtain⟨s3,k3,r3⟩:=yl xv H3 y3
   have sm3:Same H' H3:=fun b o e=>by
    by_cases hb:b∈O2.adr
    · rw[k3 b hb];exact e
    · exact(z4w (s3 b o (by rw[z0p hb];exact e))).2
   refine Tg.low_mono (Tg.simO (r2.mono sm3) r3 p1) ?_
   rintro σ4 H4 ⟨eH,O4,r4⟩
   subst eH
   refine⟨H1,ρ2,oc',⟨O4,r4⟩,p2,?_⟩
   cases oc' with
   | nx ρ5=>exact fun σ5 H5 r5=>⟨ρ5,r5,f4⟩
   | ct ρ5=>exact fun σ5 H5 r5=>⟨ρ5,r5,f4⟩
   | bk ρ5=>cases f4;exact back k
   | rt f d=>cases f4;exact back k
   | ex C=>cases f4;exact back k
 · have hd:items.drop i=[]:=List.drop_of_length_le (by omega)
   rw[hd]at f2
   cases f2
   exact .inl ⟨w2 i (by omega),back k σ' H' ⟨O2,r2⟩⟩
end
section
variable {P:Program}{w:World}{K:PySem.W.Frag}{mg:Str→Option Value}{base:Heap}
def rho0(n:Nat)(ds:List Dt):Rho:=ds.map (Cell.sh false)++List.replicate (n-ds.length) Cell.no
theorem zcs{X:Cx}{H:Hp}{ds:List Dt}{vs:List V}{N:List Str}(h0:X.H₀=H)(h:Rps X.K emp ds H vs):RepO X H H [] (rho0 N.length ds) (start N vs):=by
 have hl:=h.length
 refine⟨List.nodup_nil,List.nodup_nil,fun a ha=>(nomatch ha),by unfold rho0 start;simp[hl],by rw[h0];exact Same.refl H,by show Same H (hidL [] H);rw[zaR];exact Same.refl H,fun i c e=>?_⟩
 unfold rho0 at e
 unfold start
 by_cases hi:i<ds.length
 · rw[List.getElem?_append_left (by simpa using hi),List.getElem?_map]at e
   cases q:ds[i]? with
   | none=>rw[q]at e;cases e
   | some d =>
     rw[q]at e
     cases e
     obtain⟨v,e1,e2⟩:=h.get q
     refine⟨some v,?_,v,rfl,by show Rp X.K emp d (hidL [] H) v;rw[zaR];exact e2⟩
     rw[List.getElem?_append_left (by simp;omega),List.getElem?_map,e1];rfl
 · rw[List.getElem?_append_right (by simp;omega),List.getElem?_replicate]at e
   split at e
   · cases e
     rename_i hlt
     simp at hlt
     refine⟨none,?_,trivial⟩
     rw[List.getElem?_append_right (by simp;omega),List.getElem?_replicate,if_pos (by simp;omega)]
   · cases e
def cOf(np n:Nat)(fr:Bool)(F:FS):FC:=fun ds=>if ds.length=np then
 (F (rho0 n ds)).bind fun oc=>match oc with|.rt f d=>if fr&&!(f.isFr||d.flat) then none else some d|.nx _=>some .non|_=>none
 else none
theorem Fun.data{x qual:Str}{st:Stmt}{f:Addr}{fd:FuncData}{N ps:List Str}{k:Nat}{fr:Bool}{F:FS}(Fu:Fun K x qual st f fd)(S:FnScope N ps (z06 st))
    (body:∀(cdv:Value) (A:Around) (outer:List Env) (s:Shared) (H:Hp) (E:XK),Room k (A.deeper (envOfC qual (z06 st) s.heap.objs.size f cdv)) →
      PFSs (cxOf CX0 P w K mg base N qual (z06 st) f cdv A outer s H E).nox (z1r st) F):FnOk P w K mg base CX0 (k+1) f fd ps (spc K fr (cOf ps.length N.length fr F)):=by
  refine Fu.ok S (fun vs H Q E h=>?_) (fun cdv A outer s H vs Q E hr h=>?_)
  · obtain⟨ds,d,r,e,q⟩:=h
    unfold cOf at e
    split at e
    · rename_i hl
      rw[r.length];exact hl
    · cases e
  · obtain⟨ ds,d,r,e,q⟩:=h
    unfold cOf at e
    split at e
    · rename_i hl
      obtain⟨oc,e1,e2⟩:=z04 e
      refine⟨_,body cdv A outer s H E hr,H,rho0 N.length ds,oc,⟨[],zcs rfl r⟩,e1,?_⟩
      cases oc with
      | nx ρ=>cases e2;exact fun σ H' hZ=>hZ.elim fun O rb=>q _ H' (rb.same.trans z0G) (Rp.non_.mpr rfl)
      | bk ρ=>cases e2
      | ct ρ=>cases e2
      | ex C=>cases e2
      | rt f d' =>
        have e2:(if(fr&&!(f.isFr||d'.flat))=true then none else some d')=some d:=e2
        split at e2
        · cases e2
        · rename_i hf
          cases e2
          refine fun v H' sm r'=>q v H' sm ?_
          cases fr with
          | false=>exact Rp.anti Same.emp _ r'
          | true =>
            have hf:f.isFr=true∨d.flat=true:=by
              cases h1:f.isFr<;>cases h2:d.flat<;>simp[h1,h2]at hf ⊢
            rcases hf with hf|hf
            · rw[hf]at r';exact r'
            · exact Rp.flat d hf r'
    · cases e
theorem zgB{l:PySem.W.OpenLaw}{q:Program}{loose:List Str}{XP:(Str→Option Value)→Heap→Prop}{YP:World→Heap→Prop}{d:DefRec}{K:Params→PySem.W.Frag}{x:Str}{k:Nat}{fr:Bool}{c:FC}(hn:l.most=some 63)(hdf:d.params.defaults=[])
  (hY:∀(w:World) (h:Heap),YP w h→(K w.params).In h)
  (F:∀(w:World) (mg:Str→Option Value) (fa:Addr) (h:Heap),(K w.params).In h→h.Ns mainGlobals mg→mg d.name=some (.ref fa) →
   ∃ fd:FuncData,(∀(s:Shared) (u:Value),BindsTo s fd ⟨[u],[]⟩ [(x,u)])∧∀ base:Heap,(K w.params).In base→base.Ns mainGlobals mg→FnOk l.prog w (K w.params) mg base CX0 k fa fd [x] (spc (K w.params) fr c))
  (hc:∀ ns:List Int,ns.length≤63→c [.scr ns]=some (.bl true))
  (hr:Room k callerA):PySem.W.WalkO q loose XP YP l.row.toRowW d [] (fun f vs=>PySem.call f vs) :=
 L2.zkU (n:=63) (k:=k) (x:=x) (CX:=fun _=>CX0) (sp:=fun w=>spc (K w.params) fr c) hn (by decide) hdf hr hY F
  (fun w H a ns hl _ hS=>⟨[.scr ns],_,Rps.one (Rp.scr_.mpr ⟨a,rfl,rfl,hS⟩),hc ns hl,fun v H' _ r=>by cases fr<;>exact Rp.bl_.mp r⟩) fun _ _ _ _ _ z=>z
end
def zhE(XN:List Str)(xs:List (Str×NameKind))(scope:Scope)(N:List Str)(nt:Nat)(js:List Nat):Bool :=
 decide ((scope.names.map (·.1)).Nodup)&&(N.length==nt+js.length)&&((List.range js.length).all fun k=>match js[k]? with
  | some j=>(match N[nt+k]?,XN[j]? with|some x,some y=>x==y&&scope.names.lookup x==some .free|_,_=>false)
  | none=>false)&&scope.names.all fun p=>p.2 != .free||xs.lookup p.1==some .cell||xs.lookup p.1==some .free
theorem z0r{X:Cx}{N:List Str}{scope:Scope}{nt:Nat}{js:List Nat}(XN:List Str)(xs:List (Str×NameKind))(h1:X.N=XN)(h2:X.env.scope.names=xs)(hk:scope.kind = .function)(c:zhE XN xs scope N nt js=true):CompScope X N scope nt js:=by
 unfold zhE at c
 rw[Bool.and_eq_true,Bool.and_eq_true,Bool.and_eq_true]at c
 obtain⟨⟨⟨c1,c2⟩,c3⟩,c4⟩:=c
 have nd:=of_decide_eq_true c1
 refine⟨hk,nd,fun x hx e=>by rw[z2r nd hx,e],beq_iff_eq.mp c2,fun k j e=>?_,fun x hx e=>?_⟩
 · have hk:k<js.length:=by
     by_cases hk:k<js.length
     · exact hk
     · rw[List.getElem?_eq_none (by omega)]at e;cases e
   have z:=List.all_eq_true.mp c3 k (List.mem_range.mpr hk)
   rw[e]at z
   dsimp only at z
   rw[h1]
   cases q1:N[nt+k]? with
   | none=>rw[q1]at z;cases z
   | some x =>
     cases q2:XN[j]? with
     | none=>rw[q1,q2]at z;cases z
     | some y =>
       rw[q1,q2]at z
       dsimp only at z
       rw[Bool.and_eq_true]at z
       have exy:x=y:=beq_iff_eq.mp z.1
       subst exy
       exact⟨x,rfl,rfl,beq_iff_eq.mp z.2⟩
 · have z:=List.all_eq_true.mp c4 x hx
   rw[e]at z
   have z:(xs.lookup x.1==some .cell||xs.lookup x.1==some .free)=true:=by simpa using z
   show X.env.scope.names.lookup x.1=_∨X.env.scope.names.lookup x.1=_
   rw[h2]
   rcases Bool.or_eq_true _ _ |>.mp z with z|z
   · exact .inl (beq_iff_eq.mp z)
   · exact .inr (beq_iff_eq.mp z)
structure Df(K:PySem.W.Frag)(mg:Str→Option Value)(name:Str)(st:Stmt)(ps:List Str)(f:Addr)(fd:FuncData):Prop where
 fn:Fun K name name st f fd
 mg:mg name=some (.ref f)
 bd:Binds K fd ps []
theorem df_mk{K:PySem.W.Frag}{h:Heap}{mg:Str→Option Value}(X:K.In h)(G:h.Ns mainGlobals mg){x:Str}{st:Stmt}{f:Addr}{oc:Value}{od an:Option Addr}{osl:Array (Option Value)}{kV doc pm cdv ct:Value}{ps:List Str}
  (e:PySem.W.nsIn K mainGlobals x=some (some (.ref f))) (l:K.lookup f=some ⟨oc,od,.func (PySem.W.fnOf x x (z2h st) (z1r st) (z06 st) .none kV doc pm an cdv ct),osl⟩) (c:PySem.W.codeIn K cdv x=true) (k:PySem.W.keepIn K (.ref f)=true)
  (hb:∀(kV doc pm:Value) (an:Option Addr) (cdv ct:Value) (us:List Value),us.length=ps.length→bindArgs (PySem.W.fnOf x x (z2h st) (z1r st) (z06 st) .none kV doc pm an cdv ct) ⟨us,[]⟩=pure (ps.zip us)) :
  Df K mg x st ps f (PySem.W.fnOf x x (z2h st) (z1r st) (z06 st) .none kV doc pm an cdv ct) :=
 ⟨zhn l c k,PySem.W.mg_of X G e,(zhn (st:=st) l c k).binds hb⟩
end L2

end
section
set_option Elab.async false
set_option linter.all false
set_option maxRecDepth 100000
namespace ZL
open PySem PyProof.Rows
def ItAt(h:Heap)(tu:Bool)(it l:Addr)(k:Nat):Prop:=if tu then h.IsTupleIter it l k else h.IsListIter it l k
def SqAt(h:Heap)(tu:Bool)(l:Addr)(xs:Array Value):Prop:=if tu then h.IsTuple l xs else h.IsList l xs
section
variable {h h':Heap}{tu:Bool}{it l c:Addr}{k:Nat}{xs:Array Value}
theorem ItAt.at(x:ItAt h tu it l k)(q:∀ o,h.get? it=some o→h'.get? it=some o):ItAt h' tu it l k:=by
 unfold ItAt at x ⊢
 cases tu with
 | true=>obtain⟨o,e,r⟩:=x;exact⟨o,q o e,r⟩
 | false=>obtain⟨o,e,r⟩:=x;exact⟨o,q o e,r⟩
theorem SqAt.at(x:SqAt h tu l xs)(q:∀ o,h.get? l=some o→h'.get? l=some o):SqAt h' tu l xs:=by
 unfold SqAt at x ⊢
 cases tu with
 | true=>obtain⟨o,e,r⟩:=x;exact⟨o,q o e,r⟩
 | false=>obtain⟨o,e,r⟩:=x;exact⟨o,q o e,r⟩
theorem ItAt.lt(x:ItAt h tu it l k):it<h.objs.size:=by
 unfold ItAt at x
 cases tu with
 | true=>obtain⟨o,e,_⟩:=x;exact Heap.lt_size e
 | false=>obtain⟨o,e,_⟩:=x;exact Heap.lt_size e
theorem SqAt.lt(x:SqAt h tu l xs):l<h.objs.size:=by
 unfold SqAt at x
 cases tu with
 | true=>obtain⟨o,e,_⟩:=x;exact Heap.lt_size e
 | false=>obtain⟨o,e,_⟩:=x;exact Heap.lt_size e
end
section
variable {prog:Program}{w:World}{A:Around}{E:Value→Shared→Prop}{s:Shared}
theorem zct{it t:Addr}{i:Nat}{items:Array Value}{x:Value}{Q:Value→Shared→Prop}(a:s.heap.IsTupleIter it t i)(b:s.heap.IsTuple t items)(c:items[i]?=some x)
  (q:∀ h',h'.IsTupleIter it t (i+1)→Heap.SameBut it s.heap h'→Q x { s with heap:=h' }):wpAny (model prog w) A (Builtin.SmallTypes.nextOf (.ref it)) Q E s:=by
 obtain⟨o,e1,e2,e3⟩:=id a
 obtain⟨p,f1,_,n,f2⟩:=b
 unfold Builtin.SmallTypes.nextOf
 refine wpAny_bind (wpAny_callSpecial?_slot (name:=Str.ofString "__next__") a.typeIs F.slot_tuple_iterator_next (wpAny_call_entry F.slot_tuple_iterator_next a.typeIs F.entry_tuple_iterator_next ?_ (F.args_tuple_iterator_next_1 _)))
 show wpAny _ _ (field (.ref it) 0 >>= fun z=>_) _ _ s
 refine wpAny_bind (wpAny_field e1 e3 (x:=Value.ref t) rfl ?_)
 show wpAny _ _ (if(Value.ref t==Value.none)=true then _ else _) _ _ s
 rw[if_neg (by exact Bool.false_ne_true)]
 show wpAny _ _ (field (.ref it) 1 >>= fun z=>_) _ _ s
 refine wpAny_bind (wpAny_field e1 e3 (x:=Value.int i 0) rfl ?_)
 show wpAny _ _ (seqItems? (.ref t) >>= fun z=>_) _ _ s
 refine wpAny_bind (wpAny_seqItems f1 f2 ?_)
 simp only[Int.toNat_natCast,c]
 refine wpAny_bind (wpAny_setField e1 e3 (by simp) (wpAny_pure ⟨x,rfl,wpAny_pure (q _ ⟨_,Heap.get?_update_self _ e1 (Obj.isFreed_of_fields (Obj.data_mapFields e3 _)),(Obj.cls_mapFields ..).trans e2,?_⟩ (Heap.SameBut.update ..))⟩))
 rw[Obj.data_mapFields e3]
 simp[rawInt]
theorem zgC{it t:Addr}{i:Nat}{items:Array Value}{Q:Value→Shared→Prop}(hn:A.handled=none)(a:s.heap.IsTupleIter it t i)(b:s.heap.IsTuple t items)(c:items[i]?=none)
  (q:∀ h' e,Heap.ExtBut it s.heap h'→(∃ o,h'.get? e=some o∧o.cls = .type "StopIteration")→E (.ref e) { s with heap:=h' }):wpAny (model prog w) A (Builtin.SmallTypes.nextOf (.ref it)) Q E s:=by
 obtain⟨o,e1,e2,e3⟩:=id a
 obtain⟨p,f1,_,n,f2⟩:=b
 unfold Builtin.SmallTypes.nextOf
 refine wpAny_bind (wpAny_callSpecial?_slot (name:=Str.ofString "__next__") a.typeIs F.slot_tuple_iterator_next (wpAny_call_entry F.slot_tuple_iterator_next a.typeIs F.entry_tuple_iterator_next ?_ (F.args_tuple_iterator_next_1 _)))
 show wpAny _ _ (field (.ref it) 0 >>= fun z=>_) _ _ s
 refine wpAny_bind (wpAny_field e1 e3 (x:=Value.ref t) rfl ?_)
 show wpAny _ _ (if(Value.ref t==Value.none)=true then _ else _) _ _ s
 rw[if_neg (by exact Bool.false_ne_true)]
 show wpAny _ _ (field (.ref it) 1 >>= fun z=>_) _ _ s
 refine wpAny_bind (wpAny_field e1 e3 (x:=Value.int i 0) rfl ?_)
 show wpAny _ _ (seqItems? (.ref t) >>= fun z=>_) _ _ s
 refine wpAny_bind (wpAny_seqItems f1 f2 ?_)
 simp only[Int.toNat_natCast,c]
 refine wpAny_bind (wpAny_rule (wpAny_bind (wpAny_setField e1 e3 (by simp) ?_)))
 show wpAny _ _ (newExc (.type "StopIteration") [] >>= fun z=>_) _ _ _
 refine wpAny_bind ?_
 simp only[newExc,newTuple]
 refine wpAny_bind (wpAny_newObj_type ?_ (by size_fits))
 refine wpAny_bind (m:=firstArgMember _ _) (wpAny_of_eq (a:=Value.none) (by first|(simp only[firstArgMember];rfl)|rfl) ?_)
 refine wpAny_newObj_type ?_ (by size_fits)
 simp only[raiseNew]
 refine wpAny_bind (wpAny_handled ?_)
 first|rw[hn]|rw[show A.in1.handled=none from hn]
 refine wpAny_bind (wpAny_pure (wpAny_throw ?_))
 exact q _ _ (((Heap.SameBut.update ..).extBut.push _).push _) ⟨_,Heap.get?_push_size _ rfl,rfl⟩
theorem z98{tu:Bool}{it l:Addr}{i:Nat}{items:Array Value}{x:Value}{Q:Option Value→Shared→Prop}(a:ItAt s.heap tu it l i)(b:SqAt s.heap tu l items)(c:items[i]?=some x)
  (q:∀ h',ItAt h' tu it l (i+1)→Heap.SameBut it s.heap h'→Q (some x) { s with heap:=h' }):wpAny (model prog w) A (Builtin.SmallTypes.nextOrEnd (.ref it)) Q E s:=by
 unfold Builtin.SmallTypes.nextOrEnd
 cases tu with
 | true=>exact wpAny_bind (wpAny_attempt (zct a b c fun h' p1 p2=>wpAny_pure (q h' p1 p2)))
 | false=>exact wpAny_bind (wpAny_attempt (wpAny_nextOf_list_item a b c fun h' p1 p2=>wpAny_pure (q h' p1 p2)))
theorem zaY{tu:Bool}{it l:Addr}{i:Nat}{items:Array Value}{Q:Option Value→Shared→Prop}(hn:A.handled=none)(a:ItAt s.heap tu it l i)(b:SqAt s.heap tu l items)(c:items[i]?=none)
  (q:∀ h',Heap.ExtBut it s.heap h'→Q none { s with heap:=h' }):wpAny (model prog w) A (Builtin.SmallTypes.nextOrEnd (.ref it)) Q E s:=by
 unfold Builtin.SmallTypes.nextOrEnd
 cases tu with
 | true=>exact wpAny_bind (wpAny_attempt (zgC hn a b c fun h' e p1 hZ=>hZ.elim fun o hZ=>hZ.elim fun p2 p3=>wpAny_bind (wpAny_isInstance (T := "StopIteration") (b:=true) ⟨o,p2,p3⟩ isSubtype_stop (wpAny_pure (q h' p1)))))
 | false=>exact wpAny_bind (wpAny_attempt (wpAny_nextOf_list_end hn a b c fun h' e p1 hZ=>hZ.elim fun o hZ=>hZ.elim fun p2 p3=>wpAny_bind (wpAny_isInstance (T := "StopIteration") (b:=true) ⟨o,p2,p3⟩ isSubtype_stop (wpAny_pure (q h' p1)))))
def z2l(h:Heap)(z ti to:Addr)(f:Value):Prop:=h.get? z=some { cls := .type "zip",dict:=none,data := .fields #[f,.bool false,.bool true,.ref ti,.ref to],slots:=#[] }
structure Apart(z ti to i j a b:Addr):Prop where
 p1:ti≠z
 p2:to≠z
 p3:i≠z
 p4:j≠z
 p5:ti≠to
 p6:ti≠i
 p7:ti≠j
 p8:to≠i
 p9:to≠j
 p10:i≠j
 a1:a≠z
 a2:a≠to
 a3:a≠i
 a4:a≠j
 b1:b≠z
 b2:b≠to
 b3:b≠i
 b4:b≠j
def zEnd(l:List Value)(n:Nat):Sem PySem.Fin:=do
 if n > 0 then
  rule "zip.__next__.shorter";raiseError "ValueError" s!"zip() argument {n + 1} is shorter than {if n == 1 then "argument 1" else s!"arguments 1-{n}"}"
 for (e,m) in (l.drop 1).zipIdx 1 do
  if(←Builtin.SmallTypes.nextOrEnd e).isSome then
   rule "zip.__next__.longer";raiseError "ValueError" s!"zip() argument {m + 1} is longer than {if m == 1 then "argument 1" else s!"arguments 1-{m}"}"
 rule "zip.__next__.all-ended";Builtin.SmallTypes.stopIteration
theorem zhF{z ti to i j a b:Addr}{ta tb:Bool}{k:Nat}{xs ys:Array Value}{x y u v:Value}{Q:Value→Shared→Prop}(D:Apart z ti to i j a b)
  (hz:z2l s.heap z ti to .none) (hI:IsPair s.heap ti (.ref i) (.ref j)) (hO:IsPair s.heap to u v) (hi:ItAt s.heap ta i a k) (hj:ItAt s.heap tb j b k) (ha:SqAt s.heap ta a xs) (hb:SqAt s.heap tb b ys) (hx:xs[k]?=some x) (hy:ys[k]?=some y)
  (hQ:∀ h',z2l h' z ti to (rawInt s.heap.objs.size)→IsPair h' to x y→ItAt h' ta i a (k+1)→ItAt h' tb j b (k+1)→IsPair h' s.heap.objs.size x y→h'.objs.size=s.heap.objs.size+1 →
   (∀ c o,c≠z→c≠to→c≠i→c≠j→s.heap.get? c=some o→h'.get? c=some o)→Q (.ref s.heap.objs.size) { s with heap:=h' }) :
  wpAny (model prog w) A (Builtin.«zip.__next__» ⟨[.ref z],[]⟩) (fun fin s'=>∃ v,fin = .done (.ret v)∧Q v s') E s:=by
 show wpAny _ _ (field (.ref z) 2 >>= fun t=>_) _ _ _
 refine wpAny_bind (wpAny_field hz rfl (x:=Value.bool true) rfl ?_)
 show wpAny _ _ (field (.ref z) 3 >>= fun t=>_) _ _ _
 refine wpAny_bind (wpAny_field hz rfl (x:=Value.ref ti) rfl ?_)
 refine wpAny_bind (wpAny_seqItems hI rfl ?_)
 show wpAny _ _ (Builtin.SmallTypes.ownedTupleIsFree (.ref z) >>= fun t=>_) _ _ _
 refine wpAny_bind ?_
 unfold Builtin.SmallTypes.ownedTupleIsFree
 refine wpAny_bind (wpAny_field hz rfl (x:=Value.none) rfl (wpAny_pure ?_))
 simp only[if_true]
 refine wpAny_bind (wpAny_rule ?_)
 refine wpAny_bind (wpAny_field hz rfl (x:=Value.ref to) rfl ?_)
 refine wpAny_bind (wpAny_setField_rec hz (by simp) fun g1 z1 m1=>?_)
 replace z1:z2l g1 z ti to .ellipsis:=z1
 refine wpAny_bind ?_
 simp only[List.zipIdx_cons,List.forIn_cons,List.zipIdx_nil,List.forIn_nil]
 refine wpAny_bind (wpAny_bind (wpAny_onRaise ?_))
 show wpAny _ _ (Builtin.SmallTypes.nextOrEnd (.ref i)) _ _ _
 refine z98 (hi.at fun o e=>m1.extBut _ _ D.p3 e) (ha.at fun o e=>m1.extBut _ _ D.a1 e) hx fun g2 i2 m2=>?_
 have o2:IsPair g2 to u v:=m2.extBut _ _ D.p8 (m1.extBut _ _ D.p2 hO)
 refine wpAny_bind (wpAny_seqItems o2 rfl ?_)
 refine wpAny_bind (wpAny_updateSeq_pair o2 fun g3 o3 m3=>?_)
 replace o3:IsPair g3 to x v:=o3
 refine wpAny_bind (wpAny_letGo (wpAny_pure ?_))
 refine wpAny_bind (wpAny_bind (wpAny_onRaise ?_))
 show wpAny _ _ (Builtin.SmallTypes.nextOrEnd (.ref j)) _ _ _
 refine z98 (hj.at fun o e=>m3.extBut _ _ D.p9.symm (m2.extBut _ _ D.p10.symm (m1.extBut _ _ D.p4 e))) (hb.at fun o e=>m3.extBut _ _ D.b2 (m2.extBut _ _ D.b3 (m1.extBut _ _ D.b1 e))) hy fun g4 j4 m4=>?_
 have o4:IsPair g4 to x v:=m4.extBut _ _ D.p9 o3
 refine wpAny_bind (wpAny_seqItems o4 rfl ?_)
 refine wpAny_bind (wpAny_updateSeq_pair o4 fun g5 o5 m5=>?_)
 replace o5:IsPair g5 to x y:=o5
 refine wpAny_bind (wpAny_letGo (wpAny_pure (wpAny_pure ?_)))
 refine wpAny_bind (wpAny_seqItems o5 rfl ?_)
 refine wpAny_bind (wpAny_newTuple ?_)
 have sz:g5.objs.size=s.heap.objs.size:=by rw[m5.1,m4.1,m3.1,m2.1,m1.1]
 have z5:z2l g5 z ti to .ellipsis:=m5.extBut _ _ D.p2.symm (m4.extBut _ _ D.p4.symm (m3.extBut _ _ D.p2.symm (m2.extBut _ _ D.p3.symm z1)))
 have k5:∀ c o,c≠z→c≠to→c≠i→c≠j→s.heap.get? c=some o→g5.get? c=some o:=fun c o c1 c2 c3 c4 e=>m5.extBut _ _ c2 (m4.extBut _ _ c4 (m3.extBut _ _ c2 (m2.extBut _ _ c3 (m1.extBut _ _ c1 e))))
 have i5:ItAt g5 ta i a (k+1):=i2.at fun o e=>m5.extBut _ _ D.p8.symm (m4.extBut _ _ D.p10 (m3.extBut _ _ D.p8.symm e))
 have j5:ItAt g5 tb j b (k+1):=j4.at fun o e=>m5.extBut _ _ D.p9.symm e
 have zl:z<g5.objs.size:=Heap.lt_size z5
 show wpAny _ _ (Builtin.SmallTypes.ownedTupleHandOut (.ref z) (.ref g5.objs.size) >>= fun t=>_) _ _ _
 refine wpAny_bind ?_
 unfold Builtin.SmallTypes.ownedTupleHandOut
 have z6:z2l (g5.push { cls := .type "tuple",data := .seq #[x,y] }) z ti to .ellipsis:=Heap.get?_push_of_some _ z5
 refine wpAny_bind (wpAny_setField_rec z6 (by simp) fun g7 z7 m7=>?_)
 replace z7:z2l g7 z ti to (rawInt g5.objs.size):=z7
 refine wpAny_setField_rec z7 (by simp) fun g8 z8 m8=>?_
 replace z8:z2l g8 z ti to (rawInt g5.objs.size):=z8
 have up:∀ c o,c≠z→g5.get? c=some o→g8.get? c=some o:=fun c o c1 e=>m8.extBut _ _ c1 (m7.extBut _ _ c1 (Heap.get?_push_of_some _ e))
 have t8:IsPair g8 g5.objs.size x y:=m8.extBut _ _ (Nat.ne_of_gt zl) (m7.extBut _ _ (Nat.ne_of_gt zl) (Heap.get?_push_size _ rfl))
 have s8:g8.objs.size=g5.objs.size+1:=by rw[m8.1,m7.1,Heap.size_push]
 rw[sz]at z8 t8 s8
 refine wpAny_pure ⟨_,rfl,?_⟩
 show Q (.ref g5.objs.size) _
 rw[sz]
 exact hQ g8 z8 (up _ _ D.p2 o5) (i5.at fun o e=>up _ o D.p3 e) (j5.at fun o e=>up _ o D.p4 e) t8 s8 fun c o c1 c2 c3 c4 e=>up c o c1 (k5 c o c1 c2 c3 c4 e)
theorem zla{z ti to i j a b:Addr}{ta tb:Bool}{k:Nat}{xs ys:Array Value}{u v:Value}{Q:Fin→Shared→Prop}(hn:A.handled=none)(D:Apart z ti to i j a b)
  (hz:z2l s.heap z ti to .none) (hI:IsPair s.heap ti (.ref i) (.ref j)) (hO:IsPair s.heap to u v) (hi:ItAt s.heap ta i a k) (hj:ItAt s.heap tb j b k) (ha:SqAt s.heap ta a xs) (hb:SqAt s.heap tb b ys) (hx:xs[k]?=none) (hy:ys[k]?=none)
  (hE:∀ h' e,(∀ c o,c≠z→c≠to→c≠i→c≠j→s.heap.get? c=some o→h'.get? c=some o)→(∃ o,h'.get? e=some o∧o.cls = .type "StopIteration")→E (.ref e) { s with heap:=h' }) :
  wpAny (model prog w) A (Builtin.«zip.__next__» ⟨[.ref z],[]⟩) Q E s:=by
 show wpAny _ _ (field (.ref z) 2 >>= fun t=>_) _ _ _
 refine wpAny_bind (wpAny_field hz rfl (x:=Value.bool true) rfl ?_)
 show wpAny _ _ (field (.ref z) 3 >>= fun t=>_) _ _ _
 refine wpAny_bind (wpAny_field hz rfl (x:=Value.ref ti) rfl ?_)
 refine wpAny_bind (wpAny_seqItems hI rfl ?_)
 show wpAny _ _ (Builtin.SmallTypes.ownedTupleIsFree (.ref z) >>= fun t=>_) _ _ _
 refine wpAny_bind ?_
 unfold Builtin.SmallTypes.ownedTupleIsFree
 refine wpAny_bind (wpAny_field hz rfl (x:=Value.none) rfl (wpAny_pure ?_))
 simp only[if_true]
 refine wpAny_bind (wpAny_rule ?_)
 refine wpAny_bind (wpAny_field hz rfl (x:=Value.ref to) rfl ?_)
 refine wpAny_bind (wpAny_setField_rec hz (by simp) fun g1 z1 m1=>?_)
 replace z1:z2l g1 z ti to .ellipsis:=z1
 refine wpAny_bind ?_
 simp only[List.zipIdx_cons,List.forIn_cons,List.zipIdx_nil,List.forIn_nil]
 refine wpAny_bind (wpAny_bind (wpAny_onRaise ?_))
 show wpAny _ _ (Builtin.SmallTypes.nextOrEnd (.ref i)) _ _ _
 refine zaY hn (hi.at fun o e=>m1.extBut _ _ D.p3 e) (ha.at fun o e=>m1.extBut _ _ D.a1 e) hx fun g2 m2=>?_
 have z2:z2l g2 z ti to .ellipsis:=m2 _ _ D.p3.symm z1
 refine wpAny_bind (wpAny_setField_rec z2 (by simp) fun g3 z3 m3=>?_)
 refine wpAny_bind ?_
 show wpAny _ _ (zEnd [.ref i,.ref j] 0) _ _ _
 unfold zEnd
 rw[if_neg (Nat.lt_irrefl 0)]
 show wpAny _ _ (forIn [(Value.ref j,1)] PUnit.unit _ >>= fun t=>_) _ _ _
 simp only[List.forIn_cons,List.forIn_nil]
 refine wpAny_bind (wpAny_bind (wpAny_bind (zaY hn (hj.at fun o e=>m3.extBut _ _ D.p4 (m2 _ _ D.p10.symm (m1.extBut _ _ D.p4 e))) (hb.at fun o e=>m3.extBut _ _ D.b1 (m2 _ _ D.b3 (m1.extBut _ _ D.b1 e))) hy fun g4 m4=>?_)))
 simp only[Option.isSome_none,Bool.false_eq_true,if_false]
 refine wpAny_pure (wpAny_pure (wpAny_bind (wpAny_rule ?_)))
 unfold Builtin.SmallTypes.stopIteration
 refine wpAny_bind ?_
 simp only[newExc,newTuple]
 refine wpAny_bind (wpAny_newObj_type ?_ (by size_fits))
 refine wpAny_bind (m:=firstArgMember _ _) (wpAny_of_eq (a:=Value.none) (by first|(simp only[firstArgMember];rfl)|rfl) ?_)
 refine wpAny_newObj_type ?_ (by size_fits)
 simp only[raiseNew]
 refine wpAny_bind (wpAny_handled ?_)
 first|rw[hn]|rw[show A.in1.handled=none from hn]
 refine wpAny_bind (wpAny_pure (wpAny_throw ?_))
 refine hE _ _ (fun c o c1 c2 c3 c4 e=>?_) ⟨_,Heap.get?_push_size _ rfl,rfl⟩
 exact Heap.get?_push_of_some _ (Heap.get?_push_of_some _ (m4 _ _ c4 (m3.extBut _ _ c1 (m2 _ _ c3 (m1.extBut _ _ c1 e)))))
theorem zgD{z ti to i j a b:Addr}{ta tb:Bool}{k:Nat}{xs ys:Array Value}{x y u v:Value}{Q:Option Value→Shared→Prop}(D:Apart z ti to i j a b)
  (hz:z2l s.heap z ti to .none) (hI:IsPair s.heap ti (.ref i) (.ref j)) (hO:IsPair s.heap to u v) (hi:ItAt s.heap ta i a k) (hj:ItAt s.heap tb j b k) (ha:SqAt s.heap ta a xs) (hb:SqAt s.heap tb b ys) (hx:xs[k]?=some x) (hy:ys[k]?=some y)
  (hQ:∀ h',z2l h' z ti to (rawInt s.heap.objs.size)→IsPair h' to x y→ItAt h' ta i a (k+1)→ItAt h' tb j b (k+1)→IsPair h' s.heap.objs.size x y→h'.objs.size=s.heap.objs.size+1 →
   (∀ c o,c≠z→c≠to→c≠i→c≠j→s.heap.get? c=some o→h'.get? c=some o)→Q (some (.ref s.heap.objs.size)) { s with heap:=h' }):wpAny (model prog w) A (pyNext (.ref z)) Q E s:=by
 have t:s.TypeIs (.ref z) "zip" := ⟨_,hz,rfl⟩
 unfold pyNext
 exact wpAny_bind (wpAny_attempt (wpAny_callSpecial?_slot (name:=Str.ofString "__next__") t F.slot_zip_next (wpAny_call_entry F.slot_zip_next t F.entry_zip_next
  (zhF D hz hI hO hi hj ha hb hx hy fun h' q1 q2 q3 q4 q5 q6 q7=>wpAny_pure (hQ h' q1 q2 q3 q4 q5 q6 q7)) (F.args_zip_next_1 _))))
theorem zhG{z ti to i j a b:Addr}{ta tb:Bool}{k:Nat}{xs ys:Array Value}{u v:Value}{Q:Option Value→Shared→Prop}(hn:A.handled=none)(D:Apart z ti to i j a b)
  (hz:z2l s.heap z ti to .none) (hI:IsPair s.heap ti (.ref i) (.ref j)) (hO:IsPair s.heap to u v) (hi:ItAt s.heap ta i a k) (hj:ItAt s.heap tb j b k) (ha:SqAt s.heap ta a xs) (hb:SqAt s.heap tb b ys) (hx:xs[k]?=none) (hy:ys[k]?=none)
  (hQ:∀ h',(∀ c o,c≠z→c≠to→c≠i→c≠j→s.heap.get? c=some o→h'.get? c=some o)→Q none { s with heap:=h' }):wpAny (model prog w) A (pyNext (.ref z)) Q E s:=by
 have t:s.TypeIs (.ref z) "zip" := ⟨_,hz,rfl⟩
 unfold pyNext
 refine wpAny_bind (wpAny_attempt (wpAny_callSpecial?_slot (name:=Str.ofString "__next__") t F.slot_zip_next (wpAny_call_entry F.slot_zip_next t F.entry_zip_next
  (zla hn D hz hI hO hi hj ha hb hx hy fun h' e q1 hZ=>hZ.elim fun o hZ=>hZ.elim fun q2 q3=>?_) (F.args_zip_next_1 _))))
 exact wpAny_bind (wpAny_isInstance (T := "StopIteration") (b:=true) ⟨o,q2,q3⟩ isSubtype_stop (wpAny_pure (hQ _ q1)))
theorem let_go{elts:List Expr}{n:Nat}{pos:Pos}{z ti to t:Addr}{Q:Unit→Shared→Prop}(hz:z2l s.heap z ti to (rawInt t))
  (hQ:∀ h',z2l h' z ti to .none→Heap.SameBut z s.heap h'→Q () { s with heap:=h' }):wpAny (model prog w) A (letOwnedTupleGo (.Tuple elts n pos) (.ref z) (.ref t)) Q E s:=by
 unfold letOwnedTupleGo
 refine wpAny_bind (wpAny_load hz ?_)
 show wpAny _ _ (if(["enumerate", "zip", "dict_itemiterator", "dict_reverseitemiterator", "odict_iterator", "itertools.zip_longest", "itertools.pairwise"].contains "zip" && (#[rawInt t,.bool false,.bool true,.ref ti,.ref to]:Array Value)[0]?==some (rawInt t))=true then _ else _) Q E s
 rw[if_pos (by simp)]
 refine wpAny_bind (wpAny_rule ?_)
 show wpAny _ _ (setField (.ref z) 0 .none) Q E s
 exact wpAny_setField_rec hz (by simp) fun h' q1 q2=>hQ h' q1 q2
theorem zaZ{z ti to:Addr}{f:Value}{Q:Value→Shared→Prop}(hz:z2l s.heap z ti to f)(h:Q (.ref z) s):wpAny (model prog w) A (pyIter (.ref z)) Q E s:=by
 have t:s.TypeIs (.ref z) "zip" := ⟨_,hz,rfl⟩
 refine wpAny_pyIter_slot t F.slot_zip_iter (wpAny_call_entry F.slot_zip_iter t F.entry_zip_iter ?_ (F.args_zip_iter_1 _))
 show wpAny _ _ (ret (.ref z)) _ _ s
 exact wpAny_pure ⟨_,rfl, "zip",_,t,F.slot_zip_next.lookup,h⟩
def zb0(tu:Bool)(l:Addr):Obj:={ cls := .type (if tu then "tuple_iterator" else "list_iterator"),data := .fields #[.ref l,.int 0 0] }
theorem zb1{tu:Bool}{l:Addr}{xs:Array Value}{Q:Value→Shared→Prop}(h:SqAt s.heap tu l xs)(q:Q (.ref s.heap.objs.size) { s with heap:=s.heap.push (zb0 tu l) }):wpAny (model prog w) A (pyIter (.ref l)) Q E s:=by
 cases tu with
 | true=>exact wpAny_pyIter_tuple h q
 | false=>exact wpAny_pyIter_list h q
theorem zb2{h:Heap}{tu:Bool}{l p:Addr}(e:h.get? p=some (zb0 tu l)):ItAt h tu p l 0:=by
 unfold ItAt
 cases tu with
 | true=>exact⟨_,e,rfl,rfl⟩
 | false=>exact⟨_,e,rfl,rfl⟩
abbrev h1(h:Heap)(ta:Bool)(a:Addr):Heap:=h.push (zb0 ta a)
abbrev h2(h:Heap)(ta tb:Bool)(a b:Addr):Heap:=(h1 h ta a).push (zb0 tb b)
abbrev h3(h:Heap)(ta tb:Bool)(a b:Addr):Heap:=(h2 h ta tb a b).push { cls := .type "tuple",data := .seq #[.ref h.objs.size,.ref (h1 h ta a).objs.size] }
abbrev h4(h:Heap)(ta tb:Bool)(a b:Addr):Heap:=(h3 h ta tb a b).push { cls := .type "tuple",data := .seq #[.none,.none] }
abbrev h5(h:Heap)(ta tb:Bool)(a b:Addr):Heap:=(h4 h ta tb a b).push { cls := .type "zip",data := .fields #[.none,.bool false,.bool true,.ref (h2 h ta tb a b).objs.size,.ref (h3 h ta tb a b).objs.size] }
theorem zgE(a b:Addr)(ta tb:Bool)(xs ys:Array Value):Meets (Builtin.«zip.__new__» ⟨[.type "zip",.ref a,.ref b],[(Str.ofString "strict",.bool true)]⟩)
  (fun _ R s=>SqAt s.heap ta a xs∧SqAt s.heap tb b ys∧R (.ok (.ret (.ref (h4 s.heap ta tb a b).objs.size))) { s with heap:=h5 s.heap ta tb a b }) :=
 .of_wp fun prog w A R s hZ=>hZ.elim fun qa hZ=>hZ.elim fun qb q=>by
  obtain⟨hp,g,d,tk,os⟩:=s
  have f1:=sub_zip
  have e1:SqAt (Shared.heap ⟨hp,g,d,tk,os⟩) ta a xs:=qa
  have e2:SqAt (Shared.heap ⟨hp.push (zb0 ta a),g,d,tk,os⟩) tb b ys:=qb.at fun o e=>Heap.get?_push_of_some _ e
  wp_walk using zb1 e1,zb1 e2
  exact⟨_,rfl,q⟩
end
end ZL

end
section
set_option Elab.async false
set_option linter.all false
set_option maxRecDepth 100000
set_option maxHeartbeats 4000000
namespace ZL
open PySem PyProof.Rows
theorem okT(a b v:Value):checkTypeCall "zip" ⟨[a,b],[(Str.ofString "strict",v)]⟩=pure ():=by kernel_rfl
theorem okN(a b v:Value):checkBuiltinCall "zip.__new__" ⟨[.type "zip",a,b],[(Str.ofString "strict",v)]⟩=pure ():=by kernel_rfl
theorem okI(a b c v:Value):argsOk "object.__init__" ⟨[a,b,c],[(Str.ofString "strict",v)]⟩:=by
 unfold argsOk;rw[signature?_of (id := "object.__init__") (n := "__init__".toList.reverse) (o := "object".toList.reverse) (by kernel_rfl) F.owner_object];kernel_rfl
section
variable {prog:Program}{w:World}{A:Around}{E:Value→Shared→Prop}{s:Shared}
theorem zcu(self a b v:Value):Meets (Builtin.«object.__init__» ⟨[self,a,b],[(Str.ofString "strict",v)]⟩) (fun _ R s=>s.TypeIs self "zip" ∧ R (.ok (.ret .none)) s):=by
 refine Meets.of_wp ?_
 rintro prog w A R s ⟨t,q⟩
 have hl:=F.called_zip.init.lookup
 have hm:=F.called_zip.made
 have hne:(some "zip.__new__" != some "object.__new__")=true:=by decide
 repeat (any_goals first|assumption|wp_step)
 exact⟨_,rfl,q⟩
theorem zhH{a b:Addr}{ta tb:Bool}{xs ys:Array Value}{Q:Value→Shared→Prop}(qa:SqAt s.heap ta a xs)(qb:SqAt s.heap tb b ys)
   (q:Q (.ref (h4 s.heap ta tb a b).objs.size) { s with heap:=h5 s.heap ta tb a b }):wpAny (model prog w) A (call (.type "zip") [.ref a,.ref b] [(Str.ofString "strict",.bool true)]) Q E s:=by
 obtain⟨c,tl,hmro⟩:=F.called_zip.mro
 have m1:=F.called_zip.made
 have m2:=F.called_zip.sub
 have m3:=okT (.ref a) (.ref b) (.bool true)
 refine wpAny_call (codeAny_of_tree ?_)
 show wpAny _ _ (callAny (.type "zip") _) _ _ _
 refine wpAny_pure ⟨Code.quiet_builtin _ (by decide +kernel),codeAny_builtin F.entry_type_call ?_⟩
 rw[Around.under_plain (weight_type_call_type "zip" _ _) (units_type_call_type "zip" _ _)]
 have m4:=F.called_zip.notType
 have m5:=F.called_zip.canCreate
 repeat (any_goals first|assumption|wp_step)
 refine codeAny_mono (codeAny_call_builtin F.called_zip.plain F.entry_zip_new (wpAny_of_eq (okN _ _ _) (zgE a b ta tb xs ys prog w A.in1 (wants (fun o s1=>s1.TypeIs o "zip" ∧ Q o s1) E) s ⟨qa,qb,?_⟩))) fun r s1 hr=>?_
 · exact⟨⟨_,Heap.get?_push_size _ rfl,rfl⟩,q⟩
 cases r with
 | error e=>exact hr
 | ok fl =>
   cases fl with
   | ret o =>
    obtain⟨ty,hq⟩:=hr
    have n1:=F.called_zip.init.lookup
    have n2:=F.called_zip.init.bind o
    repeat (any_goals first|assumption|wp_step)
    refine codeAny_mono (codeAny_call_builtin F.called_zip.init.plain F.entry_object_init (F.called_zip.init.check _ _ _ _ _ _ _ _ ty (okI o _ _ _) (zcu o _ _ _ prog w A.in1 (wants (fun r s2=>r = .none∧Q o s2) E) s1 ⟨ty,rfl,hq⟩))) fun r2 s2 hr2=>?_
    cases r2 with
    | error e=>exact hr2
    | ok f2 =>
     cases f2 with
     | ret r =>
      obtain⟨rfl,hq⟩:=hr2
      repeat (any_goals first|assumption|wp_step)
     | _=>exact hr2.elim
   | _=>exact hr.elim
end
end ZL

end
section
local macro_rules|`(tactic| omega)=>`(tactic| first|lia|omega +splitDisjunctions)
set_option Elab.async false
set_option linter.all false
set_option maxRecDepth 100000
set_option maxHeartbeats 1000000
namespace L2
open PySem PySem.Spec PyProof.Rows ZL
section
variable {X:Cx}{pins:List (Addr×Obj)}{σ:St}{H:Hp}{s:Shared}{h':Heap}
theorem Inv.turnedL{t':Nat}{ch:List Addr}(I:Inv X pins σ H s)(k:∀ b o,b ∉ ch→s.heap.get? b=some o→h'.get? b=some o)(hc:∀ b∈ch,FpOk X pins H b):Inv X pins σ H { s with heap:=h',toks:=t' }:=by
 have nit:∀ b u,H b=some u→b ∉ ch:=fun b u e z=>by rw[(hc b z).1]at e;cases e
 refine I.step (g':=s.gens) (d':=s.drawn) (ch:=ch) (fun b hb=>?_) (fun b o _ _ hn e _=>k b o hn e) (fun b o _ _ hn e _=>⟨o.slots,k b o hn e⟩) (fun _ _ _ _ n=>n)
   (fun b o hn e=>⟨o,k b o hn e⟩) (fun _ _ e=>e) (fun _ _ _ e=>e) (fun b ps e=>⟨#[],by rw[e];simp⟩) (fun m hm=>?_) (fun b u e=>?_) I.bare
 · obtain⟨f0,f1,f2,f3,f4,f5⟩:=hc b hb
   exact⟨f3,f1,f4,f5⟩
 · obtain⟨o,es,ep,ho,r⟩:=hm
   exact⟨o,es,ep,k _ o (fun z=>(hc _ z).2.1 rfl) ho,r⟩
 · refine(I.hok b u e).stay (fun c v hcc q=>k c v ?_ q) (fun _ q=>q) fun _ _ q=>q
   rcases hcc with z|z
   · rw[z];exact nit b u e
   · exact nit c _ z
theorem Inv.pair{t':Nat}{ch:List Addr}{x y:V}{u v:Value}(I:Inv X pins σ H s)(rx:RelV x u)(ry:RelV y v)(hp:h'.get? s.heap.objs.size=some { cls := .type "tuple",data := .seq #[u,v] })
   (k:∀ b o,b ∉ ch→s.heap.get? b=some o→h'.get? b=some o) (hc:∀ b∈ch,FpOk X pins H b) (hl:∀ b∈ch,b<s.heap.objs.size) :
   H s.heap.objs.size=none∧Inv X pins σ (upd H s.heap.objs.size (.tup [x,y])) { s with heap:=h',toks:=t' }:=by
 have hn:H s.heap.objs.size=none:=I.hok.fresh (Nat.le_refl _)
 have I1:Inv X pins σ (upd H s.heap.objs.size (.tup [x,y])) { s with heap:=s.heap.push { cls := .type "tuple",data := .seq #[u,v] },toks:=t' } :=
   I.laid (fun b o e=>Heap.get?_push_of_some _ e) (Nat.le_refl _) ⟨by show 2≤sizeLine;decide,[u,v],.cons rx (.cons ry .nil),⟨_,Heap.get?_push_size _ rfl,rfl,_,rfl⟩⟩
 refine⟨hn,Inv.turnedL (s:={ s with heap:=s.heap.push { cls := .type "tuple",data := .seq #[u,v] },toks:=t' }) (h':=h') (t':=t') (ch:=ch) I1 (fun b o hb e=>?_) fun b hb=>?_⟩
 · by_cases q:b=s.heap.objs.size
   · subst q
     have e2:(s.heap.push { cls := .type "tuple",data := .seq #[u,v] }).get? s.heap.objs.size=some _:=Heap.get?_push_size _ rfl
     have e:(s.heap.push { cls := .type "tuple",data := .seq #[u,v] }).get? s.heap.objs.size=some o:=e
     rw[e2]at e
     rw[hp];exact e
   · refine k b o hb ?_
     have e:(s.heap.push { cls := .type "tuple",data := .seq #[u,v] }).get? b=some o:=e
     rw[Heap.get?_push_ne _ _ _ q]at e
     exact e
 · obtain⟨f0,f⟩:=hc b hb
   exact⟨by rw[z0u (Nat.ne_of_lt (hl b hb))];exact f0,f⟩
end
def SqV(K:PySem.W.Frag)(tu:Bool)(H:Hp)(a:Addr)(xs:List V):Prop:=if tu then SqT K H a xs else SqL K H a xs
theorem SqV.mono{K:PySem.W.Frag}{tu:Bool}{H H':Hp}{a:Addr}{xs:List V}(e:Same H H')(h:SqV K tu H a xs):SqV K tu H' a xs:=by
 unfold SqV at h ⊢
 cases tu with
 | true=>exact e.seqT h
 | false=>exact e.seq h
theorem Inv.sq{X:Cx}{pins:List (Addr×Obj)}{σ:St}{H:Hp}{s:Shared}{tu:Bool}{a:Addr}{xs:List V}(I:Inv X pins σ H s)(h:SqV X.K tu H a xs):∃ its:List Value,Vals xs its∧SqAt s.heap tu a its.toArray∧xs.length≤sizeLine:=by
 unfold SqV at h
 unfold SqAt
 cases tu with
 | true=>obtain⟨its,r,p,z⟩:=I.tuple h;exact⟨its,r,p,z⟩
 | false=>obtain⟨its,r,p,z⟩:=I.list h;exact⟨its,r,p.isList,z⟩
theorem Inv.sq_inj{X:Cx}{pins:List (Addr×Obj)}{σ:St}{H:Hp}{s:Shared}{tu:Bool}{a:Addr}{xs ys:List V}(I:Inv X pins σ H s)(h:SqV X.K tu H a xs)(h':SqV X.K tu H a ys):xs=ys:=by
 unfold SqV at h h'
 cases tu with
 | true=>exact I.tuple_inj h h'
 | false=>exact I.list_inj h h'
def Itz(K:PySem.W.Frag)(ta tb:Bool)(a b:Addr):It where
 go:=fun i H=>∃ xs ys x y,SqV K ta H a xs∧SqV K tb H b ys∧xs[i]?=some x∧ys[i]?=some y
 yld:=fun i H v H'=>∃ p x y,(∀ xs,SqV K ta H a xs→xs[i]?=some x)∧(∀ ys,SqV K tb H b ys→ys[i]?=some y)∧H p=none∧v = .ref p∧H'=upd H p (.tup [x,y])
 stop:=fun i H=>∃ xs ys,SqV K ta H a xs∧SqV K tb H b ys∧xs.length≤i∧ys.length≤i
theorem mem5{z ti to i j c:Addr}(h:c ∉ [z,ti,to,i,j]):c≠z∧c≠ti∧c≠to∧c≠i∧c≠j:=by simpa using h
theorem zhI{P:Program}{w:World}{K:PySem.W.Frag}{elts:List Expr}{n:Nat}{pos:Pos}{ta tb:Bool}{z ti to i j a b:Addr}(D:Apart z ti to i j a b):
  Turn P w K (.Tuple elts n pos) (Itz K ta tb a b) [z,ti,to,i,j] z (fun k h=>z2l h z ti to .none∧IsPair h ti (.ref i) (.ref j)∧(∃ u v,IsPair h to u v)∧ItAt h ta i a k∧ItAt h tb j b k) where
 mem:=by simp
 obj:=fun k h ⟨q1,q2,⟨u,v,q3⟩,q4,q5⟩ c hc=>by
  have it:∀{tu:Bool} {it l:Addr} {k:Nat},ItAt h tu it l k→∃ o,h.get? it=some o∧∀ v,o.data ≠ .cell v:=fun{tu it l k} q=>by
    unfold ItAt at q
    cases tu with
    | true=>obtain⟨o,e,_,d⟩:=q;exact⟨o,e,fun v z=>by rw[d]at z;cases z⟩
    | false=>obtain⟨o,e,_,d⟩:=q;exact⟨o,e,fun v z=>by rw[d]at z;cases z⟩
  simp only[List.mem_cons,List.not_mem_nil,or_false]at hc
  rcases hc with rfl|rfl|rfl|rfl|rfl
  · exact⟨_,q1,fun v z=>by have z':Data.fields _=Data.cell v:=z;cases z'⟩
  · exact⟨_,q2,fun v z=>by have z':Data.seq _ _=Data.cell v:=z;cases z'⟩
  · exact⟨_,q3,fun v z=>by have z':Data.seq _ _=Data.cell v:=z;cases z'⟩
  · exact it q4
  · exact it q5
 keep:=fun k h h' ⟨q1,q2,⟨u,v,q3⟩,q4,q5⟩ kk=>⟨kk z (by simp) _ q1,kk ti (by simp) _ q2,⟨u,v,kk to (by simp) _ q3⟩,q4.at fun o e=>kk i (by simp) o e,q5.at fun o e=>kk j (by simp) o e⟩
 item:=by
  intro X hP hw hK hc k pins s σ H E I hf ⟨q1,q2,⟨u,v,q3⟩,q4,q5⟩ hg
  subst hP hw hK
  obtain⟨xs,ys,x,y,hx,hy,ex,ey⟩:=hg
  obtain⟨its,rx,px,_⟩:=I.sq hx
  obtain⟨jts,ry,py,_⟩:=I.sq hy
  obtain⟨ux,hux,rux⟩:=rx.get ex
  obtain⟨uy,huy,ruy⟩:=ry.get ey
  have lt:∀ b∈[z,ti,to,i,j],b<s.heap.objs.size:=fun b hb=>by
    simp only[List.mem_cons,List.not_mem_nil,or_false]at hb
    rcases hb with rfl|rfl|rfl|rfl|rfl
    · exact Heap.lt_size q1
    · exact Heap.lt_size q2
    · exact Heap.lt_size q3
    · exact q4.lt
    · exact q5.lt
  refine zgD D q1 q2 q3 q4 q5 px py (x:=ux) (y:=uy) (by simpa using hux) (by simpa using huy) fun h' a1 a2 a3 a4 a5 a6 a7=>⟨_,rfl,let_go a1 fun h'' b1 b2=>?_⟩
  have hzp:s.heap.objs.size≠z:=Nat.ne_of_gt (lt z (by simp))
  have kk:∀ b o,b ∉ [z,ti,to,i,j]→s.heap.get? b=some o→h''.get? b=some o:=fun b o hb e=>by
    obtain⟨c1,c2,c3,c4,c5⟩:=mem5 hb
    exact b2.extBut _ _ c1 (a7 b o c1 c3 c4 c5 e)
  obtain⟨hn,I1⟩:=I.pair (t':=s.toks) (h':=h'') rux ruy (b2.extBut _ _ hzp a5) kk hf lt
  refine⟨.ref s.heap.objs.size,_,I1,rfl,⟨_,x,y,fun zs hz=>by rw[I.sq_inj hz hx];exact ex,fun zs hz=>by rw[I.sq_inj hz hy];exact ey,hn,rfl,rfl⟩,?_,fun b hb=>by rw[z0u (Nat.ne_of_lt (lt b hb))];exact(hf b hb).1⟩
  exact⟨b1,b2.extBut _ _ D.p1 (a7 _ _ D.p1 D.p5 D.p6 D.p7 q2),⟨_,_,b2.extBut _ _ D.p2 a2⟩,a3.at fun o e=>b2.extBut _ _ D.p3 e,a4.at fun o e=>b2.extBut _ _ D.p4 e⟩
 done:=by
  intro X hP hw hK hc k pins s σ H E I hf ⟨q1,q2,⟨u,v,q3⟩,q4,q5⟩ hg
  subst hP hw hK
  obtain⟨xs,ys,hx,hy,ex,ey⟩:=hg
  obtain⟨its,rx,px,_⟩:=I.sq hx
  obtain⟨jts,ry,py,_⟩:=I.sq hy
  have l1:=rx.length
  have l2:=ry.length
  refine zhG (I.ok.hd hc) D q1 q2 q3 q4 q5 px py (by simp;omega) (by simp;omega) fun h' a7=>⟨rfl,I.turnedL (t':=s.toks) (ch:=[z,ti,to,i,j]) (fun b o hb e=>?_) hf⟩
  obtain⟨c1,c2,c3,c4,c5⟩:=mem5 hb
  exact a7 b o c1 c3 c4 c5 e
 self:=fun _ _ _ _ _ q h=>zaZ q.1 h
def Ite(K:PySem.W.Frag)(a:Addr):It where
 go:=fun i H=>∃ xs x,SqL K H a xs∧xs[i]?=some x
 yld:=fun i H v H'=>∃ p x,(∀ xs,SqL K H a xs→xs[i]?=some x)∧H p=none∧v = .ref p∧H'=upd H p (.tup [.int i,x])
 stop:=fun i H=>∃ xs,SqL K H a xs∧xs.length≤i
theorem zgF{P:Program}{w:World}{K:PySem.W.Frag}{elts:List Expr}{n:Nat}{pos:Pos}{e it a:Addr}(hne:e≠it):
  Turn P w K (.Tuple elts n pos) (Ite K a) [e,it] e (fun k h=>(∃ old,IsEnum h e it k old)∧h.IsListIter it a k) where
 mem:=by simp
 obj:=fun k h ⟨⟨old,q1⟩,q2⟩ c hc=>by
  simp only[List.mem_cons,List.not_mem_nil,or_false]at hc
  rcases hc with rfl|rfl
  · exact⟨_,q1,fun v z=>by have z':Data.fields _=Data.cell v:=z;cases z'⟩
  · obtain⟨o,e,_,d⟩:=q2;exact⟨o,e,fun v z=>by rw[d]at z;cases z⟩
 keep:=fun k h h' ⟨⟨old,q1⟩,q2⟩ kk=>⟨⟨old,kk e (by simp) _ q1⟩,q2.at fun o q=>kk it (by simp) o q⟩
 item:=by
  intro X hP hw hK hc k pins s σ H E I hf ⟨⟨old,q1⟩,q2⟩ hg
  subst hP hw hK
  obtain⟨xs,x,hx,ex⟩:=hg
  obtain⟨its,rx,px,_⟩:=I.list hx
  obtain⟨ux,hux,rux⟩:=rx.get ex
  have lt:∀ b∈[e,it],b<s.heap.objs.size:=fun b hb=>by
    simp only[List.mem_cons,List.not_mem_nil,or_false]at hb
    rcases hb with rfl|rfl
    · exact Heap.lt_size q1
    · obtain⟨o,z,_⟩:=q2;exact Heap.lt_size z
  refine wpAny_pyNext_enum_item q1 q2 px.isList (x:=ux) (by simpa using hux) hne fun h' a1 a2 a3 a4 a5=>⟨_,rfl,wpAny_letOwnedTupleGo_enum a1 fun h'' b1 b2=>?_⟩
  have hzp:s.heap.objs.size≠e:=Nat.ne_of_gt (lt e (by simp))
  have kk:∀ b o,b ∉ [e,it]→s.heap.get? b=some o→h''.get? b=some o:=fun b o hb q=>by
    have c:b≠e∧b≠it:=by simpa using hb
    exact b2.extBut _ _ c.1 (a5 b o c.1 c.2 q)
  obtain⟨hn,I1⟩:=I.pair (x := .int k) (t':=s.toks+1) (h':=h'') ⟨s.toks,rfl⟩ rux (b2.extBut _ _ hzp a3) kk hf lt
  refine⟨.ref s.heap.objs.size,_,I1,rfl,⟨_,x,fun zs hz=>by rw[I.list_inj hz hx];exact ex,hn,rfl,rfl⟩,⟨⟨_,b1⟩,a2.at fun o q=>b2.extBut _ _ (Ne.symm hne) q⟩,fun b hb=>by rw[z0u (Nat.ne_of_lt (lt b hb))];exact(hf b hb).1⟩
 done:=by
  intro X hP hw hK hc k pins s σ H E I hf ⟨⟨old,q1⟩,q2⟩ hg
  subst hP hw hK
  obtain⟨xs,hx,ex⟩:=hg
  obtain⟨its,rx,px,_⟩:=I.list hx
  have l1:=rx.length
  refine wpAny_pyNext_enum_end (I.ok.hd hc) q1 q2 px.isList (by simp;omega) fun h' a5=>⟨rfl,I.turnedL (t':=s.toks) (ch:=[e,it]) (fun b o hb q=>?_) hf⟩
  have c:b≠e∧b≠it:=by simpa using hb
  exact a5 b o c.2 q
 self:=fun _ _ _ _ _ q h=>by obtain⟨⟨old,q1⟩,_⟩:=q;exact wpAny_pyIter_enum q1 h
def Itv(K:PySem.W.Frag)(a:Addr)(n:Nat):It where
 go:=fun i H=>i<n∧∃ xs,SqL K H a xs∧xs.length=n
 yld:=fun i H v H'=>H'=H∧∀ xs,SqL K H a xs→xs[n-1-i]?=some v
 stop:=fun i H=>n≤i
theorem zhJ{P:Program}{w:World}{K:PySem.W.Frag}{tg:Expr}{it a:Addr}{n:Nat}:Turn P w K tg (Itv K a n) [it] it (fun k h=>k≤n∧h.IsRevIter it a ((n:Int)-1-(k:Int))) where
 mem:=by simp
 obj:=fun k h ⟨_,q⟩ c hc=>by
  have e:c=it:=by simpa using hc
  subst e
  obtain⟨o,e,_,d⟩:=q;exact⟨o,e,fun v z=>by rw[d]at z;cases z⟩
 keep:=fun k h h' ⟨q0,q⟩ kk=>⟨q0,q.at fun o z=>kk it (by simp) o z⟩
 item:=by
  intro X hP hw hK hc k pins s σ H E I hf ⟨q0,q⟩ hg
  subst hP hw hK
  obtain⟨hk,xs,hx,hn⟩:=hg
  obtain⟨its,rx,px,_⟩:=I.list hx
  have hlt:n-1-k<xs.length:=by omega
  obtain⟨ux,hux,rux⟩:=rx.get (List.getElem?_eq_getElem hlt)
  obtain⟨f0,f1,f2,f3,f4,f5⟩:=hf it (by simp)
  have e1:(n:Int)-1-(k:Int)=((n-1-k:Nat):Int):=by omega
  rw[e1]at q
  refine wpAny_pyNext_rev_item q px.isList (x:=ux) (by simpa using hux) fun h' b1 b2=>?_
  have I1:Inv X pins σ H { s with heap:=h' }:=I.turned (t':=s.toks) (fun b o hb e=>(b2.2 b hb).trans e) f0 f1 f3 f4 f5
  have e2:((n-1-k:Nat):Int)-1=(n:Int)-1-((k+1:Nat):Int):=by omega
  rw[e2]at b1
  obtain⟨o,e,c,d⟩:=id b1
  exact⟨ux,rfl,zfv (s:={ s with heap:=h' }) e c d (by decide) ⟨_,H,I1,rux,⟨rfl,fun ys hy=>by rw[I.list_inj hy hx];exact List.getElem?_eq_getElem hlt⟩,⟨by omega,b1⟩,fun b hb=>(hf b hb).1⟩⟩
 done:=by
  intro X hP hw hK hc k pins s σ H E I hf ⟨q0,q⟩ hg
  subst hP hw hK
  have hg:n≤k:=hg
  obtain rfl:k=n:=by omega
  obtain⟨f0,f1,f2,f3,f4,f5⟩:=hf it (by simp)
  have e1:(k:Int)-1-(k:Int) = -1:=by omega
  rw[e1]at q
  exact wpAny_pyNext_rev_end (I.ok.hd hc) q fun h' eb=>⟨rfl,I.turned (t':=s.toks) (fun b o hb e=>eb b o hb e) f0 f1 f3 f4 f5⟩
 self:=fun _ _ _ _ _ st h=>wpAny_pyIter_revIter st.2 h
section
variable {K:PySem.W.Frag}{H1:Hp}
theorem zlb{A:List Addr}{H:Hp}{p:Addr}{o:HO}(hp:H p=none)(hA:∀ a∈A,∃ o,H a=some o):hidL A (upd H p o)=upd (hidL A H) p o:=funext fun b=>by
 have np:p ∉ A:=fun z=>by obtain⟨u,e⟩:=hA p z;rw[hp]at e;cases e
 by_cases q:b=p
 · subst q;rw[z0p np,z0S,z0S]
 · rw[z0u q]
   by_cases z:b∈A
   · rw[z2i z,z2i z]
   · rw[z0p z,z0p z,z0u q]
theorem zb3{A:List Addr}{H:Hp}{p:Addr}{d d':Dt}{x y:V}(hp:H p=none)(hA:∀ a∈A,∃ o,H a=some o)(rx:Rp K emp d (hidL A H) x)(ry:Rp K emp d' (hidL A H) y):
  Same (hidL A H) (hidL A (upd H p (.tup [x,y])))∧(∀ a∈A,upd H p (.tup [x,y]) a=H a)∧Rp K emp (.tup [d,d']) (hidL A (upd H p (.tup [x,y]))) (.ref p):=by
 have np:p ∉ A:=fun z=>by obtain⟨u,e⟩:=hA p z;rw[hp]at e;cases e
 have hq:hidL A H p=none:=by rw[z0p np];exact hp
 rw[zlb hp hA]
 refine⟨z17 hq,fun a ha=>z0u fun z=>np (z ▸ ha),Rp.tup_.mpr ⟨p,_,rfl,SqT.of z0S,?_⟩⟩
 exact Rps.cons_.mpr ⟨x,[y],rfl,Rp.mono _ (z17 hq) rx,Rps.one (Rp.mono _ (z17 hq) ry)⟩
def zipD:List Dt→List Dt→List Dt
 | x::xs,y::ys => .tup [x,y]::zipD xs ys
 | _,_=>[]
theorem zb4:∀{xs ys:List Dt} {i:Nat} {d:Dt},(zipD xs ys)[i]?=some d→∃ x y,xs[i]?=some x∧ys[i]?=some y∧d = .tup [x,y]
 | [],ys,i,d,h=>by simp[zipD]at h
 | x::xs,[],i,d,h=>by simp[zipD]at h
 | x::xs,y::ys,0,d,h=>by simp[zipD]at h;exact⟨x,y,rfl,rfl,h.symm⟩
 | x::xs,y::ys,i+1,d,h=>by
  have h:(zipD xs ys)[i]?=some d:=by simpa[zipD]using h
  obtain⟨a,b,q1,q2,q3⟩:=zb4 h
  exact⟨a,b,by simpa using q1,by simpa using q2,q3⟩
theorem z5r:∀{xs ys:List Dt},(zipD xs ys).length=min xs.length ys.length
 | [],ys=>by simp[zipD]
 | x::xs,[]=>by simp[zipD]
 | x::xs,y::ys=>by rw[zipD,List.length_cons,z5r,List.length_cons,List.length_cons];omega
theorem zhK{ta tb:Bool}{a b:Addr}{ds es:List Dt}{vs ws:List V}(h1:SqV K ta H1 a vs)(h2:SqV K tb H1 b ws)(r1:Rps K emp ds H1 vs)(r2:Rps K emp es H1 ws)(hl:ds.length=es.length):Walk K (Itz K ta tb a b) (zipD ds es) H1:=by
 intro A H sm hA
 have s2:Same H1 H:=sm.trans z0G
 refine⟨fun i d e=>?_,fun i hi=>⟨vs,ws,h1.mono s2,h2.mono s2,?_,?_⟩⟩
 · obtain⟨x,y,ex,ey,rfl⟩:=zb4 e
   obtain⟨v,e1,p1⟩:=r1.get ex
   obtain⟨u,e2,p2⟩:=r2.get ey
   refine⟨⟨vs,ws,v,u,h1.mono s2,h2.mono s2,e1,e2⟩,?_⟩
   rintro z H' ⟨p,v',u',f1,f2,hp,ez,eH⟩
   have g1:=f1 vs (h1.mono s2)
   have g2:=f2 ws (h2.mono s2)
   rw[e1]at g1
   rw[e2]at g2
   cases g1;cases g2
   subst ez;subst eH
   exact zb3 hp hA (Rp.mono _ sm p1) (Rp.mono _ sm p2)
 · rw[z5r]at hi;rw[r1.length];omega
 · rw[z5r]at hi;rw[r2.length];omega
def z2s:Nat→List Dt→List Dt
 | _,[]=>[]
 | n,x::xs => .tup [.int n,x]::z2s (n+1) xs
theorem z99:∀{xs:List Dt} {n i:Nat} {d:Dt},(z2s n xs)[i]?=some d→∃ x,xs[i]?=some x∧d = .tup [.int ((n+i:Nat):Int),x]
 | [],n,i,d,h=>by simp[z2s]at h
 | x::xs,n,0,d,h=>by simp[z2s]at h;exact⟨x,rfl,h.symm⟩
 | x::xs,n,i+1,d,h=>by
  have h:(z2s (n+1) xs)[i]?=some d:=by simpa[z2s]using h
  obtain⟨a,q1,q3⟩:=z99 h
  exact⟨a,by simpa using q1,by rw[q3,show n+1+i=n+(i+1) by omega]⟩
theorem z6d:∀{xs:List Dt} {n:Nat},(z2s n xs).length=xs.length
 | [],n=>rfl
 | x::xs,n=>by rw[z2s,List.length_cons,List.length_cons,z6d]
theorem zgG{a:Addr}{ds:List Dt}{vs:List V}(h1:SqL K H1 a vs)(r1:Rps K emp ds H1 vs):Walk K (Ite K a) (z2s 0 ds) H1:=by
 intro A H sm hA
 have s2:Same H1 H:=sm.trans z0G
 refine⟨fun i d e=>?_,fun i hi=>⟨vs,s2.seq h1,?_⟩⟩
 · obtain⟨x,ex,rfl⟩:=z99 e
   rw[Nat.zero_add]
   obtain⟨v,e1,p1⟩:=r1.get ex
   refine⟨⟨vs,v,s2.seq h1,e1⟩,?_⟩
   rintro z H' ⟨p,v',f1,hp,ez,eH⟩
   have g1:=f1 vs (s2.seq h1)
   rw[e1]at g1
   cases g1
   subst ez;subst eH
   exact zb3 hp hA (Rp.int_.mpr rfl) (Rp.mono _ sm p1)
 · rw[z6d]at hi;rw[r1.length];omega
theorem zhL{a:Addr}{ds:List Dt}{vs:List V}(h1:SqL K H1 a vs)(r1:Rps K emp ds H1 vs):Walk K (Itv K a vs.length) ds.reverse H1:=by
 intro A H sm hA
 have s2:Same H1 H:=sm.trans z0G
 have hl:=r1.length
 refine⟨fun i d e=>?_,fun i hi=>?_⟩
 · have hi:i<ds.length:=by
    by_cases hi:i<ds.length
    · exact hi
    · rw[List.getElem?_eq_none (by simp;omega)]at e;cases e
   rw[List.getElem?_reverse hi]at e
   obtain⟨v,e1,p1⟩:=r1.get e
   refine⟨⟨by omega,vs,s2.seq h1,rfl⟩,?_⟩
   rintro z H' ⟨eH,f1⟩
   subst eH
   have g1:=f1 vs (s2.seq h1)
   rw[hl,e1]at g1
   cases g1
   exact⟨Same.refl _,fun _ _=>rfl,Rp.mono _ sm p1⟩
 · show vs.length≤i
   rw[List.length_reverse]at hi;omega
end
section
variable {X:Cx}{a b e:Expr}{Fa Fb:FE}{elts:List Expr}{n:Nat}{tpos pos:Pos}
theorem zgH{M:Model}{A:Around}{E:Value→Shared→Prop}{s:Shared}{env:Env}{T:String}{es:List Expr}{kws:List Keyword}{Q:Value→Shared→Prop}
  (h:wpAny M A (spliced (backTo pos (starEach (e::es) env))) (fun vs s1=>wpAny M A (evalAll ((backToKw pos (keywordEach kws env)).map (·.2))) (fun ks s2=>wpAny M A (call (.type T) vs (((backToKw pos (keywordEach kws env)).filterMap (·.1)).zip ks)) Q E s2) E s1) E s)
  (h1:backTo pos (starEach (e::es) env)=(false,eval e env)::backTo pos (starEach es env)) (h2:(backTo pos (starEach (e::es) env)).any (·.1)=false) (h3:(backToKw pos (keywordEach kws env)).all (·.1.isSome)=true) (h4:(backToKw pos (keywordEach kws env)).any (·.1.isNone)=false) :
  wpAny M A (callWith pos (.type T) [] (backTo pos (starEach (e::es) env)) (backToKw pos (keywordEach kws env))) Q E s:=by
 unfold callWith
 have g:wpAny M A (evalArgs (.type T) true (backTo pos (starEach (e::es) env)) (backToKw pos (keywordEach kws env))) (fun z s1=>wpAny M A (call (.type T) ([]++z.pos) z.kw) Q E s1) E s:=by
  rw[h1]at h ⊢
  exact evalArgs_kwB h3 h
 refine wpAny_bind (wpAny_holding (wpAny_mono g (fun z s1 g1=>wpAny_bind (wpAny_standAt ?_)) fun _ _ x=>x))
 simp only[h2,h4,Bool.or_false]
 refine wpAny_bind (wpAny_pure ?_)
 exact wpAny_bind (wpAny_mono g1 (fun r s2 hr=>wpAny_bind (wpAny_holding (wpAny_point (wpAny_pure hr)))) fun _ _ x=>x)
theorem zhM{H:Hp}{d:Dt}{ds:List Dt}{v:V}(e:seqD d=some ds)(r:Rp X.K emp d H v):∃ tu p vs,v = .ref p∧SqV X.K tu H p vs∧Rps X.K emp ds H vs:=by
 cases d<;>first|cases e|skip
 · obtain⟨p,vs,rfl,_,h1,h2⟩:=r.items
   exact⟨false,p,vs,rfl,SqL.of h1,h2⟩
 · obtain⟨p,vs,rfl,h1,h2⟩:=Rp.tup_.mp r
   exact⟨true,p,vs,rfl,h1,h2⟩
def iZip(F G:FE):FI:=fun ρ=>(F ρ).bind fun x=>(G ρ).bind fun y=>(seqD x.2).bind fun xs=>(seqD y.2).bind fun ys=>if xs.length=ys.length then some (zipD xs ys) else none
theorem zhN{p kp kpos:Pos}{jc:Nat}(hg:Gl X "zip")(hm:X.mg "zip" = none)(ha:PF X a Fa)(hb:PF X b Fb)(hs:starEach [a,b] X.env=[(false,eval a X.env),(false,eval b X.env)]:=by rfl)(hs1:starEach [b] X.env=[(false,eval b X.env)]:=by rfl):
   PFI X (.Tuple elts n tpos) (.Call (.Name "zip" p) [a,b] [⟨some "strict",.Constant (.bool true) jc kp,kpos⟩] pos) (iZip Fa Fb):=by
 intro pins s σ H R I ⟨ρ,items,rs,e0,k⟩
 obtain⟨⟨fa,da⟩,ea,e1⟩:=z04 e0
 obtain⟨⟨fb,db⟩,eb,e2⟩:=z04 e1
 obtain⟨xs,ex,e3⟩:=z04 e2
 obtain⟨ys,ey,e4⟩:=z04 e3
 clear e0 e1 e2 e3
 split at e4
 · rename_i hl
   cases e4
   have hA:PA X [a,b] (upAs X (z02 Fa (z02 Fb fNil))):=z03 ha (z03 hb z07 hs1) (by rw[hs,hs1])
   refine wpAny_Call_Name_kw (z3X I hg hm (by decide +kernel:bootBuiltins "zip" = some (.type "zip")) ?_)
   refine zgH (T := "zip") (thn (hA pos pins s σ H (fun vs H1=>Same H H1∧∃ va vb,vs=[va,vb]∧Rp X.K emp da H1 va∧Rp X.K emp db H1 vb) I ⟨ρ,[(fa,da),(fb,db)],rs,by simp[z02,fNil,ea,eb],fun vs H1 s1 ⟨va,r1,ee1,q1,vb,r2,ee2,q2,q3⟩=>⟨s1,va,vb,by rw[ee1,ee2,show r2=[]from q3],q1.sh,q2.sh⟩⟩) fun us s1 ⟨vs,H1,I1,rv,s1H,va,vb,ev,ra,rb⟩=>?_) (by rw[hs,hs1];rfl) (by rw[hs];rfl) rfl rfl
   subst ev
   obtain⟨ua,ub,rfl,rua,rub⟩:=rv.two
   obtain⟨ta,pa,vsa,rfl,qa1,qa2⟩:=zhM ex ra
   obtain⟨tb,pb,vsb,rfl,qb1,qb2⟩:=zhM ey rb
   cases rua;cases rub
   have hk:=zfx (X:=X) (nm:=some "strict") (kpos:=kpos) (pe_bl (X:=X) (b:=true) (j:=jc) (pos:=kp)) zhj
   refine thn (hk pos pins s1 σ H1 (fun zs H2=>zs=[.bl true]∧H2=H1) I1 ⟨rfl,rfl⟩) ?_
   rintro ks s2 ⟨zs,H2,I2,rz,ez,eH⟩
   subst ez;subst eH
   obtain⟨uk,rfl,ruk⟩:=rz.one
   cases ruk
   obtain⟨ita,rva,sa,hza⟩:=I2.sq qa1
   obtain⟨itb,rvb,sb,hzb⟩:=I2.sq qb1
   refine zhH sa sb ?_
   have z1:(h1 s2.heap ta pa).objs.size=s2.heap.objs.size+1:=Heap.size_push ..
   have z2:(h2 s2.heap ta tb pa pb).objs.size=s2.heap.objs.size+2:=by rw[Heap.size_push,z1]
   have z3:(h3 s2.heap ta tb pa pb).objs.size=s2.heap.objs.size+3:=by rw[Heap.size_push,z2]
   have z4:(h4 s2.heap ta tb pa pb).objs.size=s2.heap.objs.size+4:=by rw[Heap.size_push,z3]
   have g5:(h5 s2.heap ta tb pa pb).get? (h4 s2.heap ta tb pa pb).objs.size=some _:=Heap.get?_push_size _ rfl
   have g4:(h5 s2.heap ta tb pa pb).get? (h3 s2.heap ta tb pa pb).objs.size=some _:=Heap.get?_push_of_some _ (Heap.get?_push_size _ rfl)
   have g3:(h5 s2.heap ta tb pa pb).get? (h2 s2.heap ta tb pa pb).objs.size=some _:=Heap.get?_push_of_some _ (Heap.get?_push_of_some _ (Heap.get?_push_size _ rfl))
   have g2:(h5 s2.heap ta tb pa pb).get? (h1 s2.heap ta pa).objs.size=some _:=Heap.get?_push_of_some _ (Heap.get?_push_of_some _ (Heap.get?_push_of_some _ (Heap.get?_push_size _ rfl)))
   have g1:(h5 s2.heap ta tb pa pb).get? s2.heap.objs.size=some _:=Heap.get?_push_of_some _ (Heap.get?_push_of_some _ (Heap.get?_push_of_some _ (Heap.get?_push_of_some _ (Heap.get?_push_size _ rfl))))
   have up:∀ c o,s2.heap.get? c=some o→(h5 s2.heap ta tb pa pb).get? c=some o:=fun c o x=>Heap.get?_push_of_some _ (Heap.get?_push_of_some _ (Heap.get?_push_of_some _ (Heap.get?_push_of_some _ (Heap.get?_push_of_some _ x))))
   refine zaZ (z:=(h4 s2.heap ta tb pa pb).objs.size) (ti:=(h2 s2.heap ta tb pa pb).objs.size) (to:=(h3 s2.heap ta tb pa pb).objs.size) (f := .none) g5 ?_
   have la:=sa.lt
   have lb:=sb.lt
   have D:Apart (h4 s2.heap ta tb pa pb).objs.size (h2 s2.heap ta tb pa pb).objs.size (h3 s2.heap ta tb pa pb).objs.size s2.heap.objs.size (h1 s2.heap ta pa).objs.size pa pb:=by
     rw[z1,z2,z3,z4]
     constructor<;>exact fun z=>by simp only[Addr]at *;omega
   refine⟨_,[(h4 s2.heap ta tb pa pb).objs.size,(h2 s2.heap ta tb pa pb).objs.size,(h3 s2.heap ta tb pa pb).objs.size,s2.heap.objs.size,(h1 s2.heap ta pa).objs.size],_,_,H2,rfl,I2.kept (t':=s2.toks) up,zhI (ta:=ta) (tb:=tb) D,⟨g5,g3,⟨_,_,g4⟩,zb2 g1,zb2 g2⟩,fun c hc=>?_,k _ H2 s1H ?_ (zhK qa1 qb1 qa2 qb2 hl)⟩
   · have hge:s2.heap.objs.size≤c:=by
      rw[z1,z2,z3,z4]at hc
      simp only[List.mem_cons,List.not_mem_nil,or_false]at hc
      rcases hc with rfl|rfl|rfl|rfl|rfl<;>omega
     exact I2.fpOk hge (I2.hok.fresh hge)
   · rw[z5r,←qa2.length];omega
 · cases e4
def lstD:Dt→Option (List Dt)
 | .lst ds=>some ds
 | _=>none
def z5s(F:FE):FI:=fun ρ=>(F ρ).bind fun x=>(lstD x.2).map (z2s 0)
theorem zhO{H:Hp}{d:Dt}{ds:List Dt}{v:V}(e:lstD d=some ds)(r:Rp X.K emp d H v):∃ p vs,v = .ref p∧SqL X.K H p vs∧Rps X.K emp ds H vs:=by
 cases d<;>first|cases e|skip
 obtain⟨p,vs,rfl,_,h1,h2⟩:=r.items
 exact⟨p,vs,rfl,SqL.of h1,h2⟩
theorem zhP{p:Pos}(hg:Gl X "enumerate")(hm:X.mg "enumerate" = none)(ha:PF X a Fa)(hs:starEach [a] X.env=[(false,eval a X.env)]:=by rfl):PFI X (.Tuple elts n tpos) (.Call (.Name "enumerate" p) [a] [] pos) (z5s Fa):=by
 intro pins s σ H R I ⟨ρ,items,rs,e0,k⟩
 obtain⟨⟨fa,da⟩,ea,e1⟩:=z04 e0
 cases ex:lstD da with
 | none=>rw[ex]at e1;cases e1
 | some xs =>
  rw[ex]at e1
  cases e1
  have hA:PA X [a] (upAs X (z02 Fa fNil)):=z03 ha z07 hs
  refine wpAny_Call_Name_kw (z3X I hg hm (by decide +kernel:bootBuiltins "enumerate" = some (.type "enumerate")) ?_)
  refine PyProof.Rows.callWith_type1 (thn (hA pos pins s σ H (fun vs H1=>Same H H1∧∃ va,vs=[va]∧Rp X.K emp da H1 va) I ⟨ρ,[(fa,da)],rs,by simp[z02,fNil,ea],fun vs H1 s1 ⟨va,r1,ee1,q1,q3⟩=>⟨s1,va,by rw[ee1,show r1=[]from q3],q1.sh⟩⟩) fun us s1 ⟨vs,H1,I1,rv,s1H,va,ev,ra⟩=>?_) hs rfl
  subst ev
  obtain⟨ua,rfl,rua⟩:=rv.one
  obtain⟨pa,vsa,rfl,qa1,qa2⟩:=zhO ex ra
  cases rua
  obtain⟨ita,rva,pl,hza⟩:=I1.list qa1
  refine call_enumerate_list pl.isList fun h' b1 b2 b3 b4=>wpAny_pyIter_enum b1 ?_
  refine⟨_,[s1.heap.objs.size+1,s1.heap.objs.size],_,_,H1,rfl,I1.kept (t':=s1.toks) b4,zgF (Nat.succ_ne_self _),⟨⟨_,b1⟩,b2⟩,fun c hc=>?_,k _ H1 s1H ?_ (zgG qa1 qa2)⟩
  · have hge:s1.heap.objs.size≤c:=by
     simp only[List.mem_cons,List.not_mem_nil,or_false]at hc
     rcases hc with rfl|rfl
     · exact Nat.le_succ _
     · exact Nat.le_refl _
    exact I1.fpOk hge (I1.hok.fresh hge)
  · rw[z6d,←qa2.length];exact hza
def iRev(F:FE):FI:=fun ρ=>(F ρ).bind fun x=>(lstD x.2).map List.reverse
theorem i_rev{tg:Expr}{p:Pos}(hg:Gl X "reversed")(hm:X.mg "reversed" = none)(ha:PF X a Fa)(hs:starEach [a] X.env=[(false,eval a X.env)]:=by rfl):PFI X tg (.Call (.Name "reversed" p) [a] [] pos) (iRev Fa):=by
 intro pins s σ H R I ⟨ρ,items,rs,e0,k⟩
 obtain⟨⟨fa,da⟩,ea,e1⟩:=z04 e0
 cases ex:lstD da with
 | none=>rw[ex]at e1;cases e1
 | some xs =>
  rw[ex]at e1
  cases e1
  have hA:PA X [a] (upAs X (z02 Fa fNil)):=z03 ha z07 hs
  refine wpAny_Call_Name_kw (z3X I hg hm (by decide +kernel:bootBuiltins "reversed" = some (.type "reversed")) ?_)
  refine PyProof.Rows.callWith_type1 (thn (hA pos pins s σ H (fun vs H1=>Same H H1∧∃ va,vs=[va]∧Rp X.K emp da H1 va) I ⟨ρ,[(fa,da)],rs,by simp[z02,fNil,ea],fun vs H1 s1 ⟨va,r1,ee1,q1,q3⟩=>⟨s1,va,by rw[ee1,show r1=[]from q3],q1.sh⟩⟩) fun us s1 ⟨vs,H1,I1,rv,s1H,va,ev,ra⟩=>?_) hs rfl
  subst ev
  obtain⟨ua,rfl,rua⟩:=rv.one
  obtain⟨pa,vsa,rfl,qa1,qa2⟩:=zhO ex ra
  cases rua
  obtain⟨ita,rva,pl,hza⟩:=I1.list qa1
  have hn:ita.toArray.size=vsa.length:=by rw[List.size_toArray,←rva.length]
  refine call_reversed_list pl.isList ?_
  rw[hn]
  have g1:(s1.heap.push (revObj pa ((vsa.length:Int)-1))).get? s1.heap.objs.size=some _:=Heap.get?_push_size _ rfl
  have it1:(s1.heap.push (revObj pa ((vsa.length:Int)-1))).IsRevIter s1.heap.objs.size pa ((vsa.length:Int)-1-((0:Nat):Int)):=⟨_,g1,rfl,by show Data.fields _=_;simp⟩
  refine wpAny_pyIter_revIter it1 ?_
  refine⟨_,[s1.heap.objs.size],_,_,H1,rfl,I1.kept (t':=s1.toks) (fun c o x=>Heap.get?_push_of_some _ x),zhJ (n:=vsa.length),⟨Nat.zero_le _,it1⟩,fun c hc=>?_,k _ H1 s1H ?_ (zhL qa1 qa2)⟩
  · rw[List.mem_singleton.mp hc]
    exact I1.fpOk (Nat.le_refl _) (I1.hok.fresh (Nat.le_refl _))
  · rw[List.length_reverse,←qa2.length];exact hza
end
end L2

end
section
set_option Elab.async false
set_option linter.all false
set_option maxRecDepth 100000
set_option maxHeartbeats 1000000
namespace L2
open PySem PySem.Spec PyProof.Rows
section
variable {X:Cx}
def zhQ:V→List V→Hp→VK→Prop:=fun x vs H Q=>∃ l xs y,x = .ref l∧vs=[.int 0,y]∧H l=some (.lst xs)∧xs.length<sizeLine∧Q .non (upd H l (.lst (y::xs)))
theorem zcv:MtM X "list.insert" zhQ:=by
 intro pins s σ H x vs v us Q I rx rv h
 obtain⟨l,xs,y,rfl,rfl,hH,hz,q⟩:=h
 cases rx
 obtain⟨u0,u,rfl,ru0,ru⟩:=rv.two
 obtain⟨t0,rfl⟩:=ru0
 obtain⟨z,its,n,r,hl,e⟩:=I.lstM hH
 refine call_meets F.slot_list_insert ⟨_,e,rfl⟩ F.entry_list_insert (F.args_list_insert_3 _ _ _) (AutoSeq1.list_insert_list_int_val_1 l its.toArray n 0 t0 u (by decide) (by rw[List.size_toArray];omega)) ⟨e,?_⟩
 refine⟨.non,_,I.lset (its':=u::its) hH e ?_ (.cons ru r) ?_,rfl,q⟩
 · simp
 · rw[List.length_cons];omega
theorem zfJ{Y:Ky}{f g:Bool}:Same (bsOf Y (f&&g)) (bsOf Y f):=by
 cases f<;>cases g<;>first|exact Same.refl _|exact Same.emp
theorem zfK{Y:Ky}{f g:Bool}:Same (bsOf Y (f&&g)) (bsOf Y g):=by
 cases f<;>cases g<;>first|exact Same.refl _|exact Same.emp
section
variable {H₀ H H':Hp}{O:Own}{ρ:Rho}{σ:St}{i:Nat}{f:Bool}{ds:List Dt}
theorem RepO.get(h:RepO X H₀ H O ρ σ)(e:ρ[i]?=some (.ow f ds)):∃ a vs,(i,a)∈O∧σ[i]?=some (some (.ref a))∧H a=some (.lst vs)∧Rps X.K (bsOf X.ky f) ds (hidL O.adr H) vs:=by
 obtain⟨o,e1,a,vs,q1,q2,q3,q4⟩:=h.at_ i _ e
 subst q2
 exact⟨a,vs,q1,e1,q3,q4⟩
theorem zb5{x:Dv}{v:V}(rb:RepO X H₀ H O ρ σ)(r:RpF X.ky (hidL O.adr H) x.1 x.2 H' v):Rp X.K (bsOf X.ky x.1.isFr) x.2 H' v:=by
 by_cases q:x.1.isFr=true
 · rw[q];exact r.fr (rb.b0.trans rb.same) q
 · rw[show x.1.isFr=false by simpa using q];exact r.sh
theorem zlc{x:Dv}{v:V}(rb:RepO X H₀ H O ρ σ)(sm:Same H H')(q:x.1.isNw=true)(r:RpF X.ky H x.1 x.2 H' v):Rp X.K (bsOf X.ky true) x.2 (hidL O.adr H') v :=
 Rp.anti rb.below _ (zhD rb.own sm q r)
end
abbrev FW:=List Dt→Dt→Option (List Dt)
def z5t(ρ:Rho)(i:Nat):Option (Bool×List Dt):=match ρ[i]? with|some (.ow f ds)=>some (f,ds)|_=>none
theorem z6e{ρ:Rho}{i:Nat}{f:Bool}{ds:List Dt}(h:z5t ρ i=some (f,ds)):ρ[i]?=some (.ow f ds):=by
 unfold z5t at h
 split at h
 · rename_i e;cases h;exact e
 · cases h
def sWr(w:FW)(i:Nat)(F:FE):FS:=fun ρ=>(z5t ρ i).bind fun o=>(F (z1l ρ)).bind fun x=>(w o.2 x.2).map fun ds => .nx (ρ.set i (.ow (o.1&&x.1.isFr) ds))
def sWrA(w:FW)(i:Nat)(F:FE):FS:=fun ρ=>(z5t ρ i).bind fun o=>(F ρ).bind fun x=>if x.1.isNw then(w o.2 x.2).map fun ds => .nx (ρ.set i (.ow o.1 ds)) else none
def wApp:FW:=fun ds d=>if ds.length<1000000 then some (ds++[d]) else none
def z7K:FW:=fun ds d=>if ds.length<1000000 then some (d::ds) else none
def MtW(X:Cx)(id:String)(pre:List V)(w:FW):Prop:=∀(H:Hp) (B:Hp) (Hh:Hp) (l:Addr) (vs:List V) (y:V) (ds:List Dt) (d:Dt) (ds':List Dt) (Q:VK),H l=some (.lst vs)→Same Hh H→Rps X.K B ds Hh vs→Rp X.K B d Hh y→w ds d=some ds' →
 (∀ vs',Rps X.K B ds' Hh vs'→Q .non (upd H l (.lst vs')))→∃ r,MtM X id r∧r (.ref l) (pre++[y]) H Q
theorem zae:MtW X "list.append" [] wApp:=fun H B Hh l vs y ds d ds' Q hl sm rs r e k=>by
 unfold wApp at e
 split at e
 · rename_i h
   cases e
   exact⟨_,z9,l,vs,y,rfl,rfl,hl,by rw[rs.length];exact Nat.lt_trans h (by decide),k _ (rs.append (Rps.one r))⟩
 · cases e
theorem zld:MtW X "list.insert" [.int 0] z7K:=fun H B Hh l vs y ds d ds' Q hl sm rs r e k=>by
 unfold z7K at e
 split at e
 · rename_i h
   cases e
   exact⟨_,zcv,l,vs,y,rfl,rfl,hl,by rw[rs.length];exact Nat.lt_trans h (by decide),k _ (Rps.cons_.mpr ⟨y,vs,rfl,r,rs⟩)⟩
 · cases e
section
variable {id:String}{w:FW}{x:Str}{name:Str}{e:Expr}{Fe:FE}{i:Nat}{px apos cpos pos:Pos}{pre:List V}
theorem zfL(hw:MtW X id [] w)(slot:Slot "list" name id)(hty:typeOf (.builtin id)=pure (.type "method_descriptor"))(hN:X.N[i]?=some x)(hv:Vis X.env.scope x)(he:PF X e Fe)(hd:(x==("__debug__" : Str))=false:=by decide)(hcd:(x==("__classdict__" : Str))=false:=by decide)
  (hbase:attributeBase (.Name x px) name X.env (eval (.Name x px) X.env)=eval (.Name x px) X.env:=by rfl)
  (hfew:((backTo cpos (starEach [e] X.env)).all (fun x=>!x.1)&&(backToKw cpos (keywordEach [] X.env)).all (fun x=>x.1.isSome)&&decide ([e].length+([]:List Keyword).length+(if([]:List Keyword).isEmpty then 0 else 1)<30))=true:=by rfl)
  (hline:(apos.endLine==cpos.line)=true:=by rfl) (hs:starEach [e] X.env=[(false,eval e X.env)]:=by rfl) (hsw:swapsWith (.Call (.Attribute (.Name x px) name apos) [e] [] cpos) none pos.line X.env=pure false:=by rfl) :
  PFS X (.Expr (.Call (.Attribute (.Name x px) name apos) [e] [] cpos) pos) (sWr w i Fe):=by
 intro pins s σ H D I ⟨H₀,ρ,oc,⟨O,rb⟩,e0,k⟩
 obtain⟨⟨f,ds⟩,e1,e2⟩:=z04 e0
 obtain⟨z,e3,e4⟩:=z04 e2
 cases hw':w ds z.2 with
 | none=>rw[hw']at e4;cases e4
 | some ds' =>
  rw[hw']at e4
  cases e4
  obtain⟨a,vs,q1,q2,q3,q4⟩:=rb.get (z6e e1)
  have hm:MtM X id (fun o us H' Q=>∃ y,o = .ref a∧us=[y]∧Same (hidL O.adr H) (hidL O.adr H')∧H' a=some (.lst vs)∧Rp X.K (bsOf X.ky z.1.isFr) z.2 (hidL O.adr H') y∧∀ vs',Rps X.K (bsOf X.ky (f&&z.1.isFr)) ds' (hidL O.adr H') vs'→Q .non (upd H' a (.lst vs'))):=by
   intro pins s σ H' o us v vs2 Q I ro ru ⟨y,eo,eu,sm,ha,ry,kk⟩
   subst eo;subst eu
   obtain⟨r,hr,hq⟩:=hw H' (bsOf X.ky (f&&z.1.isFr)) (hidL O.adr H') a vs y ds z.2 ds' Q ha z0G (Rps.anti zfJ _ (Rps.mono _ sm q4)) (Rp.anti zfK _ ry) hw' kk
   exact hr pins s σ H' _ _ v vs2 Q I ro ru hq
  refine za3 (pe_bm F.plainAttrs_list slot hty hm (za2 hN hv hd hcd) (PA.frame (z03 he z07 hs)) hbase hfew hline hs rfl) hsw pins s σ H D I ⟨.ref a,q2,.inl ⟨rfl,vs,SqL.of q3⟩,O.adr,rb.own,z1l ρ,[z],rb.rest,by simp[z02,fNil,e3],?_⟩
  rintro us H' sm ⟨y,r,eu,ry,er⟩ hn
  have er:r=[]:=er
  subst er;subst eu
  have hg:hidL O.adr (z14 O.adr H H')=H':=z2E hn
  refine⟨y,rfl,rfl,by rw[hg];exact sm,by rw[z4x (z3v q1)];exact q3,by rw[hg];exact zb5 rb ry,fun vs' rs'=>k _ _ ⟨O,?_⟩⟩
  exact(rb.mono (Same.glue sm hn)).upd (z6e e1) q1 rs'
theorem s_insA{j0:Nat}{p0:Pos}(hN:X.N[i]?=some x)(hv:Vis X.env.scope x)(he:PF X e Fe)(hd:(x==("__debug__" : Str))=false:=by decide)(hcd:(x==("__classdict__" : Str))=false:=by decide)
   (hbase:attributeBase (.Name x px) "insert" X.env (eval (.Name x px) X.env)=eval (.Name x px) X.env:=by rfl)
   (hfew:((backTo cpos (starEach [.Constant (.int 0) j0 p0,e] X.env)).all (fun x=>!x.1)&&(backToKw cpos (keywordEach [] X.env)).all (fun x=>x.1.isSome)&&decide ([Expr.Constant (.int 0) j0 p0,e].length+([]:List Keyword).length+(if([]:List Keyword).isEmpty then 0 else 1)<30))=true:=by rfl)
   (hline:(apos.endLine==cpos.line)=true:=by rfl) (hs:starEach [e] X.env=[(false,eval e X.env)]:=by rfl) (hs2:starEach [.Constant (.int 0) j0 p0,e] X.env=(false,eval (.Constant (.int 0) j0 p0) X.env)::starEach [e] X.env:=by rfl)
   (hsw:swapsWith (.Call (.Attribute (.Name x px) "insert" apos) [.Constant (.int 0) j0 p0,e] [] cpos) none pos.line X.env=pure false:=by rfl) :
   PFS X (.Expr (.Call (.Attribute (.Name x px) "insert" apos) [.Constant (.int 0) j0 p0,e] [] cpos) pos) (sWrA z7K i Fe):=by
 intro pins s σ H D I ⟨H₀,ρ,oc,⟨O,rb⟩,e0,k⟩
 obtain⟨⟨f,ds⟩,e1,e2⟩:=z04 e0
 obtain⟨z,e3,e5⟩:=z04 e2
 split at e5
 · rename_i qn
   cases hw':z7K ds z.2 with
   | none=>rw[hw']at e5;cases e5
   | some ds' =>
    rw[hw']at e5
    cases e5
    obtain⟨a,vs,q1,q2,q3,q4⟩:=rb.get (z6e e1)
    have hm:MtM X "list.insert" (fun o us H' Q=>∃ y,o = .ref a∧us=[.int 0,y]∧Same H H'∧RpF X.ky H z.1 z.2 H' y∧∀ vs',Rps X.K (bsOf X.ky f) ds' (hidL O.adr H') vs'→Q .non (upd H' a (.lst vs'))):=by
     intro pins s σ H' o us v vs2 Q I ro ru ⟨y,eo,eu,sm,ry,kk⟩
     subst eo;subst eu
     have r1:=zlc rb sm qn ry
     obtain⟨r,hr,hq⟩:=zld (X:=X) H' (bsOf X.ky f) (hidL O.adr H') a vs y ds z.2 ds' Q (sm _ _ q3) z0G (Rps.mono _ (z1s sm) q4) (Rp.anti (by cases f<;>first|exact Same.refl _|exact Same.emp) _ r1) hw' kk
     exact hr pins s σ H' _ _ v vs2 Q I ro ru hq
    refine za3 (pe_bm F.plainAttrs_list F.slot_list_insert F.type_list_insert hm (za2 hN hv hd hcd) (z03 (z09 (X:=X)) (z03 he z07 hs) hs2) hbase hfew hline hs2 (by rw[hs];rfl)) hsw pins s σ H D I ⟨.ref a,q2,.inl ⟨rfl,vs,SqL.of q3⟩,ρ,[(.nw,.int 0),z],rb.all,by simp[z02,fNil,fC,e3],?_⟩
    rintro us H' sm ⟨y0,r0,eu0,ry0,y,r,eu,ry,er⟩
    have er:r=[]:=er
    subst er;subst eu;subst eu0
    have e00:y0 = .int 0:=Rp.int_.mp ry0.sh
    subst e00
    exact⟨y,rfl,rfl,sm,ry,fun vs' rs'=>k _ _ ⟨O,(rb.mono sm).upd (z6e e1) q1 rs'⟩⟩
 · cases e5
end
def setD(ds:List Dt)(j:Int)(d:Dt):Option (List Dt):=(ixN ds.length j).map fun k=>ds.set k d
def sPut(i:Nat)(Fj Fe:FE):FS:=fun ρ=>(z5t ρ i).bind fun o=>(Fe (z1l ρ)).bind fun x=>(Fj ρ).bind fun j=>(intD j.2).bind fun n=>(setD o.2 n x.2).map fun ds => .nx (ρ.set i (.ow (o.1&&x.1.isFr) ds))
section
variable {x:Str}{e j:Expr}{Fe Fj:FE}{i:Nat}{px spos pos:Pos}
theorem s_put(hN:X.N[i]?=some x)(hv:Vis X.env.scope x)(hj:PF X j Fj)(he:PF X e Fe)(hd:(x==("__debug__" : Str))=false:=by decide)(hcd:(x==("__classdict__" : Str))=false:=by decide)
  (ha:∀ v,assign (.Subscript (.Name x px) j spos) X.env v=(do
   let ov ←holding [v] (eval (.Name x px) X.env)
   let iv ←holding [v,ov] (eval j X.env)
   standAt spos
   holding [v,ov,iv] (setItem ov iv v)
   release [v,ov,iv] []):=by intro _;rfl)
  (hs:swapsWithSole [.Subscript (.Name x px) j spos] e pos.line X.env=pure false:=by rfl) (hw:swappedStores [.Subscript (.Name x px) j spos] e X.env=pure none:=by rfl)
  (h1:(assignEach [.Subscript (.Name x px) j spos] X.env).map (·.2)=[assign (.Subscript (.Name x px) j spos) X.env]:=by rfl) :
  PFS X (.Assign [.Subscript (.Name x px) j spos] e pos) (sPut i Fj Fe):=by
 intro pins s σ H D I ⟨H₀,ρ,oc,⟨O,rb⟩,e0,k⟩
 obtain⟨⟨f,ds⟩,e1,e2⟩:=z04 e0
 obtain⟨z,e3,e4⟩:=z04 e2
 obtain⟨⟨fj,dj⟩,e5,e6⟩:=z04 e4
 obtain⟨n,e7,e8⟩:=z04 e6
 obtain⟨a,vs,q1,q2,q3,q4⟩:=rb.get (z6e e1)
 unfold setD at e8
 cases hx:ixN ds.length n with
 | none=>rw[hx]at e8;cases e8
 | some m =>
  rw[hx]at e8
  cases e8
  refine ps_asg (PE.frame he) (pg_sub (za2 hN hv hd hcd) hj zhl ha) hs hw h1 pins s σ H D I ⟨O.adr,rb.own,z1l ρ,z.1,z.2,rb.rest,e3,fun v H' sm r hn=>?_⟩
  have hg:hidL O.adr (z14 O.adr H H')=H':=z2E hn
  have rb2:=rb.mono (Same.glue sm hn)
  refine⟨.ref a,q2,ρ,fj,dj,rb2.all,e5,fun v2 H2 s2 r2=>?_⟩
  have ed:=zaa e7
  have ed:dj = .int n:=ed
  subst ed
  have rv:Rp X.K (bsOf X.ky z.1.isFr) z.2 (hidL O.adr H2) v:=Rp.mono _ (by rw[←hg];exact z1s s2) (zb5 rb r)
  have ha2:H2 a=some (.lst vs):=s2 _ _ (by rw[z4x (z3v q1)];exact q3)
  refine⟨a,vs,n,m,rfl,Rp.int_.mp r2.sh,ha2,by rw[q4.length];exact hx,k _ _ ⟨O,(rb2.mono s2).upd (z6e e1) q1 ?_⟩⟩
  exact Rps.set m (Rps.anti zfJ _ (Rps.mono _ (z1s ((Same.glue sm hn).trans s2)) q4)) (Rp.anti zfK _ rv)
end
end
end L2

end
section
set_option Elab.async false
set_option linter.all false
set_option maxRecDepth 100000
set_option maxHeartbeats 1000000
namespace L2
open PySem PySem.Spec PyProof.Rows
section
variable {X:Cx}{tg a b e:Expr}{Fa Fb Fe:FE}{pos:Pos}
end
section
variable {X:Cx}{tg iter:Expr}{body:List Stmt}{Fi:FI}{g:Tg}{F:FS}{pos:Pos}
end
section
variable {P:Program}{w:World}{K:PySem.W.Frag}{mg:Str→Option Value}{base:Heap}
theorem Fun.dat{x qual:Str}{st:Stmt}{f:Addr}{fd:FuncData}{N ps:List Str}{k np nn:Nat}{fr:Bool}{F:FS}(Fu:Fun K x qual st f fd)(S:FnScope N ps (z06 st))(hp:np=ps.length)(hn:nn=N.length)
  (body:∀(cdv:Value) (A:Around) (outer:List Env) (s:Shared) (H:Hp) (E:XK),Room k (A.deeper (envOfC qual (z06 st) s.heap.objs.size f cdv)) →
   PFSs (cxOf CX0 P w K mg base N qual (z06 st) f cdv A outer s H E).nox (z1r st) F):FnOk P w K mg base CX0 (k+1) f fd ps (spc K fr (cOf np nn fr F)):=by
 subst hp hn
 exact Fun.data Fu S body
end
theorem z0d{X:Cx}{e:Expr}{es:List Expr}{pos:Pos}{Fs:FA}{fr:Bool}{k k':Nat}{f:Addr}{fd:FuncData}{ps:List Str}{ct:FC}{x:Str}{st:Stmt}{p:Pos}(F:FnOk X.prog X.w X.K X.mg X.base CX0 k f fd ps (spc X.K fr ct))(D:Df X.K X.mg x st ps f fd)(hr:Room k' X.A)(hg:Gl X x)
  (ha:PFA X (e::es) Fs) (hle:k≤k':=by decide) (hdb:(x==("__debug__" : Str))=false:=by decide) (hst:starEach (e::es) X.env=(false,eval e X.env)::starEach es X.env:=by rfl) (hpl:(backTo pos (starEach es X.env)).any (·.1)=false:=by rfl):PF X (.Call (.Name x p) (e::es) [] pos) (z08 fr ct Fs) :=
 p_call F (hr.mono hle) hg D.mg D.fn.kp D.bd ha hdb hst hpl
def Dh(K:PySem.W.Frag)(x:Str)(st:Stmt)(f:Addr):Prop:=∃(oc kV doc pm cdv ct:Value) (od an:Option Addr) (osl:Array (Option Value)),PySem.W.nsIn K mainGlobals x=some (some (.ref f))∧K.lookup f=some ⟨oc,od,.func (PySem.W.fnOf x x (z2h st) (z1r st) (z06 st) .none kV doc pm an cdv ct),osl⟩∧PySem.W.codeIn K cdv x=true∧PySem.W.keepIn K (.ref f)=true
theorem dh{K:PySem.W.Frag}{x:Str}{st:Stmt}{f:Addr}{oc kV doc pm cdv ct:Value}{od an:Option Addr}{osl:Array (Option Value)}(e:PySem.W.nsIn K mainGlobals x=some (some (.ref f)))(l:K.lookup f=some ⟨oc,od,.func (PySem.W.fnOf x x (z2h st) (z1r st) (z06 st) .none kV doc pm an cdv ct),osl⟩)(c:PySem.W.codeIn K cdv x=true)(k:PySem.W.keepIn K (.ref f)=true):Dh K x st f:=⟨_,_,_,_,_,_,_,_,_,e,l,c,k⟩
theorem Dh.df{K:PySem.W.Frag}{h:Heap}{mg:Str→Option Value}(X:K.In h)(G:h.Ns mainGlobals mg){x:Str}{st:Stmt}{f:Addr}{ps:List Str}(d:Dh K x st f)
  (hb:∀(kV doc pm:Value) (an:Option Addr) (cdv ct:Value) (us:List Value),us.length=ps.length→bindArgs (PySem.W.fnOf x x (z2h st) (z1r st) (z06 st) .none kV doc pm an cdv ct) ⟨us,[]⟩=pure (ps.zip us)) :
  ∃ fd,Df K mg x st ps f fd∧∀ us:List Value,us.length=ps.length→bindArgs fd ⟨us,[]⟩=pure (ps.zip us):=by
 obtain⟨_,_,_,_,_,_,_,_,_,e,l,c,k⟩:=d
 exact⟨_,df_mk X G e l c k hb,hb _ _ _ _ _ _⟩
theorem ndp(l:List Str)(h:l.Nodup:=by decide +kernel):l.Nodup:=h
theorem jlt(l:List Nat)(m:Nat)(h:∀ j∈l,j<m:=by decide):∀ j∈l,j<m:=h
theorem scm{N P:List Str}{sc:Scope}(kind:sc.kind = .function:=by rfl)(co:sc.isCoroutine=false:=by rfl)(gen:sc.isGenerator=false:=by rfl)(nd:N.Nodup:=by decide +kernel)(pre:N.take P.length=P:=by rfl)(par:∀ x∈P,sc.names.lookup x=some .local∨sc.names.lookup x=some .cell:=by decide +kernel)(nofree:∀ y∈sc.names,y.2 ≠ .free:=by decide +kernel):FnScope N P sc:=⟨kind,co,gen,nd,pre,par,nofree⟩
end L2

end
section
set_option Elab.async false
set_option linter.all false
set_option maxRecDepth 100000
namespace L2
open PySem PySem.Spec PySem.W PyProof.Rows
abbrev bmVE:List Value:=[.type "ValueError",.type "Exception",.type "BaseException",.type "object"]
structure Xc(K:PySem.W.Frag)(mg:Str→Option Value)(n:Nat)(C:Addr):Prop where
 mg:mg (exN n)=some (.ref C)
 ok:excIn K C bmVE "ValueError.__new__" = true
 ve:kitCls K (.ref C) (.type "ValueError")=some true
section
variable {X:Cx}{C:Addr}{n:Nat}{e:Expr}{es:List Expr}{pos:Pos}{Fs:FA}{fr:Bool}{k k':Nat}{f:Addr}{fd:FuncData}{ps:List Str}{x:Str}{st:Stmt}{p:Pos}
abbrev FX:=List Dt→Option (Dt ⊕ Nat)
end
section
variable {P:Program}{w:World}{K:PySem.W.Frag}{mg:Str→Option Value}{base:Heap}
end
end L2

end
section
set_option Elab.async false
set_option linter.all false
set_option maxRecDepth 100000
namespace L2
open PySem PySem.Spec PySem.W PyProof.Rows
section
variable {X:Cx}{pins:List (Addr×Obj)}{σ:St}{H H1 H' H₀:Hp}{s s1:Shared}{ea C M:Addr}{E:Value→Shared→Prop}
structure At(X:Cx)(pins:List (Addr×Obj))(σ:St)(H1:Hp)(s1:Shared)(H':Hp)(ea C:Addr)(s:Shared):Prop where
 inv:Inv X pins σ H' s
 fly:Fly s1.heap H' ea C s.heap
 un:Un (frs X.stack) [] H1 H' s1.heap s.heap
theorem At.step{a0:Value}{T:Addr}{l':List Env}{h':Heap}(I1:Inv X pins σ H1 s1)(a:At X pins σ H1 s1 H' ea C s)(n3:s1.heap.get? T=none)(n4:H' T=none)(f:(hideAll s.heap (ea::T::frs X.stack)).FlyingW l' ea (.ref C) a0 h')(us:s.heap.UpToSlots h'):
  At X pins σ H1 s1 H' ea C { s with heap:=h' }:=by
 obtain⟨f1,f2,f3⟩:=Fly.step a.fly.1 a.fly.2.1 n3 n4 a.inv.stack a.inv.stkFree a.inv.hok a.un f us (fun b hb => .inl hb) fun b o _=>by simp
 exact⟨I1.call' (ch:=[]) (a.inv.os.trans I1.os.symm) f3 f2 a.inv.bare fun b z=>absurd z (by simp),f1,f3⟩
end
structure Hit(K:PySem.W.Frag)(mg:Str→Option Value)(hits:Nat→Bool)(x:Str)(M:Addr):Prop where
 gl:mg x=some (.ref M)
 hit:∀ n C,hits n=true→mg (exN n)=some (.ref C)→exmOne K (.ref C) (.ref M)=some true∧kitCls K (.ref C) (.type "ValueError")=some true
section
variable {X:Cx}{C:Addr}{n:Nat}{e:Expr}{es:List Expr}{pos pos' tpos hpos np:Pos}{Fs:FA}{fr:Bool}{k k':Nat}{f:Addr}{fd:FuncData}{ps:List Str}{x y:Str}{st:Stmt}{p:Pos}{ct:FX}
end
section
variable {X:Cx}{H₀ H:Hp}{O:Own}{ρ:Rho}{σ:St}{pins:List (Addr×Obj)}{s:Shared}{ea:Addr}
end
end L2

end
section
set_option Elab.async false
set_option linter.all false
set_option maxRecDepth 100000
namespace L2
open PySem PySem.Spec PySem.W PyProof.Rows
section
variable {X:Cx}{C:Addr}{n:Nat}{e:Expr}{es:List Expr}{pos pos' tpos hpos np:Pos}{Fs:FA}{fr:Bool}{k k':Nat}{f:Addr}{fd:FuncData}{ps:List Str}{x y z:Str}{st:Stmt}{p:Pos}{ct:FX}
end
end L2

end
section
set_option Elab.async false
set_option linter.all false
set_option maxRecDepth 100000
namespace L2
open PySem PySem.Spec PySem.W PyProof.Rows
abbrev FR:=Rho→Option Nat
section
variable {X:Cx}{e a b:Expr}{es:List Expr}{pos pos' p:Pos}{Fs:FA}{R:FR}{fr:Bool}{k k':Nat}{f:Addr}{fd:FuncData}{ps:List Str}{x:Str}{st:Stmt}{ct:FX}
end
end L2

end
section
local macro_rules|`(tactic| omega)=>`(tactic| first|lia|omega +splitDisjunctions)
set_option Elab.async false
set_option linter.all false
set_option maxRecDepth 100000
set_option maxHeartbeats 2000000
namespace L2
open PySem PySem.Spec PyProof.Rows
section
variable {α β:Type}
def insK(p:Int×α):List (Int×α)→List (Int×α)
 | []=>[p]
 | q::qs=>if p.1≤q.1 then p::q::qs else q::insK p qs
def z2m:List (Int×α)→List (Int×α)
 | []=>[]
 | p::ps=>insK p (z2m ps)
theorem z6f(p:Int×α):∀ qs:List (Int×α),(insK p qs).Perm (p::qs)
 | []=>List.Perm.refl _
 | q::qs=>by
  unfold insK
  split
  · exact List.Perm.refl _
  · exact((z6f p qs).cons q).trans (List.Perm.swap p q qs)
theorem z1O:∀ ps:List (Int×α),(z2m ps).Perm ps
 | []=>List.Perm.refl _
 | p::ps=>(z6f p _).trans ((z1O ps).cons p)
abbrev Le(p q:Int×α):Prop:=p.1≤q.1
theorem z6M(p:Int×α):∀ qs:List (Int×α),qs.Pairwise Le→(insK p qs).Pairwise Le
 | [],_=>List.pairwise_singleton _ _
 | q::qs,h=>by
  obtain⟨h1,h2⟩:=List.pairwise_cons.mp h
  unfold insK
  split
  · rename_i hle
    exact List.pairwise_cons.mpr ⟨fun x hx=>by
      rcases List.mem_cons.mp hx with rfl|hx
      · exact hle
      · exact Int.le_trans hle (h1 x hx),h⟩
  · rename_i hle
    refine List.pairwise_cons.mpr ⟨fun x hx=>?_,z6M p qs h2⟩
    rcases List.mem_cons.mp ((z6f p qs).mem_iff.mp hx)with rfl|hx
    · show q.1≤x.1;omega
    · exact h1 x hx
theorem z3x:∀ ps:List (Int×α),(z2m ps).Pairwise Le
 | []=>List.Pairwise.nil
 | p::ps=>z6M p _ (z3x ps)
theorem zb6(g:α→β)(p:Int×α):∀ qs:List (Int×α),insK (p.1,g p.2) (qs.map fun q=>(q.1,g q.2))=(insK p qs).map fun q=>(q.1,g q.2)
 | []=>rfl
 | q::qs=>by
  rw[List.map_cons]
  unfold insK
  by_cases h:p.1≤q.1
  · rw[if_pos h,if_pos h];rfl
  · rw[if_neg h,if_neg h,List.map_cons,zb6 g p qs]
theorem z4A(g:α→β):∀ ps:List (Int×α),z2m (ps.map fun q=>(q.1,g q.2))=(z2m ps).map fun q=>(q.1,g q.2)
 | []=>rfl
 | p::ps=>by rw[List.map_cons,z2m,z2m,z4A g ps,zb6 g p]
theorem z7L:∀{xs ys:List (Int×α)},xs.Perm ys→xs.Pairwise Le→ys.Pairwise Le→(xs.map (·.1)).Nodup→xs=ys
 | [],ys,p,_,_,_=>(List.Perm.nil_eq p)
 | x::xs,[],p,_,_,_=>by have:=p.length_eq;simp at this
 | x::xs,y::ys,p,h1,h2,nd=>by
  obtain⟨a1,a2⟩:=List.pairwise_cons.mp h1
  obtain⟨b1,b2⟩:=List.pairwise_cons.mp h2
  have nd':(x.1::xs.map (·.1)).Nodup:=nd
  obtain⟨n1,n2⟩:=List.nodup_cons.mp nd'
  have hx:x∈y::ys:=p.mem_iff.mp List.mem_cons_self
  have hy:y∈x::xs:=p.mem_iff.mpr List.mem_cons_self
  have exy:x=y:=by
   rcases List.mem_cons.mp hx with e|hx
   · exact e
   · rcases List.mem_cons.mp hy with e|hy
     · exact e.symm
     · have l1:x.1≤y.1:=a1 y hy
       have l2:y.1≤x.1:=b1 x hx
       have e:x.1=y.1:=by omega
       exact absurd (List.mem_map.mpr ⟨y,hy,e.symm⟩) n1
  subst exy
  rw[z7L (p.cons_inv) a2 b2 n2]
end
section
variable {X:Cx}{pins:List (Addr×Obj)}{σ:St}{H:Hp}{s:Shared}
theorem Inv.track{D:Addr}{its:List Value}{ys:List V}{n:Nat}(I:Inv X pins σ H s)(hD:H D=none)(f:FpOk X pins H D)(hn:X.s₀.heap.objs.size≤D)(ho:s.heap.get? D=some { cls := .type "list",data := .seq its.toArray n })(hv:Vals ys its)(hz:ys.length≤sizeLine):
   Inv X pins σ (upd H D (.lst ys)) s:=by
 obtain⟨f0,f1,f2,f3,f4,f5⟩:=f
 have ne:∀ b o,X.s₀.heap.get? b=some o→b≠D:=fun b o e z=>by
   subst z
   exact absurd (Nat.lt_of_lt_of_le (Heap.lt_size e) hn) (Nat.lt_irrefl _)
 have nH:∀ b o,H b=some o→b≠D:=fun b o e z=>by rw[z,hD]at e;cases e
 refine⟨I.ok,I.os,I.bare,⟨I.base.keep,I.base.slot,fun b o e q hx=>?_,I.base.there,fun b xs e=>?_,fun b o u e=>?_,fun b ps e=>?_⟩,I.loc,I.cell,?_,fun x c e=>?_,fun p hp=>?_,fun a o e=>?_,I.len⟩
 · rw[z0u (ne b o e)];exact I.base.free b o e q hx
 · have:=I.base.tups b xs e
   rw[z0u (nH b _ this)];exact this
 · have:=I.base.frzs b o u e
   rw[z0u (nH b _ this)];exact this
 · obtain⟨more,this⟩:=I.base.tbls b ps e
   exact⟨more,by rw[z0u (nH b _ this)];exact this⟩
 · rw[z0u (Ne.symm f1)];exact I.free
 · rw[z0u (f4 x c e)];exact I.freeC x c e
 · obtain⟨q1,q2,q3⟩:=I.pin p hp
   exact⟨q1,by rw[z0u (f5 p hp)];exact q2,q3⟩
 · by_cases z:a=D
   · subst z
     rw[z0S]at e
     cases e
     exact⟨hz,its,n,hv,ho⟩
   · rw[z0u z]at e
     refine(I.hok a o e).stay (fun b u _ q=>q) (fun b q=>?_) (fun b xs q=>?_)
     · rw[z0u (nH b _ q)];exact q
     · rw[z0u (nH b _ q)];exact q
theorem ns_inj{h:Heap}{a:Addr}{m m':Str→Option Value}(p:h.Ns a m)(q:h.Ns a m'):m=m':=by
 obtain⟨o,es,ep,e,d,_,f⟩:=p
 obtain⟨o',es',ep',e',d',_,f'⟩:=q
 rw[e]at e'
 cases e'
 rw[d]at d'
 cases d'
 funext x
 rw[←f x,←f' x]
def z7M(base:Heap)(L a b:Addr)(h:Heap):List (Addr×Obj):=(List.range h.objs.size).filterMap fun c=>match h.get? c with
 | some o=>if base.get? c=none∧c≠L∧c≠a∧c≠b then some (c,o) else none
 | none=>none
theorem zcw{base:Heap}{L a b c:Addr}{h:Heap}{o:Obj}(e:h.get? c=some o)(h1:base.get? c=none)(h2:c≠L)(h3:c≠a)(h4:c≠b):(c,o)∈z7M base L a b h :=
 List.mem_filterMap.mpr ⟨c,List.mem_range.mpr (Heap.lt_size e),by rw[e];simp[h1,h2,h3,h4]⟩
theorem z6g{base:Heap}{L a b:Addr}{h:Heap}{p:Addr×Obj}(hp:p∈z7M base L a b h):h.get? p.1=some p.2∧base.get? p.1=none∧p.1≠L∧p.1≠a∧p.1≠b:=by
 obtain⟨c,hc,e⟩:=List.mem_filterMap.mp hp
 cases q:h.get? c with
 | none=>rw[q]at e;cases e
 | some o =>
  rw[q]at e
  dsimp only at e
  split at e
  · rename_i hh;cases e;exact⟨q,hh⟩
  · cases e
theorem Inv.turnedN{h':Heap}{t':Nat}{ch:List Addr}{m:Str→Option Value}(I:Inv X pins σ H s)(hm:s.heap.Ns X.env.locals m)(hm':h'.Ns X.env.locals m)(hl:∃ o,h'.get? X.env.locals=some o)(k:∀ b o,b ∉ ch→b≠X.env.locals→s.heap.get? b=some o→h'.get? b=some o)(hc:∀ b∈ch,FpOk X pins H b):
   Inv X pins σ H { s with heap:=h',toks:=t' }:=by
 have nit:∀ b u,H b=some u→b ∉ ch:=fun b u e z=>by rw[(hc b z).1]at e;cases e
 have nL:∀ b u,H b=some u→b≠X.env.locals:=fun b u e z=>by rw[z,I.free]at e;cases e
 refine I.step (g':=s.gens) (d':=s.drawn) (ch:=ch) (fun b hb=>?_) (fun b o nl _ hn e _=>k b o hn nl e) (fun b o nl _ hn e _=>⟨o.slots,k b o hn nl e⟩) (fun _ _ _ _ n=>n)
   (fun b o hn e=>?_) (fun _ _ e=>e) (fun _ _ _ e=>e) (fun b ps e=>⟨#[],by rw[e];simp⟩) (fun m' hm2=>by rw[←ns_inj hm hm2];exact hm') (fun b u e=>?_) I.bare
 · obtain⟨f0,f1,f2,f3,f4,f5⟩:=hc b hb
   exact⟨f3,f1,f4,f5⟩
 · by_cases z:b=X.env.locals
   · subst z;exact hl
   · exact⟨o,k b o hn z e⟩
 · refine(I.hok b u e).stay (fun c v hcc q=>k c v ?_ ?_ q) (fun _ q=>q) fun _ _ q=>q
   · rcases hcc with z|z
     · rw[z];exact nit b u e
     · exact nit c _ z
   · rcases hcc with z|z
     · rw[z];exact nL b u e
     · exact nL c _ z
end
def z26(c:FC):List Dt→Option (List Int)
 | []=>some []
 | d::ds=>(c [d]).bind fun r=>(intD r).bind fun i=>(z26 c ds).map (i::·)
theorem z50{c:FC}:∀{ds:List Dt} {ks:List Int},z26 c ds=some ks→ks.length=ds.length
 | [],ks,h=>by cases h;rfl
 | d::ds,ks,h=>by
  obtain⟨r,_,h⟩:=z04 h
  obtain⟨i,_,h⟩:=z04 h
  cases q:z26 c ds with
  | none=>rw[q]at h;cases h
  | some js=>rw[q]at h;cases h;rw[List.length_cons,List.length_cons,z50 q]
theorem z7N{c:FC}:∀{ds:List Dt} {ks:List Int} {j:Nat} {d:Dt} {k:Int},z26 c ds=some ks→ds[j]?=some d→ks[j]?=some k→c [d]=some (.int k)
 | [],ks,j,d,k,h,e,_=>by simp at e
 | a::ds,ks,j,d,k,h,e,e'=>by
  obtain⟨r,h1,h⟩:=z04 h
  obtain⟨i,h2,h⟩:=z04 h
  cases q:z26 c ds with
  | none=>rw[q]at h;cases h
  | some js =>
   rw[q]at h
   cases h
   cases j with
   | zero =>
    simp at e e'
    subst e;subst e'
    rw[h1,zaa h2]
   | succ j=>exact z7N q (by simpa using e) (by simpa using e')
section
variable {X:Cx}{pins:List (Addr×Obj)}{σ:St}{H:Hp}{s:Shared}{k:Nat}{f:Addr}{fd:FuncData}{p:Str}{fr:Bool}{ct:FC}{l:Addr}{vs:List V}{ds:List Dt}{ks:List Int}{Q:VK}
theorem zle{H1:Hp}{s1:Shared}{d:Dt}{v:V}{u:Value}{n:Int}(F:FnOk X.prog X.w X.K X.mg X.base CX0 k f fd [p] (spc X.K fr ct))(hr:Room (k+2) X.A)(hb:Binds X.K fd [p] [])(I:Inv X pins σ H1 s1)(r:RelV v u)(rd:Rp X.K emp d H1 v)(hc:ct [d]=some (.int n))
  {P:Value→Shared→Prop} {E:Value→Shared→Prop} (q:∀ t H2 s2,Inv X pins σ H2 s2→Same H1 H2→(∀ b o,s1.heap.get? b=some o→H1 b=none→b ∉ frs X.stack→s2.heap.get? b=some o∧H2 b=none)→P (.int n t) s2):wpAny (model X.prog X.w) X.A.in1.in1 (call (.ref f) [u]) P E s1:=by
 have hr2:Room k X.A.in1.in1:=(show Room (k+1+1) X.A from hr).in1.in1
 refine wpAny_call (codeAny_mono (F.run X.A.in1.in1 X.stack s1 H1 ⟨[u],[]⟩ [u] [v] (fun w H2=>w = .int n∧Same H1 H2) E0 hr2 I.env0.in1.in1 (hb s1 [u] I.kIn rfl) (.cons r .nil) ⟨[d],_,Rps.one rd,hc,fun w H2 sm rw'=>⟨by cases fr<;>exact Rp.int_.mp rw',sm⟩⟩) fun res s2 hres=>?_)
 cases res with
 | error e=>exact hres.elim
 | ok fl =>
  cases fl with
  | ret w =>
   obtain⟨x,H2,os,bare,un,hok,rw',ex,sm⟩:=hres
   subst ex
   obtain⟨t,rfl⟩:=rw'
   exact q t H2 s2 (I.call' (ch:=[]) os un hok bare fun b hb=>absurd hb (by simp)) sm fun b o e hn hf=>⟨un.keep b o e hn hf (by simp),un.free b o e hn (by simp)⟩
  | next=>exact hres.elim
  | brk=>exact hres.elim
  | cont=>exact hres.elim
theorem zhR(I:Inv X pins σ H s){b:Addr}(hb:b∈frs X.stack):b<s.heap.objs.size:=by
 obtain⟨_,o,e,_⟩:=I.stack.mem hb
 exact Heap.lt_size e
theorem zgI{D kS:Addr}{e1:Nat}{its:List Value}{P:PySem.Fin→Shared→Prop}{E:Value→Shared→Prop}(F:FnOk X.prog X.w X.K X.mg X.base CX0 k f fd [p] (spc X.K fr ct))(hr:Room (k+2) X.A)(hb:Binds X.K fd [p] [])(I:Inv X pins σ H s)(rv:Vals vs its)(rs:Rps X.K emp ds H vs)(hk:z26 ct ds=some ks)(h64:ds.length<64)
  (hD:s.heap.get? D=some (seqObj "list" #[] e1)) (hS:s.heap.get? kS=some (seqObj "list" #[] 0)) (nDS:kS≠D) (fD:FpOk X pins H D) (fS:FpOk X pins H kS) (gD:D ∉ frs X.stack) (gS:kS ∉ frs X.stack) (sD:X.s₀.heap.objs.size≤D) (sS:X.s₀.heap.objs.size≤kS)
  (q:∀ H2 s2 (out:List Value) c,Inv X pins σ H2 s2→Same H H2→H2 D=none→s2.heap.get? D=some (seqObj "list" out.toArray c)→KskOut false ks its out→P (.done (.ret .none)) s2) :
  wpAny (model X.prog X.w) X.A.in1.in1 (ksk_rest D (.ref f) false its.toArray e1 (.ref kS)) P E s:=by
 have hlen:=z50 hk
 have l1:=rs.length
 have l2:=rv.length
 unfold ksk_rest
 refine wpAny_bind (wpAny_rule ?_)
 rw[List.forIn_toArray]
 refine wpAny_bind (ksk_fold (fun i s'=>∃ H1 kA e,Inv X pins σ H1 s'∧Same H H1∧H1 D=none∧H1 kS=none∧s'.heap.get? D=some (seqObj "list" #[] e1)∧s'.heap.get? kS=some (seqObj "list" kA e)∧IntsAre kA.toList (ks.take i)) its 0 s
  ⟨H,#[],0,I,Same.refl H,fD.1,fS.1,hD,hS,by simpa using IntsAre.nil⟩ ?step ?done)
 case step =>
  rintro j u s' hu ⟨H1,kA,e,I1,sm,d1,d2,o1,o2,hka⟩
  simp only[Nat.zero_add]at hka ⊢
  have hj:j<its.length:=(List.getElem?_eq_some_iff.mp hu).1
  obtain⟨n,hn⟩:∃ n,ks[j]?=some n:=⟨_,List.getElem?_eq_getElem (by omega)⟩
  obtain⟨d,hd⟩:∃ d,ds[j]?=some d:=⟨_,List.getElem?_eq_getElem (by omega)⟩
  obtain⟨v,hv,rd⟩:=rs.get hd
  obtain⟨u',hu',ru⟩:=rv.get hv
  rw[hu]at hu'
  cases hu'
  have hz:kA.size≤its.length:=by
    have h1:=hka.length
    rw[Array.length_toList,List.length_take]at h1
    omega
  refine wpAny_bind (wpAny_attempt (zle F hr hb I1 ru (Rp.mono _ sm rd) (z7N hk hd hn) fun t H2 s2 I2 sm2 kk=>?_))
  obtain⟨p1,p2⟩:=kk D _ o1 d1 gD
  obtain⟨p3,p4⟩:=kk kS _ o2 d2 gS
  try dsimp only
  have sb:=Heap.SameBut.update s2.heap kS (Obj.mapSeq (·.push (.int n t)))
  have g2:=get?_update_seq p3 (·.push (.int n t))
  have ek:ks.take (j+1)=ks.take j++[n]:=by rw[List.take_add_one,hn];simp
  have ea:(kA.push (Value.int n t)).toList=kA.toList++[Value.int n t]:=by simp
  refine wpAny_bind (listUpdate_at p3 rfl ?_ (by rw[sizeLine_eq];omega) (Nat.le_trans (Nat.le_of_eq (Array.size_push ..)) (by rw[sizeLine_eq];omega)))
  have fS2:FpOk X pins H2 kS:=⟨p4,fS.2⟩
  refine wpAny_pure ⟨rfl,H2,kA.push (.int n t),_,I2.turnedL (t':=s2.toks) (ch:=[kS]) (fun b o hb e=>(sb.2 b (by simpa using hb)).trans e) (fun b hb=>by rw[List.mem_singleton.mp hb];exact fS2),sm.trans sm2,p2,p4,(sb.2 D (Ne.symm nDS)).trans p1,g2,by rw[ea,ek];exact ksk_snoc hka⟩
 case done =>
  rintro s' ⟨H1,kA,e,I1,sm,d1,d2,o1,o2,hka⟩
  have hk':IntsAre kA.toList ks:=by
    rw[List.take_of_length_le (by omega)]at hka
    exact hka
  try dsimp only
  refine wpAny_bind (listItems_at o2 rfl ?_)
  obtain⟨m,hfr⟩:=I1.fr
  have fD1:FpOk X pins H1 D:=⟨d1,fD.2⟩
  have fS1:FpOk X pins H1 kS:=⟨d2,fS.2⟩
  have bD:X.base.get? D=none:=Heap.get?_none_of_le (Nat.le_trans I.ok.bsz sD)
  have bS:X.base.get? kS=none:=Heap.get?_none_of_le (Nat.le_trans I.ok.bsz sS)
  refine ksk_end_ (e:=e) (news:=z7M X.base X.env.locals kS D s'.heap) hfr (fun z hz=>?_) nDS (fun z hz=>(z6g hz).2.2.2.1) (fun z hz=>(z6g hz).2.2.2.2) hk' (by omega) (by omega) fun h' tk out c F' N' ko=>?_
  · rcases List.mem_append.mp hz with hz|hz
    · obtain⟨z1,z2,z3,_⟩:=z6g hz
      exact⟨z1,z3,z2⟩
    · rcases List.mem_cons.mp hz with rfl|hz
      · exact⟨o2,fS1.2.1,bS⟩
      · rw[List.mem_singleton.mp hz]
        exact⟨o1,fD1.2.1,bD⟩
  · have nd:=N' (D,seqObj "list" out c) List.mem_cons_self
    refine q H1 _ out.toList c (I1.turnedN (t':=tk) (ch:=[kS,D]) hfr.ns F'.ns (by obtain⟨o,_,_,e,_⟩:=F'.ns;exact⟨o,e⟩) (fun b o hb hl eb=>?_) (fun b hb=>?_)) sm d1 nd.1 ko
    · have hb2:b≠kS∧b≠D:=by simpa using hb
      cases z:X.base.get? b with
      | some o' =>
        have e2:=I1.bk b o' z
        rw[eb]at e2
        cases e2
        exact F'.keep b _ z
      | none=>exact(N' _ (List.mem_cons_of_mem _ (zcw eb z hl hb2.1 hb2.2))).1
    · rcases List.mem_cons.mp hb with rfl|hb
      · exact fS1
      · rw[List.mem_singleton.mp hb];exact fD1
theorem zgJ{D:Addr}{n0:Nat}{its:List Value}{P:PySem.Fin→Shared→Prop}{E:Value→Shared→Prop}(F:FnOk X.prog X.w X.K X.mg X.base CX0 k f fd [p] (spc X.K fr ct))(hr:Room (k+2) X.A)(hb:Binds X.K fd [p] [])(I:Inv X pins σ H s)(rv:Vals vs its)(rs:Rps X.K emp ds H vs)(hk:z26 ct ds=some ks)(h64:ds.length<64)
  (hD:s.heap.get? D=some (seqObj "list" its.toArray n0)) (fD:FpOk X pins H D) (gD:D ∉ frs X.stack) (sD:X.s₀.heap.objs.size≤D)
  (q:∀ H2 s2 (out:List Value) c,Inv X pins σ H2 s2→Same H H2→H2 D=none→s2.heap.get? D=some (seqObj "list" out.toArray c)→KskOut false ks its out→P (.done (.ret .none)) s2) :
  wpAny (model X.prog X.w) X.A.in1.in1 (ksk_tree D (.ref f) false) P E s:=by
 have l1:=rs.length
 have l2:=rv.length
 have hlt:D<s.heap.objs.size:=Heap.lt_size hD
 unfold ksk_tree
 refine wpAny_bind (listItems_at hD rfl ?_)
 have sb:=Heap.SameBut.update s.heap D (Obj.mapSeq fun _=>(#[]:Array Value))
 have o1:=get?_update_seq hD fun _=>(#[]:Array Value)
 refine wpAny_bind (listUpdate_at hD rfl ?_ (by rw[List.size_toArray,sizeLine_eq];omega) (Nat.zero_le _))
 have I1:Inv X pins σ H { s with heap:=s.heap.update D (Obj.mapSeq fun _=>(#[]:Array Value)) }:=I.turnedL (t':=s.toks) (ch:=[D]) (fun b o hb e=>(sb.2 b (by simpa using hb)).trans e) (fun b hb=>by rw[List.mem_singleton.mp hb];exact fD)
 refine wpAny_bind (seqEpoch_at o1 rfl ?_)
 refine wpAny_bind (wpAny_newTuple ?_ (by show its.length≤_;rw[sizeLine_eq];omega))
 refine wpAny_bind (wpAny_newList ?_ (Nat.zero_le _))
 refine wpAny_holding ?_
 generalize hg:s.heap.update D (Obj.mapSeq fun _=>(#[]:Array Value))=g at *
 have zg:g.objs.size=s.heap.objs.size:=sb.1
 have I2:Inv X pins σ H { s with heap:=(g.push (seqObj "tuple" its.toArray 0)).push (seqObj "list" #[] 0) }:=I1.kept (t':=s.toks) fun b o e=>Heap.get?_push_of_some _ (Heap.get?_push_of_some _ e)
 have zk:(g.push (seqObj "tuple" its.toArray 0)).objs.size=g.objs.size+1:=size_push' _ _
 have ge:s.heap.objs.size≤(g.push (seqObj "tuple" its.toArray 0)).objs.size:=by omega
 refine zgI (s:={ s with heap:=(g.push (seqObj "tuple" its.toArray 0)).push (seqObj "list" #[] 0) }) (kS:=(g.push (seqObj "tuple" its.toArray 0)).objs.size) F hr hb I2 rv rs hk h64 (Heap.get?_push_of_some _ (Heap.get?_push_of_some _ o1)) (Heap.get?_push_size _ rfl) (Nat.ne_of_gt (Nat.lt_of_lt_of_le hlt ge)) fD (I.fpOk ge (I.hok.fresh ge)) gD (fun z=>?_) sD (Nat.le_trans I.sz ge) q
 exact absurd (Nat.lt_of_lt_of_le (zhR I z) ge) (Nat.lt_irrefl _)
theorem zcx(F:FnOk X.prog X.w X.K X.mg X.base CX0 k f fd [p] (spc X.K fr ct))(hr:Room (k+2) X.A)(hb:Binds X.K fd [p] [])(I:Inv X pins σ H s)(hl:H l=some (.lst vs))(rs:Rps X.K emp ds H vs)(hk:z26 ct ds=some ks)(h64:ds.length<64)(nd:ks.Nodup)
  (q:∀ D H2 ys,Same H H2→H2 D=none→Rps X.K emp ((z2m (ks.zip ds)).map (·.2)) H2 ys→Q (.ref D) (upd H2 D (.lst ys))) :
  wpAny (model X.prog X.w) X.A (call (.builtin "sorted") [.ref l] [(Str.ofString "key",.ref f)]) (EP X pins σ Q) X.xe s:=by
 obtain⟨its,rv,pl,hz⟩:=I.list (SqL.of (K:=X.K) hl)
 have l1:=rs.length
 have l2:=rv.length
 have l3:=z50 hk
 refine call_function_entry_kw kind_sorted plain_sorted entry_sorted (ksk_s1 _ _) ?_
 unfold Builtin.«sorted»
 refine wpAny_bind (m:=checkCount "sorted" 1 1 _) (wpAny_pure ?_)
 refine wpAny_bind (collect_list pl.isList ?_ (by rw[sizeLine_eq];omega))
 refine wpAny_bind (wpAny_newList ?_ (by rw[sizeLine_eq];omega))
 generalize hg:(s.heap.push (seqObj "list" #[] 0)).update s.heap.objs.size (Obj.mapSeq (·++its.toArray))=g
 have zg:g.objs.size=s.heap.objs.size+1:=by rw[←hg,Heap.size_update,size_push']
 have kg:∀ b o,s.heap.get? b=some o→g.get? b=some o:=fun b o e=>by
  have hlt:=Heap.lt_size e
  rw[←hg,Heap.get?_update_ne _ _ _ _ (Nat.ne_of_lt hlt),Heap.get?_push_ne _ _ _ (Nat.ne_of_lt hlt)]
  exact e
 have I1:Inv X pins σ H { s with heap:=g.push (seqObj "list" its.toArray 0) }:=I.kept (t':=s.toks) fun b o e=>Heap.get?_push_of_some _ (kg b o e)
 have oD:(g.push (seqObj "list" its.toArray 0)).get? g.objs.size=some (seqObj "list" its.toArray 0):=Heap.get?_push_size _ rfl
 have ge:s.heap.objs.size≤g.objs.size:=by omega
 refine wpAny_bind (wpAny_holding (wpAny_call_entry_kw slot_list_sort ⟨_,oD,rfl⟩ entry_list_sort ?body (ksk_l1 _ _)))
 case body =>
  show wpAny (model X.prog X.w) X.A.in1.in1 (Builtin.«list.sort» ⟨[.ref g.objs.size],[(Str.ofString "key",.ref f)]⟩) _ _ _
  rw[ksk_t1]
  refine zgJ (s:={ s with heap:=g.push (seqObj "list" its.toArray 0) }) F hr hb I1 rv rs hk h64 oD (I.fpOk ge (I.hok.fresh ge)) (fun z=>absurd (Nat.lt_of_lt_of_le (zhR I z) ge) (Nat.lt_irrefl _)) (Nat.le_trans I.sz ge) fun H2 s2 out c I2 sm d2 o2 ⟨ps,pp,eo,so⟩=>⟨_,rfl,?_⟩
  refine wpAny_pure ⟨_,rfl,?_⟩
  have key:∃ ts:List (Int×(Dt×(V×Value))),(ts.map fun t=>(t.1,t.2.2.2))=ps∧(ts.map fun t=>(t.1,t.2.1))=z2m (ks.zip ds)∧∀ t∈ts,Rp X.K emp t.2.1 H t.2.2.1∧RelV t.2.2.1 t.2.2.2:=by
   refine⟨z2m (ks.zip (ds.zip (vs.zip its))),?_,?_,fun t ht=>?_⟩
   · have e1:ks.zip its=(ks.zip (ds.zip (vs.zip its))).map fun t=>(t.1,t.2.2.2):=by
      apply List.ext_getElem
      · simp;omega
      · intro i h1 h2;simp
     rw[←z4A (fun z:Dt×(V×Value)=>z.2.2),←e1]
     refine z7L ((z1O _).trans pp.symm) (z3x _) (so.imp fun h=>by simpa using h) ?_
     have:((z2m (ks.zip its)).map (·.1)).Perm ks:=((z1O (ks.zip its)).map _).trans (by rw[List.map_fst_zip (by omega)])
     exact this.nodup_iff.mpr nd
   · have e1:ks.zip ds=(ks.zip (ds.zip (vs.zip its))).map fun t=>(t.1,t.2.1):=by
      apply List.ext_getElem
      · simp;omega
      · intro i h1 h2;simp
     rw[←z4A (fun z:Dt×(V×Value)=>z.1),←e1]
   · have ht:=(z1O _).mem_iff.mp ht
     obtain⟨i,hi,e⟩:=List.getElem_of_mem ht
     simp at hi
     subst e
     simp only[List.getElem_zip]
     obtain⟨v,e1,r1⟩:=rs.get (i:=i) (List.getElem?_eq_getElem (by omega))
     obtain⟨u,e2,r2⟩:=rv.get e1
     rw[List.getElem?_eq_getElem (by omega)]at e1 e2
     cases e1;cases e2
     exact⟨r1,r2⟩
  obtain⟨ts,k1,k2,k3⟩:=key
  have ev:Vals (ts.map fun t=>t.2.2.1) out:=by
   rw[eo,←k1,List.map_map]
   clear k1 k2 eo
   induction ts with
   | nil=>exact .nil
   | cons t ts ih=>exact .cons (k3 t List.mem_cons_self).2 (ih fun z hz=>k3 z (List.mem_cons_of_mem _ hz))
  have er:Rps X.K emp ((z2m (ks.zip ds)).map (·.2)) H (ts.map fun t=>t.2.2.1):=by
   rw[←k2,List.map_map]
   clear k1 k2 eo ev
   induction ts with
   | nil=>exact Rps.nil_.mpr rfl
   | cons t ts ih=>exact Rps.cons_.mpr ⟨_,_,rfl,(k3 t List.mem_cons_self).1,ih fun z hz=>k3 z (List.mem_cons_of_mem _ hz)⟩
  have lt:(ts.map fun t=>t.2.2.1).length≤sizeLine:=by
   rw[List.length_map,←List.length_map (f:=fun t:Int×(Dt×(V×Value))=>(t.1,t.2.1)),k2,(z1O _).length_eq,List.length_zip,sizeLine_eq];omega
  exact⟨.ref g.objs.size,_,I2.track d2 ⟨d2,(I.fpOk ge (I.hok.fresh (H:=H) ge)).2⟩ (Nat.le_trans I.sz ge) (by simpa using o2) ev lt,rfl,q _ _ _ sm d2 (Rps.mono _ sm er)⟩
end
section
variable {X:Cx}{a:Expr}{Fa:FE}{k:Nat}{f:Addr}{fd:FuncData}{prm:Str}{fr:Bool}{ct:FC}{x:Str}{p pos kp kpos:Pos}
def z51(c:FC)(F:FE):FE:=fun ρ=>(F ρ).bind fun x=>(lstD x.2).bind fun ds=>(z26 c ds).bind fun ks=>if ds.length<64∧ks.Nodup then some (newL ((z2m (ks.zip ds)).map (·.2))) else none
theorem zlf(F:FnOk X.prog X.w X.K X.mg X.base CX0 k f fd [prm] (spc X.K fr ct))(hr:Room (k+2) X.A)(hg:Gl X "sorted")(hm:X.mg "sorted" = none)(hf:X.mg x=some (.ref f))(hgf:Gl X x)(hb:Binds X.K fd [prm] [])(ha:PF X a Fa)(hd:(x==("__debug__" : Str))=false:=by decide)(hs:starEach [a] X.env=[(false,eval a X.env)]:=by rfl):
   PF X (.Call (.Name "sorted" p) [a] [⟨some "key",.Name x kp,kpos⟩] pos) (z51 ct Fa):=by
 intro pins s σ H Q I ⟨ρ,fz,dz,rs,e0,kk⟩
 obtain⟨⟨fa,da⟩,ea,e1⟩:=z04 e0
 obtain⟨ds,ed,e2⟩:=z04 e1
 obtain⟨ks,ek,e3⟩:=z04 e2
 split at e3
 · rename_i hh
   cases e3
   have hA:PA X [a] (upAs X (z02 Fa fNil)):=z03 ha z07 hs
   refine wpAny_Call_Name_kw (z3X I hg hm (by decide +kernel:bootBuiltins "sorted" = some (.builtin "sorted")) ?_)
   refine PyProof.Rows.callWith_kw (thn (hA pos pins s σ H (fun vs H1=>Same H H1∧∃ va,vs=[va]∧Rp X.K emp da H1 va) I ⟨ρ,[(fa,da)],rs,by simp[z02,fNil,ea],fun vs H1 s1 ⟨va,r1,ee1,q1,q3⟩=>⟨s1,va,by rw[ee1,show r1=[]from q3],q1.sh⟩⟩) fun us s1 ⟨vs,H1,I1,rv,s1H,va,ev,ra⟩=>?_) (by rw[hs];rfl) (by rw[hs];rfl) rfl rfl
   subst ev
   obtain⟨ua,rfl,rua⟩:=rv.one
   have hkw:=zfx (X:=X) (nm:=some "key") (kpos:=kpos) (zfu (v:=V.ref f) (pos:=kp) hgf hf rfl hd) zhj
   refine thn (hkw pos pins s1 σ H1 (fun zs H2=>zs=[.ref f]∧H2=H1) I1 ⟨rfl,rfl⟩) ?_
   rintro kvs s2 ⟨zs,H2,I2,rz,ez,eH⟩
   subst ez;subst eH
   obtain⟨uk,rfl,ruk⟩:=rz.one
   cases ruk
   have ex:∃ l vs,va = .ref l∧H2 l=some (.lst vs)∧Rps X.K emp ds H2 vs:=by
    cases da<;>first|cases ed|skip
    obtain⟨l,vs,e,_,h1,h2⟩:=ra.items
    exact⟨l,vs,e,h1,h2⟩
   obtain⟨l,vs,rfl,h1,h2⟩:=ex
   cases rua
   refine zcx F hr hb I2 h1 h2 ek hh.1 hh.2 fun D H3 ys sm d3 r3=>kk _ _ (s1H.trans (sm.trans (z17 d3))) ?_
   exact(z5l d3 r3).early (s1H.trans sm)
 · cases e3
end
end L2

end
section
set_option linter.all false
set_option maxRecDepth 100000
namespace L2
open PySem
abbrev L(ns:List Int):Dt := .lst (ns.map .int)
abbrev T(ns:List Int):Dt := .tup (ns.map .int)
theorem z0j{α β:Type}{a:α}{f:α→Option β}:(some a).bind f=f a:=rfl
theorem zfM{α:Type}{xs:List α}{i:Int}(h0:0≤i):atI xs i=xs[i.toNat]?:=by
 unfold atI ixN
 rw[if_pos h0]
 by_cases h:i<xs.length
 · rw[if_pos h];rfl
 · rw[if_neg h,List.getElem?_eq_none (by omega)];rfl
theorem atI_c0{α:Type}{x:α}{xs:List α}:atI (x::xs) 0=some x:=z5j (j:=0) rfl
theorem atI_c1{α:Type}{x y:α}{xs:List α}:atI (x::y::xs) 1=some y:=z5j (j:=1) rfl
theorem atI_c2{α:Type}{x y z:α}{xs:List α}:atI (x::y::z::xs) 2=some z:=z5j (j:=2) rfl
theorem z2I:∀ ns:List Int,z1g (ns.map Dt.int)=true
 | []=>rfl
 | n::ns=>by rw[List.map_cons,z1g,z2I ns];rfl
theorem z2y:∀(k:Nat) (ns:List Int),oksN k (ns.map Dt.int)=true
 | k,[]=>by cases k<;>rfl
 | k,n::ns=>by rw[List.map_cons,oksN,z2y k ns];cases k<;>rfl
theorem z3g:∀ ns:List Int,pys (ns.map Dt.int)=ns.map PyData.int
 | []=>rfl
 | n::ns=>by rw[List.map_cons,pys,z3g ns];rfl
theorem z2X:∀ ns ms:List Int,PyData.eqvAll (ns.map PyData.int) (ms.map PyData.int)=decide (ns=ms)
 | [],[]=>by simp[PyData.eqvAll]
 | [],m::ms=>by simp[PyData.eqvAll]
 | n::ns,[]=>by simp[PyData.eqvAll]
 | n::ns,m::ms=>by
  rw[List.map_cons,List.map_cons,PyData.eqvAll,z2X ns ms,PyData.eqv,Bool.eq_iff_iff]
  simp
theorem zgK(ns ms:List Int):opEq (L ns) (L ms)=some (.nw,.bl (decide (ns=ms))):=by
 unfold opEq L
 rw[Dt.okN,Dt.okN,z2y,z2y]
 unfold eqD
 rw[Dt.py,Dt.py,z3g,z3g,PyData.eqv,z2X]
 rfl
theorem zgL(ns ms:List Int):opNe (L ns) (L ms)=some (.nw,.bl (!decide (ns=ms))):=by
 unfold opNe L
 rw[Dt.okN,Dt.okN,z2y,z2y]
 unfold eqD
 rw[Dt.py,Dt.py,z3g,z3g,PyData.eqv,z2X]
 rfl
theorem zlg(ns:List Int):(Dt.scr ns).okN 8=true:=by simp[Dt.okN]
theorem zb7(ns ms:List Int):opEq (.scr ns) (L ms)=some (.nw,.bl (decide (ns=ms))):=by
 unfold opEq
 rw[zlg]
 unfold L
 rw[Dt.okN,z2y]
 unfold eqD
 rw[Dt.py,Dt.py,z3g,PyData.eqv,z2X]
 rfl
theorem z0q(i j:Int):opEq (.int i) (.int j)=some (.nw,.bl (decide (i=j))):=by
 unfold opEq eqD
 rw[Dt.py,Dt.py,PyData.eqv,Bool.beq_eq_decide_eq]
 rfl
theorem z1I(i j:Int):opNe (.int i) (.int j)=some (.nw,.bl (!decide (i=j))):=by
 unfold opNe eqD
 rw[Dt.py,Dt.py,PyData.eqv,Bool.beq_eq_decide_eq]
 rfl
theorem zb8{i j:Int}(h:j.natAbs<2 ^ 64):z15 i j=true:=by unfold z15;rw[decide_eq_true h];simp
theorem z0M{i j:Int}(h:i.natAbs<2 ^ 64):z15 i j=true:=by unfold z15;rw[decide_eq_true h];simp
section
variable (i j:Int)
end
def z0g(ns:List Int)(k:Int):Int:=if k<ns.length then ns.getD k.toNat 0 else if ns=[] then 0 else ns.getD (k.fmod ns.length).toNat 0*31+k
end L2

end
section
set_option linter.all false
set_option maxRecDepth 100000
namespace L2
open PySem
section
variable {α β γ:Type}{g:Tg}{Fc:FT}{Fe:FE}{ρ0:Rho}
theorem z9a(e:α→Dt)(h:α→Dv):∀(xs:List α),(∀ x∈xs,(g.put (e x) ρ0).bind Fe=some (h x))→z41 g fYes Fe ρ0 (xs.map e)=some (xs.map h)
 | [],_=>rfl
 | x::xs,q=>by
  have q1:=q x List.mem_cons_self
  have ih:=z9a e h xs fun y hy=>q y (List.mem_cons_of_mem _ hy)
  rw[List.map_cons,z41]
  cases p:g.put (e x) ρ0 with
  | none=>rw[p]at q1;cases q1
  | some ρ1 =>
   rw[p]at q1
   have q1:Fe ρ1=some (h x):=q1
   simp[fYes,q1,ih]
theorem z5u(e:α→Dt)(h:α→Dv)(p:α→Bool):∀(xs:List α),(∀ x∈xs,(g.put (e x) ρ0).bind Fc=some (p x))→(∀ x∈xs,p x=true→(g.put (e x) ρ0).bind Fe=some (h x))→z41 g Fc Fe ρ0 (xs.map e)=some ((xs.filter p).map h)
 | [],_,_=>rfl
 | x::xs,q,q'=>by
  have q1:=q x List.mem_cons_self
  have q2:=q' x List.mem_cons_self
  have ih:=z5u e h p xs (fun y hy=>q y (List.mem_cons_of_mem _ hy)) (fun y hy=>q' y (List.mem_cons_of_mem _ hy))
  rw[List.map_cons,z41]
  cases z:g.put (e x) ρ0 with
  | none=>rw[z]at q1;cases q1
  | some ρ1 =>
   rw[z]at q1 q2
   have q1:Fc ρ1=some (p x):=q1
   cases w:p x with
   | true =>
    have q2:Fe ρ1=some (h x):=q2 w
    simp[q1,w,q2,ih]
   | false=>simp[q1,w,ih]
theorem z7O(h:α→Dv):∀ xs:List α,sndL (xs.map h)=xs.map fun x=>(h x).2
 | []=>rfl
 | x::xs=>by rw[List.map_cons,sndL,z7O h xs];rfl
theorem z6h{h:α→Dv}:∀{xs:List α},(∀ x∈xs,(h x).1.isFr=true)→z2F (xs.map h)=true
 | [],_=>rfl
 | x::xs,q=>by rw[List.map_cons,z2F,q x List.mem_cons_self,z6h fun y hy=>q y (List.mem_cons_of_mem _ hy)];rfl
theorem z0C{nt:Nat}{js:List Nat}{Fi:FI}{ρ:Rho}{e:α→Dt}{h:α→Dt}{xs:List α}(hi:Fi ρ=some (xs.map e))(q:∀ x∈xs,(g.put (e x) (sigD nt js ρ)).bind Fe=some (.nw,h x)):z0k nt js Fi g fYes Fe ρ=some (.nw,.lst (xs.map h)):=by
 unfold z0k
 rw[hi,z0j,z9a e (fun x=>(.nw,h x)) xs q,z0j,z6h (fun x _=>rfl),z7O]
 rfl
theorem z5v{nt:Nat}{js:List Nat}{Fi:FI}{ρ:Rho}{e:α→Dt}{h:α→Dt}{p:α→Bool}{xs:List α}(hi:Fi ρ=some (xs.map e))(q:∀ x∈xs,(g.put (e x) (sigD nt js ρ)).bind Fc=some (p x))(q':∀ x∈xs,p x=true→(g.put (e x) (sigD nt js ρ)).bind Fe=some (.nw,h x)):
  z0k nt js Fi g Fc Fe ρ=some (.nw,.lst ((xs.filter p).map h)):=by
 unfold z0k
 rw[hi,z0j,z5u e (fun x=>(.nw,h x)) p xs q q',z0j,z6h (fun x _=>rfl),z7O]
 rfl
variable {F:FS}
def nextO(G:FS):Oc→Option Oc
 | .nx ρ=>G ρ
 | .ct ρ=>G ρ
 | .bk ρ=>some (.nx ρ)
 | .rt f d=>some (.rt f d)
 | .ex C=>some (.ex C)
theorem zhS{ρ:Rho}:forF g F [] ρ=some (.nx ρ):=rfl
theorem z1P{x:Dt}{xs:List Dt}{ρ:Rho}:forF g F (x::xs) ρ=((g.put x ρ).bind F).bind (nextO (forF g F xs)):=by
 rw[forF]
 cases g.put x ρ with
 | none=>rfl
 | some ρ1 =>
  show(F ρ1).bind _=(F ρ1).bind _
  congr 1
  first|done|(funext oc;cases oc<;>rfl)
theorem z6i(e:α→Dt)(R:β→γ→Rho)(step:β→α→β):∀(xs:List α) (b:β) (j:γ),(∀ b x j,x∈xs→∃ j',(g.put (e x) (R b j)).bind F=some (.nx (R (step b x) j')))→∃ j',forF g F (xs.map e) (R b j)=some (.nx (R (xs.foldl step b) j'))
 | [],b,j,_=>⟨j,rfl⟩
 | x::xs,b,j,h=>by
  obtain⟨j1,h1⟩:=h b x j List.mem_cons_self
  obtain⟨j2,h2⟩:=z6i e R step xs (step b x) j1 fun b y j hy=>h b y j (List.mem_cons_of_mem _ hy)
  refine⟨j2,?_⟩
  rw[List.map_cons,z1P,h1]
  exact h2
end
abbrev LL(rows:List (List Int)):Dt := .lst (rows.map L)
abbrev TTu(rows:List (List Int)):Dt := .tup (rows.map T)
abbrev z0N(k:Int)(bills:List (List Int)):Dt := .tup [.int k,TTu bills]
theorem zhT(ns:List Int):(T ns).flat=true:=by show z1g _=true;exact z2I ns
theorem z6j:∀ rows:List (List Int),z1g (rows.map T)=true
 | []=>rfl
 | r::rows=>by rw[List.map_cons,z1g,zhT,z6j rows];rfl
theorem nrm_T(f:Fl)(ns:List Int):nrm f (T ns)=(.nw,T ns):=by unfold nrm;rw[zhT];rfl
theorem zhU(ns:List Int):lfl (ns.map .int) = .nw:=by unfold lfl;rw[z2I];rfl
theorem z1v(ns:List Int):newL (ns.map .int)=(.nw,L ns):=by unfold newL;rw[zhU]
theorem z6k{α:Type}(h:α→Bool):∀ xs:List α,z6J (xs.map fun x => .bl (h x))=some (xs.map h)
 | []=>rfl
 | x::xs=>by rw[List.map_cons,z6J,z6k h xs];rfl
theorem z7P{α β:Type}(e:α→Dt)(f:β→Dt):∀(xs:List α) (ys:List β),zipD (xs.map e) (ys.map f)=(xs.zip ys).map fun p => .tup [e p.1,f p.2]
 | [],ys=>by simp[zipD]
 | x::xs,[]=>by simp[zipD]
 | x::xs,y::ys=>by rw[List.map_cons,List.map_cons,zipD,z7P e f xs ys];rfl
theorem z27(lo:Int)(n:Nat):z35 lo n=(List.range n).map fun(k:Nat) => .int (lo+(k:Int)):=rfl
theorem zcy(c:Int){m:Int}(h:0<m):0≤c.fmod m∧c.fmod m<m:=⟨Int.fmod_nonneg_of_pos c h,Int.fmod_lt_of_pos c h⟩
def z9b(c m:Int):Int :=
 if m=2 then(if((c.fdiv (10 ^ 30)).fmod 2)=1 then -(c.fmod (10 ^ 30)) else c.fmod (10 ^ 30))
 else
  let wide:Int:=if m=0 then 9 else 61
  let n:=c.fmod wide
  if wide.fdiv 2<n then n-wide else n
theorem zhV(c m:Int):(z9b c m).natAbs<10 ^ 30:=by
 unfold z9b
 have a1:=Int.fmod_nonneg_of_pos c (show(0:Int)<10 ^ 30 by decide)
 have a2:=Int.fmod_lt_of_pos c (show(0:Int)<10 ^ 30 by decide)
 dsimp only
 split
 · split<;>omega
 · have hw:(if m=0 then(9:Int) else 61)=9∨(if m=0 then(9:Int) else 61)=61:=by split<;>simp
   generalize (if m=0 then(9:Int) else 61)=wide at *
   have b1:=Int.fmod_nonneg_of_pos c (show(0:Int)<wide by omega)
   have b2:=Int.fmod_lt_of_pos c (show(0:Int)<wide by omega)
   split<;>omega
def z3V(ns:List Int)(at_:Int)(n:Nat)(m:Int):List Int:=(List.range n).map fun(k:Nat)=>z9b (z0g ns (at_+(k:Int))) m
theorem z9c(ns:List Int)(a:Int)(n:Nat)(m:Int):(z3V ns a n m).length=n:=by unfold z3V;simp
end L2

end
section
local macro_rules|`(tactic| omega)=>`(tactic| first|lia|omega +splitDisjunctions)
set_option linter.all false
set_option maxRecDepth 100000
namespace L2
open PySem
def addR(a b:List Int):List Int:=List.zipWith (·+·) a b
def subR(a b:List Int):List Int:=List.zipWith (· - ·) a b
def sclR(k:Int)(a:List Int):List Int:=a.map (k*·)
def z1B(n:Nat):List Int:=List.replicate n 0
def mixR(n:Nat)(rows:List (List Int))(cs:List Int):List Int:=(rows.zip cs).foldl (fun t p=>addR t (sclR p.2 p.1)) (z1B n)
def isWh:Dt→Bool
 | .int _=>true
 | _=>false
theorem z7Q{a b:List Int}(h:a.length=b.length):(addR a b).length=a.length:=by unfold addR;rw[List.length_zipWith];omega
theorem z1Y{k:Int}{a:List Int}:(sclR k a).length=a.length:=by unfold sclR;simp
theorem z28{n:Nat}:(z1B n).length=n:=by unfold z1B;simp
theorem zhW(a b:List Int):(a.zip b).map (fun p=>Dt.int (p.1+p.2))=(addR a b).map .int:=by
 unfold addR
 rw[List.zip,]
 induction a generalizing b with
 | nil=>rfl
 | cons x a ih=>cases b with
  | nil=>rfl
  | cons y b=>have:=ih b;simp[List.zipWith]
theorem zgM(a b:List Int):(a.zip b).map (fun p=>Dt.int (p.1-p.2))=(subR a b).map .int:=by
 unfold subR
 rw[List.zip,]
 induction a generalizing b with
 | nil=>rfl
 | cons x a ih=>cases b with
  | nil=>rfl
  | cons y b=>have:=ih b;simp[List.zipWith]
theorem z5w{α β:Type}(g:α→β)(xs:List α)(i:Int):atI (xs.map g) i=(atI xs i).map g:=by
 unfold atI
 rw[List.length_map]
 cases ixN xs.length i with
 | none=>rfl
 | some j=>show(xs.map g)[j]?=_;rw[List.getElem?_map];rfl
theorem zcz{α:Type}{xs:List α}{i:Nat}(h:i<xs.length):atI xs (i:Int)=some xs[i]:=z5j (List.getElem?_eq_getElem h)
def Wide(n:Nat)(rows:List (List Int)):Prop:=∀ r∈rows,r.length=n
theorem zb9{n:Nat}:∀(ps:List (List Int×Int)) (t:List Int),t.length=n→(∀ p∈ps,p.1.length=n)→(ps.foldl (fun t p=>addR t (sclR p.2 p.1)) t).length=n
 | [],t,h,_=>h
 | p::ps,t,h,q=>zb9 ps _ (by rw[z7Q (by rw[h,z1Y,q p List.mem_cons_self])];exact h) fun p hp=>q p (List.mem_cons_of_mem _ hp)
theorem zhX{n:Nat}{rows:List (List Int)}{cs:List Int}(h:Wide n rows):(mixR n rows cs).length=n :=
 zb9 _ _ z28 fun p hp=>h _ (List.of_mem_zip hp).1
theorem zgN(a b:List Int)(h:a.length=b.length)(f:Int→Int→Int):(List.range a.length).map (fun k=>f (a.getD k 0) (b.getD k 0))=List.zipWith f a b:=by
 apply List.ext_getElem
 · simp;omega
 · intro i h1 h2
   simp at h1
   simp[List.getD,List.getElem?_eq_getElem h1,List.getElem?_eq_getElem (show i<b.length by omega)]
theorem zhY(d:Dt):nrm .nw d=(.nw,d):=by unfold nrm;split<;>rfl
theorem run{F G:FS}{ρ ρ':Rho}{r:Option Oc}(h:F ρ=some (.nx ρ'))(k:G ρ'=r):sSeq F G ρ=r:=by
 unfold sSeq
 rw[h]
 exact k
theorem z1b{np n:Nat}{fr:Bool}{F:FS}{ds:List Dt}{f:Fl}{d:Dt}(hl:ds.length=np)(h:F (rho0 n ds)=some (.rt f d))(hf:(f.isFr||d.flat)=true):cOf np n fr F ds=some d:=by
 unfold cOf
 rw[if_pos hl,h]
 show(if(fr&&!(f.isFr||d.flat))=true then none else some d)=some d
 rw[hf]
 cases fr<;>rfl
theorem zcA{n:Nat}(h:n≤1000000):z4P (n:Int)=true:=by
 unfold z4P
 rw[decide_eq_true (show -1000000≤(n:Int) by omega),decide_eq_true (show(n:Int)≤1000000 by omega)]
 rfl
theorem addscl(a b:List Int)(k:Int)(h:a.length=b.length):(List.range a.length).map (fun i=>a.getD i 0+k*b.getD i 0)=addR a (sclR k b):=by
 unfold addR sclR
 rw[List.zipWith_map_right]
 exact zgN a b h fun x y=>x+k*y
theorem L_map(f:Nat→Int)(n:Nat):(List.range n).map (fun k=>Dt.int (f k))=((List.range n).map f).map .int:=by rw[List.map_map];rfl
theorem zhZ{α:Type}{xs:List α}{i:Nat}(d:α)(h:i<xs.length):xs.getD i d∈xs:=by
 simp[List.getD,List.getElem?_eq_getElem h]
theorem z5x{α:Type}{xs:List α}{i:Nat}(d:α)(h:i<xs.length):atI xs (i:Int)=some (xs.getD i d):=by
 rw[zcz h];simp[List.getD,List.getElem?_eq_getElem h]
theorem zba(ns:List Int)(a:Int)(n:Nat)(m:Int):∀ x∈z3V ns a n m,x.natAbs<10 ^ 30:=fun x hx=>by
 unfold z3V at hx
 obtain⟨k,_,rfl⟩:=List.mem_map.mp hx
 exact zhV _ _
end L2

end
section
set_option linter.all false
set_option maxRecDepth 100000
namespace L2
open PySem
@[simp] theorem x0:∀(n:Nat) (ds:List Dt),rho0 n ds=List.map (Cell.sh false) ds++List.replicate (n-List.length ds) Cell.no:=by intros;rfl
@[simp] theorem x1:∀(F G:FS) (ρ:Rho),sSeq F G ρ=Option.bind (F ρ) (seqO G):=by intros;rfl
@[simp] theorem x2:∀(G:FS) (ρ:Rho),seqO G (Oc.nx ρ)=G ρ:=by intros;rfl
@[simp] theorem x3:∀(G:FS) (x:Oc),(∀(ρ:Rho),x=Oc.nx ρ→False)→seqO G x=some x:=by exact @L2.seqO.eq_2
@[simp] theorem x4:∀(c:FT) (F G:FS) (ρ:Rho),sIf c F G ρ=Option.bind (c ρ) fun b=>if b=true then F ρ else G ρ:=by intros;rfl
@[simp] theorem x5:∀(F:FE) (ρ:Rho),z0e F ρ=Option.bind (F ρ) fun x=>blD (Prod.snd x):=by intros;rfl
@[simp] theorem x6:∀(r:FO) (Fa Fb:FE) (ρ:Rho),
 fOp r Fa Fb ρ=Option.bind (Fa ρ) fun x=>Option.bind (Fb ρ) fun y=>r (Prod.snd x) (Prod.snd y):=by intros;rfl
@[simp] theorem x7:∀(i:Nat) (ρ:Rho),fN i ρ=zaU ρ i:=by intros;rfl
@[simp] theorem x8:∀(ρ:Rho) (i:Nat),zaU ρ i=Option.bind ρ[i]? Cell.val:=by intros;rfl
@[simp] theorem x9:Cell.val Cell.no=none:=by intros;rfl
@[simp] theorem x10:∀(f:Bool) (d:Dt),Cell.val (Cell.sh f d)=some (nrm (flOf f) d):=by intros;rfl
@[simp] theorem x11:∀(f:Bool) (ds:List Dt),Cell.val (Cell.ow f ds)=some (flOf f,Dt.lst ds):=by intros;rfl
@[simp] theorem x12:∀(f:Bool),flOf f=if f=true then Fl.fr else Fl.sh:=by intros;rfl
@[simp] theorem x13:∀(r:FB) (Fs:FA) (ρ:Rho),fBlt r Fs ρ=Option.bind (Fs ρ) fun xs=>r (sndL xs):=by intros;rfl
@[simp] theorem x14:∀(Fa:FE) (Fs:FA) (ρ:Rho),z02 Fa Fs ρ=Option.bind (Fa ρ) fun x=>Option.bind (Fs ρ) fun xs=>some (x::xs):=by intros;rfl
@[simp] theorem x15:∀(x:Rho),fNil x=some []:=by intros;rfl
@[simp] theorem x16:sndL []=[]:=by intros;rfl
@[simp] theorem x17:∀(x_1:Dv) (xs:List Dv),sndL (x_1::xs)=Prod.snd x_1::sndL xs:=by intros;rfl
@[simp] theorem x18:∀(xs:List Dt),bLen [Dt.lst xs]=some (Fl.nw,Dt.int ↑(List.length xs)):=by intros;rfl
@[simp] theorem x19:∀(xs:List Dt),bLen [Dt.tup xs]=some (Fl.nw,Dt.int ↑(List.length xs)):=by intros;rfl
@[simp] theorem x20:∀(xs:List Int),bLen [Dt.scr xs]=some (Fl.nw,Dt.int ↑(List.length xs)):=by intros;rfl
@[simp] theorem x22:∀(b:Bool),blD (Dt.bl b)=some b:=by intros;rfl
@[simp] theorem x24:truD Dt.non=some false:=by intros;rfl
@[simp] theorem x25:∀(b:Bool),truD (Dt.bl b)=some b:=by intros;rfl
@[simp] theorem x26:∀(i:Int),truD (Dt.int i)=some (i != 0):=by intros;rfl
@[simp] theorem x27:∀(ds:List Dt),truD (Dt.lst ds)=some !List.isEmpty ds:=by intros;rfl
@[simp] theorem x28:∀(ds:List Dt),truD (Dt.tup ds)=some !List.isEmpty ds:=by intros;rfl
@[simp] theorem x30:∀(F:FE) (ρ:Rho),sRet F ρ=Option.map (fun x=>Oc.rt (Prod.fst x) (Prod.snd x)) (F ρ):=by intros;rfl
@[simp] theorem x31:∀(ρ:Rho),z0w ρ=some (Oc.nx ρ):=by intros;rfl
@[simp] theorem x32:∀(Fa Fb:FE) (ρ:Rho),fAt Fa Fb ρ=Option.bind (Fa ρ) fun x=>Option.bind (Fb ρ) fun y=>opAt x y:=by intros;rfl
@[simp] theorem x33:∀(x y:Dv),
 opAt x y =
  match Prod.snd x,Prod.snd y with
  | Dt.lst ds,Dt.int i=>Option.map (nrm (Fl.item (Prod.fst x))) (atI ds i)
  | Dt.tup ds,Dt.int i=>Option.map (nrm (Fl.item (Prod.fst x))) (atI ds i)
  | Dt.scr ns,Dt.int i=>Option.map (fun n=>(Fl.nw,Dt.int n)) (atI ns i)
  | x,x_1=>none:=by intros;rfl
@[simp] theorem x34:∀(Fs:FA) (ρ:Rho),
 fLst Fs ρ =
  Option.bind (Fs ρ) fun xs =>
   if List.length xs≤1000 then some (if z3S xs=true then Fl.nw else Fl.tn,Dt.lst (sndL xs)) else none:=by intros;rfl
@[simp] theorem x35:∀(Fs:FA) (ρ:Rho),
 fTup Fs ρ =
  Option.bind (Fs ρ) fun xs =>
   if List.length xs≤1000 then
    some (if z3S xs=true then Fl.nw else if z2F xs=true then Fl.fr else Fl.sh,Dt.tup (sndL xs))
   else none:=by intros;rfl
@[simp] theorem x36:Fl.item Fl.tn=Fl.sh:=by intros;rfl
@[simp] theorem x37:∀(x:Fl),(x=Fl.tn→False)→Fl.item x=x:=by exact @L2.Fl.item.eq_2
@[simp] theorem x38:∀(d:Dt) (x:Rho),fC d x=some (Fl.nw,d):=by intros;rfl
@[simp] theorem x39:∀(F:FE) (ρ:Rho),fTru F ρ=Option.bind (F ρ) fun x=>truD (Prod.snd x):=by intros;rfl
@[simp] theorem x40:∀(F:FT) (ρ:Rho),fNot F ρ=Option.map not (F ρ):=by intros;rfl
@[simp] theorem x41:∀(F G:FT) (ρ:Rho),fAnd F G ρ=Option.bind (F ρ) fun b=>if b=true then G ρ else some false:=by intros;rfl
@[simp] theorem x42:∀(F G:FT) (ρ:Rho),fOr F G ρ=Option.bind (F ρ) fun b=>if b=true then some true else G ρ:=by intros;rfl
@[simp] theorem x43:∀(F G:FE) (ρ:Rho),
 vAnd F G ρ=Option.bind (z0e F ρ) fun b=>if b=true then G ρ else some (Fl.nw,Dt.bl false):=by intros;rfl
@[simp] theorem x44:∀(F G:FE) (ρ:Rho),vOr F G ρ=Option.bind (z0e F ρ) fun b=>if b=true then some (Fl.nw,Dt.bl true) else G ρ:=by intros;rfl
@[simp] theorem x45:∀(F:FE) (ρ:Rho),vNot F ρ=Option.map (fun b=>(Fl.nw,Dt.bl !b)) (z0e F ρ):=by intros;rfl
@[simp] theorem x46:∀(F:FE) (ρ:Rho),
 fNeg F ρ =
  Option.bind (F ρ) fun x =>
   match Prod.snd x with
   | Dt.int i=>some (Fl.nw,Dt.int (-i))
   | x=>none:=by intros;rfl
@[simp] theorem x47:∀(F:FT) (Fa Fb:FE) (ρ:Rho),fIf F Fa Fb ρ=Option.bind (F ρ) fun b=>if b=true then Fa ρ else Fb ρ:=by intros;rfl
@[simp] theorem x48:∀(T:String) (F:FE) (ρ:Rho),fIsi T F ρ=Option.map (fun x=>(Fl.nw,Dt.bl (zaW (tyN (Prod.snd x)) T))) (F ρ):=by intros;rfl
@[simp] theorem x49:∀(t T:String),zaW t T=(t==T||t == "bool" && T == "int"):=by intros;rfl
@[simp] theorem x50:tyN Dt.non = "NoneType" := by intros;rfl
@[simp] theorem x51:∀(b:Bool),tyN (Dt.bl b) = "bool" := by intros;rfl
@[simp] theorem x52:∀(i:Int),tyN (Dt.int i) = "int" := by intros;rfl
@[simp] theorem x53:∀(x_1:PySem.Str),tyN (Dt.str x_1) = "str" := by intros;rfl
@[simp] theorem x54:∀(xs:List Dt),tyN (Dt.lst xs) = "list" := by intros;rfl
@[simp] theorem x55:∀(ns:List Int),tyN (Dt.scr ns) = "list" := by intros;rfl
@[simp] theorem x56:∀(xs:List Dt),tyN (Dt.tup xs) = "tuple" := by intros;rfl
@[simp] theorem x57:∀(rels:List Nat) (i:Nat) (F:FE) (ρ:Rho),
 sSet rels i F ρ =
  Option.map (fun x=>Oc.nx (List.set (relS rels ρ) i (Cell.sh (Fl.isFr (Prod.fst x)) (Prod.snd x))))
   (F (z1l (relS rels ρ))):=by intros;rfl
@[simp] theorem x58:∀(x:Rho),relS [] x=x:=by intros;rfl
@[simp] theorem x59:∀(x:Rho) (i:Nat) (is:List Nat),relS (i::is) x=relS is (z97 x i):=by intros;rfl
@[simp] theorem x60:z1l []=[]:=by intros;rfl
@[simp] theorem x61:∀(c:Cell) (ρ:List Cell),z1l (c::ρ)=z2H c::z1l ρ:=by intros;rfl
@[simp] theorem x62:∀(f:Bool) (ds:List Dt),z2H (Cell.ow f ds)=Cell.no:=by intros;rfl
@[simp] theorem x63:∀(x:Cell),(∀(f:Bool) (ds:List Dt),x=Cell.ow f ds→False)→z2H x=x:=by exact @L2.z2H.eq_2
@[simp] theorem x64:∀(fr:Bool) (c:FC) (Fs:FA) (ρ:Rho),
 z08 fr c Fs ρ=Option.bind (Fs ρ) fun xs=>Option.map (nrm (if fr=true then Fl.nw else Fl.sh)) (c (sndL xs)):=by intros;rfl
@[simp] theorem x65:Fl.isFr Fl.nw=true:=by intros;rfl
@[simp] theorem x66:Fl.isFr Fl.fr=true:=by intros;rfl
@[simp] theorem x68:Fl.isNw Fl.nw=true:=by intros;rfl
@[simp] theorem x69:∀(x:Fl),(x=Fl.nw→False)→Fl.isNw x=false:=by exact @L2.Fl.isNw.eq_2
@[simp] theorem x70:z3S []=true:=by intros;rfl
@[simp] theorem x71:∀(x_1:Dv) (xs:List Dv),z3S (x_1::xs)=(Fl.isNw (Prod.fst x_1)&&z3S xs):=by intros;rfl
@[simp] theorem x72:z2F []=true:=by intros;rfl
@[simp] theorem x73:∀(x_1:Dv) (xs:List Dv),z2F (x_1::xs)=(Fl.isFr (Prod.fst x_1)&&z2F xs):=by intros;rfl
@[simp] theorem x74:∀(F:FE) (ρ:Rho),z4Q F ρ=Option.map (fun x=>Oc.nx ρ) (F ρ):=by intros;rfl
@[simp] theorem x75:∀(rels:List Nat) (Fi:FI) (g:Tg) (F:FS) (ρ:Rho),
 sFor rels Fi g F ρ=Option.bind (Fi (z1l (relS rels ρ))) fun items=>forF g F items (relS rels ρ):=by intros;rfl
@[simp] theorem x76:∀(F:FE) (ρ:Rho),iSeq F ρ=Option.bind (F ρ) fun x=>seqD (Prod.snd x):=by intros;rfl
@[simp] theorem x77:∀(ds:List Dt),seqD (Dt.lst ds)=some ds:=by intros;rfl
@[simp] theorem x78:∀(ds:List Dt),seqD (Dt.tup ds)=some ds:=by intros;rfl
@[simp] theorem x80:∀(i:Nat) (F:FE) (ρ:Rho),
 z2V i F ρ =
  Option.bind (F ρ) fun x =>
   if Fl.isNw (Prod.fst x)=true then some (Oc.nx (List.set ρ i (Cell.sh true (Prod.snd x)))) else none:=by intros;rfl
@[simp] theorem x81:∀(i:Nat) (F:FE) (ρ:Rho),
 sOwn i F ρ =
  Option.bind (F (z1l ρ)) fun x =>
   match x with
   | (Fl.nw,Dt.lst ds)=>if i<List.length ρ then some (Oc.nx (List.set ρ i (Cell.ow true ds))) else none
   | (Fl.tn,Dt.lst ds)=>if i<List.length ρ then some (Oc.nx (List.set ρ i (Cell.ow false ds))) else none
   | x=>none:=by intros;rfl
@[simp] theorem x82:∀(i:Nat) (F:FE) (ρ:Rho),
 sOwnA i F ρ =
  Option.bind (F ρ) fun x =>
   match x with
   | (Fl.nw,Dt.lst ds)=>if i<List.length ρ then some (Oc.nx (List.set ρ i (Cell.ow true ds))) else none
   | x=>none:=by intros;rfl
@[simp] theorem x83:∀(w:FW) (i:Nat) (F:FE) (ρ:Rho),
 sWr w i F ρ =
  Option.bind (z5t ρ i) fun o =>
   Option.bind (F (z1l ρ)) fun x =>
    Option.map (fun ds=>Oc.nx (List.set ρ i (Cell.ow (Prod.fst o&&Fl.isFr (Prod.fst x)) ds)))
     (w (Prod.snd o) (Prod.snd x)):=by intros;rfl
@[simp] theorem x84:∀(w:FW) (i:Nat) (F:FE) (ρ:Rho),
 sWrA w i F ρ =
  Option.bind (z5t ρ i) fun o =>
   Option.bind (F ρ) fun x =>
    if Fl.isNw (Prod.fst x)=true then
     Option.map (fun ds=>Oc.nx (List.set ρ i (Cell.ow (Prod.fst o) ds))) (w (Prod.snd o) (Prod.snd x))
    else none:=by intros;rfl
@[simp] theorem x85:∀(i:Nat) (Fj Fe:FE) (ρ:Rho),
 sPut i Fj Fe ρ =
  Option.bind (z5t ρ i) fun o =>
   Option.bind (Fe (z1l ρ)) fun x =>
    Option.bind (Fj ρ) fun j =>
     Option.bind (intD (Prod.snd j)) fun n =>
      Option.map (fun ds=>Oc.nx (List.set ρ i (Cell.ow (Prod.fst o&&Fl.isFr (Prod.fst x)) ds)))
       (setD (Prod.snd o) n (Prod.snd x)):=by intros;rfl
@[simp] theorem x86:∀(ρ:Rho) (i:Nat),
 z5t ρ i =
  match ρ[i]? with
  | some (Cell.ow f ds)=>some (f,ds)
  | x=>none:=by intros;rfl
@[simp] theorem x87:∀(F:FE) (ρ:Rho),z5s F ρ=Option.bind (F ρ) fun x=>Option.map (z2s 0) (lstD (Prod.snd x)):=by intros;rfl
@[simp] theorem x88:∀(F:FE) (ρ:Rho),iRev F ρ=Option.bind (F ρ) fun x=>Option.map List.reverse (lstD (Prod.snd x)):=by intros;rfl
@[simp] theorem x89:∀(ds:List Dt),lstD (Dt.lst ds)=some ds:=by intros;rfl
@[simp] theorem x91:∀(F G:FE) (ρ:Rho),
 iZip F G ρ =
  Option.bind (F ρ) fun x =>
   Option.bind (G ρ) fun y =>
    Option.bind (seqD (Prod.snd x)) fun xs =>
     Option.bind (seqD (Prod.snd y)) fun ys=>if List.length xs=List.length ys then some (zipD xs ys) else none:=by intros;rfl
@[simp] theorem x92:∀(F:FE) (ρ:Rho),
 z0A F ρ =
  Option.bind (F ρ) fun x =>
   Option.bind (intD (Prod.snd x)) fun j=>if z4P j=true then some (z35 0 (Int.toNat j)) else none:=by intros;rfl
@[simp] theorem x93:∀(i:Int),intD (Dt.int i)=some i:=by intros;rfl
@[simp] theorem x95:∀(ds:List Dt) (d:Dt),wApp ds d=if List.length ds<1000000 then some (ds++[d]) else none:=by intros;rfl
@[simp] theorem x96:∀(ds:List Dt) (d:Dt),z7K ds d=if List.length ds<1000000 then some (d::ds) else none:=by intros;rfl
@[simp] theorem x97:∀(ds:List Dt) (j:Int) (d:Dt),setD ds j d=Option.map (fun k=>List.set ds k d) (ixN (List.length ds) j):=by intros;rfl
@[simp] theorem x98:∀(xs:List Dt),bLst [Dt.lst xs]=some (newL xs):=by intros;rfl
@[simp] theorem x99:∀(xs:List Dt),bLst [Dt.tup xs]=some (newL xs):=by intros;rfl
@[simp] theorem x101:∀(xs:List Dt),bTup [Dt.lst xs]=some (if z1g xs=true then Fl.nw else Fl.sh,Dt.tup xs):=by intros;rfl
@[simp] theorem x102:∀(xs:List Dt),bTup [Dt.tup xs]=some (if z1g xs=true then Fl.nw else Fl.sh,Dt.tup xs):=by intros;rfl
@[simp] theorem x104:∀(x:Dt) (x_1:Rho) (i:Nat),Tg.put (Tg.one i) x x_1=some (List.set x_1 i (Cell.sh false x)):=by intros;rfl
@[simp] theorem x105:∀(x:Rho) (is:List Nat) (ds:List Dt),
 Tg.put (Tg.many is) (Dt.tup ds) x=if List.length ds=List.length is then some (z24 x is ds) else none:=by intros;rfl
@[simp] theorem x107:∀(x:Rho) (i:Nat) (is:List Nat) (d:Dt) (ds:List Dt),
 z24 x (i::is) (d::ds)=z24 (List.set x i (Cell.sh false d)) is ds:=by intros;rfl
@[simp] theorem x108:∀(x:Rho) (x_1:List Nat) (x_2:List Dt),
 (∀(i:Nat) (is:List Nat) (d:Dt) (ds:List Dt),x_1=i::is→x_2=d::ds→False)→z24 x x_1 x_2=x:=by exact @L2.z24.eq_2
@[simp] theorem x109:z5o Cell.no=Cell.no:=by intros;rfl
@[simp] theorem x110:∀(f:Bool) (d:Dt),z5o (Cell.sh f d)=Cell.sh false d:=by intros;rfl
@[simp] theorem x111:∀(f:Bool) (ds:List Dt),z5o (Cell.ow f ds)=Cell.sh false (Dt.lst ds):=by intros;rfl
@[simp] theorem x112:∀(nt:Nat) (js:List Nat) (ρ:Rho),
 sigD nt js ρ =
  List.replicate nt Cell.no ++
   List.map
    (fun j =>
     match ρ[j]? with
     | some c=>z5o c
     | none=>Cell.no)
    js:=by intros;rfl
@[simp] theorem x113:∀(r r':FO) (Fa Fb Fc:FE) (ρ:Rho),
 z7E r r' Fa Fb Fc ρ =
  Option.bind (Fa ρ) fun x =>
   Option.bind (Fb ρ) fun y =>
    Option.bind (r (Prod.snd x) (Prod.snd y)) fun z =>
     Option.bind (blD (Prod.snd z)) fun k =>
      if k=true then Option.bind (Fc ρ) fun w=>r' (Prod.snd y) (Prod.snd w) else some (Fl.nw,Dt.bl false):=by intros;rfl
@[simp] theorem x114:∀(c:FC) (F:FE) (ρ:Rho),
 z51 c F ρ =
  Option.bind (F ρ) fun x =>
   Option.bind (lstD (Prod.snd x)) fun ds =>
    Option.bind (z26 c ds) fun ks =>
     if List.length ds<64∧List.Nodup ks then
      some (newL (List.map (fun x=>Prod.snd x) (z2m (List.zip ks ds))))
     else none:=by intros;rfl
@[simp] theorem x115:∀(i j:Int),opLt (Dt.int i) (Dt.int j)=some (Fl.nw,Dt.bl (decide (i<j))):=by intros;rfl
@[simp] theorem x116:∀(i j:Int),opLe (Dt.int i) (Dt.int j)=some (Fl.nw,Dt.bl (decide (i≤j))):=by intros;rfl
@[simp] theorem x117:∀(i j:Int),opGt (Dt.int i) (Dt.int j)=some (Fl.nw,Dt.bl (decide (j<i))):=by intros;rfl
@[simp] theorem x118:∀(i j:Int),opGe (Dt.int i) (Dt.int j)=some (Fl.nw,Dt.bl (decide (j≤i))):=by intros;rfl
@[simp] theorem x119:∀(i j:Int),z1h (Dt.int i) (Dt.int j)=some (Fl.nw,Dt.int (i-j)):=by intros;rfl
@[simp] theorem x120:∀(i j:Int),z0Q (Dt.int i) (Dt.int j)=if z1d i j=true then some (Fl.nw,Dt.int (Int.fmod i j)) else none:=by intros;rfl
@[simp] theorem x121:∀(i j:Int),z0W (Dt.int i) (Dt.int j)=if z15 i j=true then some (Fl.nw,Dt.int (i*j)) else none:=by intros;rfl
@[simp] theorem x122:∀(i j:Int),z22 (Dt.int i) (Dt.int j)=if z1F i j=true then some (Fl.nw,Dt.int (Int.fdiv i j)) else none:=by intros;rfl
@[simp] theorem x123:∀(i j:Int),z92 (Dt.int i) (Dt.int j)=if z7A i j=true then some (Fl.nw,Dt.int (i ^ Int.toNat j)) else none:=by intros;rfl
@[simp] theorem x124:∀(i j:Int),z0n (Dt.int i) (Dt.int j)=some (Fl.nw,Dt.int (i+j)):=by intros;rfl
@[simp] theorem x125:∀(f:Fl) (i:Int),nrm f (Dt.int i)=(Fl.nw,Dt.int i):=by intros;rfl
@[simp] theorem x126:∀(f:Fl) (i:Bool),nrm f (Dt.bl i)=(Fl.nw,Dt.bl i):=by intros;rfl
@[simp] theorem x127:∀(f:Fl),nrm f Dt.non=(Fl.nw,Dt.non):=by intros;rfl
@[simp] theorem x128:∀(f:Fl) (ns:List Int),nrm f (Dt.scr ns)=(f,Dt.scr ns):=by intros;rfl
@[simp] theorem x129:∀(f:Fl) (ns:List Int),nrm f (L ns)=(f,L ns):=by intros;rfl
@[simp] theorem x130:∀(f:Fl) (ns:List (List Int)),nrm f (LL ns)=(f,LL ns):=by intros;rfl
@[simp] theorem x134:∀{α β:Type} {a:α} {f:α→Option β},Option.bind (some a) f=f a:=by intros;rfl
@[simp] theorem x135:∀{α β:Type} {f:α→Option β},Option.bind none f=none:=by intros;rfl
@[simp] theorem x136:∀{α:Type} {x:α} {xs:List α},atI (x::xs) 0=some x:=by exact @L2.atI_c0
@[simp] theorem x137:∀{α:Type} {x y:α} {xs:List α},atI (x::y::xs) 1=some y:=by exact @L2.atI_c1
@[simp] theorem x138:∀{α:Type} {x y z:α} {xs:List α},atI (x::y::z::xs) 2=some z:=by exact @L2.atI_c2
@[simp] theorem y1(ns:List Int):newL (List.map Dt.int ns)=(Fl.nw,Dt.lst (List.map Dt.int ns)):=z1v ns
@[simp] theorem y2:newL []=(Fl.nw,Dt.lst []):=rfl
@[simp] theorem y3(ns:List Int):z1g (List.map Dt.int ns)=true:=z2I ns
@[simp] theorem y4(d:Dt):nrm Fl.nw d=(Fl.nw,d):=zhY d
@[simp] theorem y5(i:Int):Dt.flat (Dt.int i)=true:=rfl
@[simp] theorem y6(i:Bool):Dt.flat (Dt.bl i)=true:=rfl
@[simp] theorem y7(f:Fl)(ds:List Dt):nrm f (Dt.lst ds)=(f,Dt.lst ds):=rfl
@[simp] theorem y8:z1g []=true:=rfl
@[simp] theorem y9(d:Dt)(ds:List Dt):z1g (d::ds)=(d.flat&&z1g ds):=by rw[z1g]
@[simp] theorem y10(ds:List Dt):Dt.flat (Dt.lst ds)=false:=by rw[Dt.flat]
@[simp] theorem y11(ds:List Dt):Dt.flat (Dt.tup ds)=z1g ds:=by rw[Dt.flat]
@[simp] theorem y12(f:Fl)(ds:List Dt):nrm f (Dt.tup ds)=(if z1g ds=true then Fl.nw else f,Dt.tup ds):=rfl
@[simp] theorem xd1:tyN Dt.dic = "dict" := rfl
@[simp] theorem xd2:Dt.flat Dt.dic=true:=by unfold Dt.flat;rfl
end L2

end
section
local macro_rules|`(tactic| omega)=>`(tactic| first|lia|omega +splitDisjunctions)
set_option linter.all false
set_option maxRecDepth 100000
namespace L2
open PySem
theorem z6N{γ:Type}{g:Tg}{F:FS}(R:Nat→γ→Rho):∀(n k:Nat) (j:γ),(∀ i j,k≤i→i<k+n→∃ j',(g.put (.int (i:Int)) (R i j)).bind F=some (.nx (R (i+1) j')))→∃ j',forF g F ((List.range n).map fun(i:Nat) => .int (((k+i:Nat):Int))) (R k j)=some (.nx (R (k+n) j'))
 | 0,k,j,_=>⟨j,rfl⟩
 | n+1,k,j,h=>by
  obtain⟨j1,h1⟩:=h k j (Nat.le_refl _) (by omega)
  obtain⟨j2,h2⟩:=z6N R n (k+1) j1 fun i j hi hl=>h i j (by omega) (by omega)
  refine⟨j2,?_⟩
  rw[List.range_succ_eq_map,List.map_cons,z1P,Nat.add_zero,h1,List.map_map]
  rw[show k+(n+1)=k+1+n by omega,←h2]
  show forF g F _ (R (k+1) j1)=forF g F _ (R (k+1) j1)
  congr 1
  apply List.map_congr_left
  intro i _
  show Dt.int ((k+(i+1):Nat):Int)=_
  rw[show k+(i+1)=k+1+i by omega]
theorem zcB{γ:Type}{g:Tg}{F:FS}(R:Nat→γ→Rho)(n:Nat)(j:γ)(h:∀ i j,i<n→∃ j',(g.put (.int (i:Int)) (R i j)).bind F=some (.nx (R (i+1) j'))):∃ j',forF g F (z35 0 n) (R 0 j)=some (.nx (R n j')):=by
 obtain⟨j',e⟩:=z6N R n 0 j fun i j _ hi=>h i j (by omega)
 refine⟨j',?_⟩
 rw[Nat.zero_add]at e
 rw[←e,z27]
 congr 1
@[simp] theorem y13(n:Nat)(h:n≤1000000):z4P (n:Int)=true:=zcA h
end L2
namespace L2
open PySem
theorem zi{α:Type}(xs:List α)(n:Nat):cutD xs (some (n:Int)) none=xs.drop n:=by
 unfold cutD
 rw[HT.sIx_none,HT.sIx_nat]
 by_cases h:n≤xs.length
 · rw[Nat.min_eq_left h,List.take_of_length_le (by rw[List.length_drop];omega)]
 · rw[Nat.min_eq_right (by omega),List.drop_eq_nil_of_le (by omega),List.drop_eq_nil_of_le (by omega)];simp
@[simp] theorem y14(F:FE)(A B:FP)(ρ:Rho):fSl F A B ρ=(F ρ).bind fun x=>(A ρ).bind fun lo=>(B ρ).bind fun hi=>match x.2 with|.lst ds=>some (newL (cutD ds lo hi))|_=>none:=rfl
@[simp] theorem y15(F:FE)(ρ:Rho):zfG F ρ=(F ρ).bind fun x=>(intD x.2).map some:=rfl
@[simp] theorem y16(ρ:Rho):z7h ρ=some none:=rfl
theorem z7R(xs:List Int)(n:Nat):newL ((xs.map Dt.int).drop n)=(.nw,L (xs.drop n)):=by rw[←List.map_drop];exact z1v _
theorem z5y(a b:List Int)(h:a.length+b.length≤1000000):z0n (.lst (a.map Dt.int)) (.lst (b.map Dt.int))=some (.nw,L (a++b)):=by
 have:z0n (.lst (a.map Dt.int)) (.lst (b.map Dt.int))=z7B (.lst (a.map Dt.int)) (.lst (b.map Dt.int)):=rfl
 rw[this,z7B,if_pos (by simpa using h),←List.map_append,z1v]
end L2

end
section
local macro_rules|`(tactic| omega)=>`(tactic| first|lia|omega +splitDisjunctions)
set_option linter.all false
namespace Lat
abbrev Vec:=Nat→Int
def Span:List Vec→Vec→Prop
 | [],v=>∀ k,v k=0
 | r::rs,v=>∃ c:Int,Span rs (fun k=>v k-c*r k)
theorem Span.congr{rs:List Vec}{v w:Vec}(h:∀ k,v k=w k)(s:Span rs v):Span rs w:=by
 have:v=w:=funext h
 rw[←this];exact s
theorem Span.zero:∀{rs:List Vec},Span rs (fun _=>0)
 | []=>fun _=>rfl
 | r::rs=>⟨0,Span.congr (fun k=>by simp) (Span.zero (rs:=rs))⟩
theorem Span.add:∀{rs:List Vec} {v w:Vec},Span rs v→Span rs w→Span rs (fun k=>v k+w k)
 | [],v,w,h1,h2=>fun k=>by show v k+w k=0;rw[h1 k,h2 k];rfl
 | r::rs,v,w,⟨c,h1⟩,⟨d,h2⟩=>⟨c+d,Span.congr (fun k=>by show _=(v k+w k)-(c+d)*r k;rw[Int.add_mul];omega) (h1.add h2)⟩
theorem Span.smul:∀{rs:List Vec} {v:Vec} (a:Int),Span rs v→Span rs (fun k=>a*v k)
 | [],v,a,h=>fun k=>by show a*v k=0;rw[h k,Int.mul_zero]
 | r::rs,v,a,⟨c,h⟩=>⟨a*c,Span.congr (fun k=>by rw[Int.mul_sub,Int.mul_assoc]) (h.smul a)⟩
theorem Span.neg{rs:List Vec}{v:Vec}(h:Span rs v):Span rs (fun k =>-v k):=Span.congr (fun k=>by omega) (h.smul (-1))
theorem Span.sub{rs:List Vec}{v w:Vec}(h1:Span rs v)(h2:Span rs w):Span rs (fun k=>v k-w k):=Span.congr (fun k=>by omega) (h1.add h2.neg)
theorem Span.head{r:Vec}{rs:List Vec}:Span (r::rs) r:=⟨1,Span.congr (fun k=>by omega) Span.zero⟩
theorem Span.cons{r:Vec}{rs:List Vec}{v:Vec}(h:Span rs v):Span (r::rs) v:=⟨0,Span.congr (fun k=>by omega) h⟩
theorem Span.mem:∀{rs:List Vec} {r:Vec},r∈rs→Span rs r
 | _::_,_,.head _=>Span.head
 | _::_,_,.tail _ h=>(Span.mem h).cons
theorem Span.least{P:Vec→Prop}(z:P (fun _=>0))(a:∀ v w,P v→P w→P (fun k=>v k+w k))(m:∀(c:Int) v,P v→P (fun k=>c*v k)):
  ∀{rs:List Vec} {v:Vec},(∀ r∈rs,P r)→Span rs v→P v
 | [],v,_,h=>by have:v=fun _=>0:=funext h;rw[this];exact z
 | r::rs,v,hr,⟨c,h⟩=>by
  have h1:=Span.least z a m (fun x hx=>hr x (List.mem_cons_of_mem _ hx)) h
  have h2:=a _ _ h1 (m c r (hr r List.mem_cons_self))
  have:v=fun k=>(v k-c*r k)+c*r k:=funext fun k=>by omega
  rw[this];exact h2
theorem Span.trans{rs ss:List Vec}{v:Vec}(h:∀ r∈rs,Span ss r)(s:Span rs v):Span ss v :=
 Span.least (P:=Span ss) Span.zero (fun _ _=>Span.add) (fun c _=>Span.smul c) h s
def SameSpan(rs ss:List Vec):Prop:=(∀ r∈rs,Span ss r)∧∀ s∈ss,Span rs s
theorem SameSpan.iff{rs ss:List Vec}(h:SameSpan rs ss){v:Vec}:Span rs v↔Span ss v:=⟨Span.trans h.1,Span.trans h.2⟩
theorem SameSpan.refl{rs:List Vec}:SameSpan rs rs:=⟨fun _=>Span.mem,fun _=>Span.mem⟩
theorem SameSpan.symm{rs ss:List Vec}(h:SameSpan rs ss):SameSpan ss rs:=⟨h.2,h.1⟩
theorem SameSpan.trans{rs ss ts:List Vec}(h:SameSpan rs ss)(g:SameSpan ss ts):SameSpan rs ts:=⟨fun r hr=>(h.1 r hr).trans g.1,fun t ht=>(g.2 t ht).trans h.2⟩
def Form:Nat→List (Nat×Vec)→Prop
 | _,[]=>True
 | f,(h,r)::rs=>f≤h∧(∀ k,k<h→r k=0)∧0<r h∧(∀ p∈rs,0≤r p.1∧r p.1<p.2 p.1)∧Form (h+1) rs
abbrev z0R(S:List (Nat×Vec)):List Vec:=S.map (·.2)
theorem Form.low:∀{f:Nat} {S:List (Nat×Vec)} {v:Vec},Form f S→Span (z0R S) v→∀ k,k<f→v k=0
 | _,[],v,_,s,k,_=>s k
 | f,(h,r)::S,v,⟨h1,h2,h3,h4,h5⟩,⟨c,s⟩,k,hk=>by
  have:=Form.low h5 s k (by omega)
  have e:r k=0:=h2 k (by omega)
  have this:v k-c*r k=0:=this
  rw[e]at this
  simpa using this
theorem Form.coef{f h:Nat}{r v:Vec}{S:List (Nat×Vec)}{c:Int}(F:Form f ((h,r)::S))(s:Span (z0R S) (fun k=>v k-c*r k)):v h=c*r h:=by
 have:v h-c*r h=0:=F.2.2.2.2.low s h (by omega)
 omega
theorem z4R{c r v:Int}(e:v=c*r)(hr:0<r)(h1 : -r<v)(h2:v<r):c=0:=by
 rcases Int.lt_trichotomy c 0 with h|h|h
 · exfalso
   have:c*r ≤ -1*r:=Int.mul_le_mul_of_nonneg_right (by omega) (by omega)
   omega
 · exact h
 · exfalso
   have:1*r≤c*r:=Int.mul_le_mul_of_nonneg_right (by omega) (by omega)
   omega
theorem Form.small:∀{f:Nat} {S:List (Nat×Vec)} {v:Vec},Form f S→Span (z0R S) v→(∀ p∈S,-(p.2 p.1)<v p.1∧v p.1<p.2 p.1)→∀ k,v k=0
 | _,[],v,_,s,_=>s
 | f,(h,r)::S,v,F,⟨c,s⟩,hs=>by
  have e:=F.coef s
  have hp:=hs (h,r) List.mem_cons_self
  have c0:c=0:=z4R e F.2.2.1 hp.1 hp.2
  subst c0
  refine F.2.2.2.2.small (Span.congr (fun k=>by omega) s) (fun p hp=>hs p (List.mem_cons_of_mem _ hp))
theorem Form.tail{f h:Nat}{r v:Vec}{S:List (Nat×Vec)}(F:Form f ((h,r)::S))(s:Span (z0R ((h,r)::S)) v)(z:v h=0):Span (z0R S) v:=by
 obtain⟨c,s⟩:=s
 have e:=F.coef s
 have hr:=F.2.2.1
 rw[z]at e
 have c0:c=0:=by
  rcases Int.mul_eq_zero.mp e.symm with h|h
  · exact h
  · omega
 subst c0
 exact Span.congr (fun k=>by omega) s
theorem Form.head_le{f g h h':Nat}{r r':Vec}{S S':List (Nat×Vec)}(F:Form f ((h,r)::S))(G:Form g ((h',r')::S'))(s:Span (z0R ((h',r')::S')) r):h'≤h:=by
 apply Nat.le_of_not_lt
 intro hlt
 have G':Form h' ((h',r')::S'):=⟨Nat.le_refl _,G.2⟩
 have:=G'.low s h hlt
 have:=F.2.2.1
 omega
theorem Form.unique:∀{S T:List (Nat×Vec)} {f g:Nat},Form f S→Form g T→SameSpan (z0R S) (z0R T)→S=T
 | [],[],_,_,_,_,_=>rfl
 | [],(h,r)::T,_,_,_,G,s=>by
  have:=s.2 r List.mem_cons_self h
  have:=G.2.2.1
  omega
 | (h,r)::S,[],_,_,F,_,s=>by
  have:=s.1 r List.mem_cons_self h
  have:=F.2.2.1
  omega
 | (h,r)::S,(h',r')::T,f,g,F,G,s=>by
  have s1:Span (z0R ((h',r')::T)) r:=s.1 r List.mem_cons_self
  have s2:Span (z0R ((h,r)::S)) r':=s.2 r' List.mem_cons_self
  have eh:h=h':=Nat.le_antisymm (G.head_le F s2) (F.head_le G s1)
  subst eh
  have evh:r h=r' h:=by
   obtain⟨c,q⟩:=s1
   obtain⟨d,q'⟩:=s2
   have e1:=G.coef q
   have e2:=F.coef q'
   have p1:=F.2.2.1
   have p2:=G.2.2.1
   have c1:1≤c:=by
     apply Int.not_lt.mp;intro hc
     have:c*r' h≤0:=Int.mul_nonpos_of_nonpos_of_nonneg (by omega) (by omega)
     omega
   have d1:1≤d:=by
     apply Int.not_lt.mp;intro hd
     have:d*r h≤0:=Int.mul_nonpos_of_nonpos_of_nonneg (by omega) (by omega)
     omega
   have a1:1*r' h≤c*r' h:=Int.mul_le_mul_of_nonneg_right c1 (by omega)
   have a2:1*r h≤d*r h:=Int.mul_le_mul_of_nonneg_right d1 (by omega)
   omega
  have tails:SameSpan (z0R S) (z0R T):=by
   constructor
   · intro x hx
     have hs:Span (z0R S) x:=Span.mem hx
     have z:=F.2.2.2.2.low hs h (by omega)
     exact G.tail (s.iff.mp hs.cons) z
   · intro x hx
     have hs:Span (z0R T) x:=Span.mem hx
     have z:=G.2.2.2.2.low hs h (by omega)
     exact F.tail (s.iff.mpr hs.cons) z
  have eST:=Form.unique F.2.2.2.2 G.2.2.2.2 tails
  subst eST
  have d0:Span (z0R S) (fun k=>r k-r' k):=F.tail (Span.sub Span.head s2) (by omega)
  have er:r=r':=funext fun k=>by
   have:=F.2.2.2.2.small d0 (fun p hp=>by
     have q1:=F.2.2.2.1 p hp
     have q2:=G.2.2.2.1 p hp
     omega) k
   omega
  rw[er]
theorem Form.free{f:Nat}{S:List (Nat×Vec)}(F:Form f S){v:Vec}:∀{c d:Int} {h:Nat} {r:Vec} {T:List (Nat×Vec)},S=(h,r)::T→Span (z0R T) (fun k=>v k-c*r k)→Span (z0R T) (fun k=>v k-d*r k)→c=d:=by
 rintro c d h r T rfl s1 s2
 have e1:=F.coef s1
 have e2:=F.coef s2
 have p:=F.2.2.1
 have:(c-d)*r h=0:=by rw[Int.sub_mul];omega
 rcases Int.mul_eq_zero.mp this with h|h<;>omega
end Lat

end
section
set_option linter.all false
namespace Lat
theorem z36{α β:Type}[DecidableEq β]:∀{l:List α} {m:List β} (f:α→β),l.Nodup→(∀ x∈l,∀ y∈l,f x=f y→x=y)→(∀ x∈l,f x∈m)→l.length≤m.length
 | [],m,f,_,_,_=>Nat.zero_le _
 | x::l,m,f,hn,hi,hm=>by
  have hx:=hm x List.mem_cons_self
  have hn':=List.nodup_cons.mp hn
  have h1:l.length≤(m.erase (f x)).length:=by
   refine z36 f hn'.2 (fun a ha b hb=>hi a (List.mem_cons_of_mem _ ha) b (List.mem_cons_of_mem _ hb)) (fun a ha=>?_)
   have hne:f a≠f x:=fun e=>by
    have:=hi a (List.mem_cons_of_mem _ ha) x List.mem_cons_self e
    subst this
    exact hn'.1 ha
   exact(List.mem_erase_of_ne hne).mpr (hm a (List.mem_cons_of_mem _ ha))
  have h2:(m.erase (f x)).length=m.length-1:=List.length_erase_of_mem hx
  have h3:0<m.length:=List.length_pos_of_mem hx
  simp only[List.length_cons]
  omega
def box:List Nat→List (List Int)
 | []=>[[]]
 | n::ns=>(List.range n).flatMap fun(i:Nat)=>(box ns).map fun t=>(i:Int)::t
def prod:List Nat→Nat
 | []=>1
 | n::ns=>n*prod ns
theorem zbb{α:Type}(g:Nat→List α)(k:Nat):∀(l:List Nat),(∀ i∈l,(g i).length=k)→(l.flatMap g).length=l.length*k
 | [],_=>by simp
 | i::l,h=>by
  rw[List.flatMap_cons,List.length_append,zbb g k l (fun j hj=>h j (List.mem_cons_of_mem _ hj)),h i List.mem_cons_self,List.length_cons,Nat.succ_mul,Nat.add_comm]
theorem z52:∀ ns:List Nat,(box ns).length=prod ns
 | []=>rfl
 | n::ns=>by
  show((List.range n).flatMap fun(i:Nat)=>(box ns).map fun t=>(i:Int)::t).length=n*prod ns
  rw[zbb _ (prod ns) _ (fun i _=>by rw[List.length_map,z52 ns]),List.length_range]
def z1Z:List Nat→List Int→Prop
 | [],[]=>True
 | n::ns,x::xs=>0≤x∧x<n∧z1Z ns xs
 | _,_=>False
theorem z4B:∀{ns:List Nat} {t:List Int},t∈box ns↔z1Z ns t
 | [],[]=>by simp[box,z1Z]
 | [],x::t=>by simp[box,z1Z]
 | n::ns,[]=>by simp[box,z1Z]
 | n::ns,x::t=>by
  simp only[box,z1Z,List.mem_flatMap,List.mem_range,List.mem_map,List.cons.injEq]
  constructor
  · rintro⟨i,hi,u,hu,rfl,rfl⟩
    exact⟨by omega,by omega,z4B.mp hu⟩
  · rintro⟨h0,h1,h2⟩
    exact⟨x.toNat,by omega,t,z4B.mpr h2,by omega,rfl⟩
theorem z9d:∀ ns:List Nat,(box ns).Nodup
 | []=>by simp[box]
 | n::ns=>by
  have ih:=z9d ns
  have key:∀ m,((List.range m).flatMap fun(i:Nat)=>(box ns).map fun t=>(i:Int)::t).Nodup:=by
   intro m
   induction m with
   | zero=>simp
   | succ m hm =>
    rw[List.range_succ,List.flatMap_append,List.nodup_append]
    refine⟨hm,?_,?_⟩
    · rw[List.flatMap_cons,List.flatMap_nil,List.append_nil]
      refine List.Pairwise.map _ (fun a b hab e=>hab ?_) ih
      exact(List.cons.inj e).2
    · intro a ha b hb e
      subst e
      simp only[List.mem_flatMap,List.mem_range,List.mem_map,List.mem_singleton]at ha hb
      obtain⟨i,hi,u,hu,rfl⟩:=ha
      obtain⟨j,hj,w,hw,e⟩:=hb
      have:=(List.cons.inj e).1
      omega
  exact key n
theorem zlh{ns ms:List Nat}(f:List Int→List Int)(hi:∀ s t,z1Z ns s→z1Z ns t→f s=f t→s=t)(hm:∀ s,z1Z ns s→z1Z ms (f s)):prod ns≤prod ms:=by
 rw[←z52 ns,←z52 ms]
 exact z36 f (z9d ns) (fun x hx y hy=>hi x y (z4B.mp hx) (z4B.mp hy)) (fun x hx=>z4B.mpr (hm x (z4B.mp hx)))
end Lat

end
section
local macro_rules|`(tactic| omega)=>`(tactic| first|lia|omega +splitDisjunctions)
set_option linter.all false
namespace Br
structure BI(a b u0 u1 u2 l0 l1 l2:Int):Prop where
 up:a*u1+b*u2=u0
 lo:a*l1+b*l2=l0
 gcd:Int.gcd u0 l0=Int.gcd a b
 p1:u0.natAbs*l1.natAbs+l0.natAbs*u1.natAbs≤a.natAbs+2*b.natAbs
 p2:u0.natAbs*l2.natAbs+l0.natAbs*u2.natAbs≤a.natAbs+2*b.natAbs
 ph:(u0=a∧u1=1∧u2=0∧l0=b∧l1=0∧l2=1)∨(0≤u0*l0∧u0≠0)
 b1:u1.natAbs≤a.natAbs+2*b.natAbs+1
 b2:u2.natAbs≤a.natAbs+2*b.natAbs+1
 b3:l1.natAbs≤a.natAbs+2*b.natAbs+1
 b4:l2.natAbs≤a.natAbs+2*b.natAbs+1
 c1:u0.natAbs≤a.natAbs+b.natAbs
 c2:l0.natAbs≤b.natAbs
theorem BI.start(a b:Int):BI a b a 1 0 b 0 1 where
 up:=by simp
 lo:=by simp
 gcd:=rfl
 p1:=by simp;omega
 p2:=by simp
 ph := .inl ⟨rfl,rfl,rfl,rfl,rfl,rfl⟩
 b1:=by simp
 b2:=by simp
 b3:=by simp
 b4:=by simp
 c1:=by omega
 c2:=by omega
theorem pot(L A R Qa u1 l1 f1 E:Nat)(hA:Qa*L+R≤A+E)(hf:f1≤u1+Qa*l1):L*f1+R*l1≤A*l1+L*u1+E*l1:=by
 have h1:L*f1≤L*(u1+Qa*l1):=Nat.mul_le_mul_left L hf
 have h2:L*(u1+Qa*l1)=L*u1+Qa*L*l1:=by
  rw[Nat.mul_add,←Nat.mul_assoc,Nat.mul_comm L Qa]
 have h3:(Qa*L+R)*l1≤(A+E)*l1:=Nat.mul_le_mul_right l1 hA
 rw[Nat.add_mul,Nat.add_mul]at h3
 omega
theorem zbc(u l:Int)(h:0<l):(u-u.fdiv l*l).natAbs<l.natAbs∧0≤l*(u-u.fdiv l*l)∧(0≤u*l→(u.fdiv l).natAbs*l.natAbs+(u-u.fdiv l*l).natAbs=u.natAbs) ∧
  (u.fdiv l).natAbs*l.natAbs≤u.natAbs+(u-u.fdiv l*l).natAbs:=by
 have hs:u.fdiv l*l=u-u.fmod l:=Int.fdiv_mul_self u l
 have hq:(u.fdiv l).natAbs*l.natAbs=(u.fdiv l*l).natAbs:=(Int.natAbs_mul _ _).symm
 have e:u-u.fdiv l*l=u.fmod l:=by omega
 rw[e,hq,hs]
 have h1:0≤u.fmod l:=Int.fmod_nonneg_of_pos u h
 have h2:u.fmod l<l:=Int.fmod_lt_of_pos u h
 refine⟨by omega,Int.mul_nonneg (by omega) h1,fun hu=>?_,by omega⟩
 have hu0:0≤u:=by
  by_cases hu':0≤u
  · exact hu'
  · have:=Int.mul_neg_of_neg_of_pos (show u<0 by omega) h
    omega
 have:u.fmod l≤u:=by
  have q1:0≤u.fdiv l:=Int.fdiv_nonneg hu0 (by omega)
  have q2:0≤u.fdiv l*l:=Int.mul_nonneg q1 (by omega)
  omega
 omega
theorem zfN(u l:Int)(hl:l≠0):(u-u.fdiv l*l).natAbs<l.natAbs∧0≤l*(u-u.fdiv l*l)∧(0≤u*l→(u.fdiv l).natAbs*l.natAbs+(u-u.fdiv l*l).natAbs=u.natAbs) ∧
   (u.fdiv l).natAbs*l.natAbs≤u.natAbs+(u-u.fdiv l*l).natAbs:=by
 rcases Int.lt_or_gt_of_ne hl with h|h
 · have q:=zbc (-u) (-l) (by omega)
   rw[Int.neg_fdiv_neg]at q
   have e : -u-u.fdiv l * -l = -(u-u.fdiv l*l):=by rw[Int.mul_neg];omega
   rw[e,Int.natAbs_neg,Int.natAbs_neg,Int.natAbs_neg,Int.neg_mul_neg,Int.neg_mul_neg]at q
   exact q
 · exact zbc u l h
theorem z7S{a b c:Nat}(h:a*b≤c)(ha:a≠0):b≤c:=Nat.le_trans (Nat.le_mul_of_pos_left b (Nat.pos_of_ne_zero ha)) h
theorem zfO(u q l:Int):(u-q*l).natAbs≤u.natAbs+q.natAbs*l.natAbs:=by
 have:=Int.natAbs_mul q l
 omega
theorem BI.turn{a b u0 u1 u2 l0 l1 l2:Int}(h:BI a b u0 u1 u2 l0 l1 l2)(hl:l0≠0):
   BI a b l0 l1 l2 (u0-u0.fdiv l0*l0) (u1-u0.fdiv l0*l1) (u2-u0.fdiv l0*l2):=by
 obtain⟨r1,r2,r3,r4⟩:=zfN u0 l0 hl
 have hL:l0.natAbs≠0:=fun e=>hl (Int.natAbs_eq_zero.mp e)
 have hup:=h.up
 have hlo:=h.lo
 generalize eq:u0.fdiv l0=q at *
 have lin:∀(x y:Int),a*(x-q*l1)+b*(y-q*l2)=(a*x+b*y)-q*(a*l1+b*l2):=fun x y=>by
   rw[Int.mul_sub,Int.mul_sub,Int.mul_add,Int.mul_left_comm a q l1,Int.mul_left_comm b q l2];omega
 have f1:(u1-q*l1).natAbs≤u1.natAbs+q.natAbs*l1.natAbs:=zfO u1 q l1
 have f2:(u2-q*l2).natAbs≤u2.natAbs+q.natAbs*l2.natAbs:=zfO u2 q l2
 have key:∀(x y f:Nat),f≤x+q.natAbs*y→u0.natAbs*y+l0.natAbs*x≤a.natAbs+2*b.natAbs→((0≤u0*l0)∨(y=0)∨(y=1∧x=0∧u0=a∧l0=b)) →
     l0.natAbs*f+(u0-q*l0).natAbs*y≤a.natAbs+2*b.natAbs:=fun x y f hf hp hc=>by
   rcases hc with hc|hc|⟨hc,hx,ha,hb⟩
   · have:=pot l0.natAbs u0.natAbs (u0-q*l0).natAbs q.natAbs x y f 0 (by have:=r3 hc;omega) hf
     omega
   · subst hc
     have:l0.natAbs*f≤l0.natAbs*x:=Nat.mul_le_mul_left _ (by omega)
     omega
   · subst hc;subst hx
     have:=pot l0.natAbs u0.natAbs (u0-q*l0).natAbs q.natAbs 0 1 f (2*(u0-q*l0).natAbs) (by omega) hf
     have hab:u0.natAbs=a.natAbs:=by rw[ha]
     have hbb:l0.natAbs=b.natAbs:=by rw[hb]
     generalize (u0-q*l0).natAbs=R at *
     generalize l0.natAbs*f=Z at *
     omega
 have ph1:0≤u0*l0∨l1.natAbs=0∨(l1.natAbs=1∧u1.natAbs=0∧u0=a∧l0=b):=by
   rcases h.ph with⟨_,_,_,_,e,_⟩|⟨e,_⟩
   · exact .inr (.inl (by rw[e];rfl))
   · exact .inl e
 have ph2:0≤u0*l0∨l2.natAbs=0∨(l2.natAbs=1∧u2.natAbs=0∧u0=a∧l0=b):=by
   rcases h.ph with⟨e1,_,e2,e3,_,e4⟩|⟨e,_⟩
   · exact .inr (.inr ⟨by rw[e4];rfl,by rw[e2];rfl,e1,e3⟩)
   · exact .inl e
 have k1:=key _ _ _ f1 h.p1 ph1
 have k2:=key _ _ _ f2 h.p2 ph2
 have c2:=h.c2
 refine⟨hlo,?_,?_,k1' k1,k1' k2,.inr ⟨r2,hl⟩,h.b3,h.b4,?_,?_,by omega,by omega⟩
 · rw[lin,hup,hlo]
 · rw[Int.gcd_sub_mul_right_right,Int.gcd_comm,h.gcd]
 · exact Nat.le_succ_of_le (z7S (Nat.le_trans (Nat.le_add_right _ _) k1) hL)
 · exact Nat.le_succ_of_le (z7S (Nat.le_trans (Nat.le_add_right _ _) k2) hL)
where k1' {x y:Nat} (h:x≤y):x≤y:=h
theorem BI.fin{a b u0 u1 u2 l1 l2:Int}(h:BI a b u0 u1 u2 0 l1 l2):(u0.natAbs:Int)=Int.gcd a b:=by
 have:=h.gcd
 rw[Int.gcd_zero_right]at this
 rw[this]
end Br

end
section
set_option linter.all false
set_option maxRecDepth 100000
namespace St
abbrev Row:=List Int
def at0(r:Row)(k:Nat):Int:=r.getD k 0
def z00:Row→Nat
 | []=>0
 | x::r=>if x=0 then z00 r+1 else 0
theorem z4C:∀ r:Row,z00 r≤r.length
 | []=>Nat.le_refl _
 | x::r=>by
  unfold z00
  split
  · exact Nat.succ_le_succ (z4C r)
  · exact Nat.zero_le _
theorem z0m:∀(r:Row) (k:Nat),k<z00 r→at0 r k=0
 | [],k,h=>by simp[z00]at h
 | x::r,k,h=>by
  unfold z00 at h
  split at h
  · rename_i hx
    cases k with
    | zero=>simp[at0,hx]
    | succ k=>exact z0m r k (by omega)
  · omega
theorem z3h:∀(r:Row),z00 r<r.length→at0 r (z00 r)≠0
 | [],h=>by simp[z00]at h
 | x::r,h=>by
  unfold z00 at h ⊢
  split at h
  · rename_i hx
    rw[if_pos hx]
    exact z3h r (by simpa using h)
  · rename_i hx
    rw[if_neg hx]
    exact hx
theorem z1w:∀(r:Row) (h:Nat),(∀ k,k<h→at0 r k=0)→at0 r h≠0→z00 r=h
 | [],h,_,q=>by simp[at0]at q
 | x::r,0,_,q=>by
  unfold z00
  rw[if_neg (by simpa[at0]using q)]
 | x::r,h+1,z,q=>by
  have hx:x=0:=by simpa[at0]using z 0 (by omega)
  unfold z00
  rw[if_pos hx,z1w r h (fun k hk=>by simpa[at0]using z (k+1) (by omega)) (by simpa[at0]using q)]
theorem zgO(r:Row)(h:Nat)(z:∀ k,k<h→at0 r k=0)(hl:h≤r.length):h≤z00 r:=by
 apply Nat.le_of_not_lt
 intro hlt
 exact z3h r (by omega) (z _ hlt)
theorem z0I{r:Row}{k:Nat}(h:r.length≤k):at0 r k=0:=by simp[at0,List.getD,List.getElem?_eq_none h]
theorem ext0{a b:Row}(h:a.length=b.length)(q:∀ k,at0 a k=at0 b k):a=b:=by
 apply List.ext_getElem h
 intro i h1 h2
 have:=q i
 simpa[at0,List.getD,List.getElem?_eq_getElem h1,List.getElem?_eq_getElem h2]using this
def sub(a:Row)(q:Int)(b:Row):Row:=List.zipWith (fun x y=>x-q*y) a b
theorem z2j{a b:Row}{q:Int}(h:a.length=b.length):(sub a q b).length=a.length:=by unfold sub;rw[List.length_zipWith];omega
theorem z3y{a b:Row}{q:Int}(h:a.length=b.length)(k:Nat):at0 (sub a q b) k=at0 a k-q*at0 b k:=by
 by_cases hk:k<a.length
 · unfold at0 sub
   simp[List.getD,List.getElem?_zipWith,List.getElem?_eq_getElem hk,List.getElem?_eq_getElem (show k<b.length by omega)]
 · rw[z0I (by rw[z2j h];omega),z0I (by omega),z0I (show b.length≤k by omega)];simp
def lin(x:Int)(a:Row)(y:Int)(b:Row):Row:=List.zipWith (fun p q=>x*p+y*q) a b
theorem z7i{a b:Row}{x y:Int}(h:a.length=b.length):(lin x a y b).length=a.length:=by unfold lin;rw[List.length_zipWith];omega
theorem z7j{a b:Row}{x y:Int}(h:a.length=b.length)(k:Nat):at0 (lin x a y b) k=x*at0 a k+y*at0 b k:=by
 by_cases hk:k<a.length
 · unfold at0 lin
   simp[List.getD,List.getElem?_zipWith,List.getElem?_eq_getElem hk,List.getElem?_eq_getElem (show k<b.length by omega)]
 · rw[z0I (by rw[z7i h];omega),z0I (by omega),z0I (show b.length≤k by omega)];simp
def hd(r:Row):Int:=at0 r (z00 r)
def z0B(left rung:Row):Int:=(at0 left (z00 rung)).fdiv (hd rung)
def z0c:Row→List Row→Row
 | left,[]=>left
 | left,r::rs=>z0c (sub left (z0B left r) r) rs
def z7T:Row→List Row→List Int
 | _,[]=>[]
 | left,r::rs=>z0B left r::z7T (sub left (z0B left r) r) rs
def Asc(n:Nat):Nat→List Row→Prop
 | _,[]=>True
 | f,r::rs=>r.length=n∧f≤z00 r∧z00 r<n∧0<hd r∧Asc n (z00 r+1) rs
theorem Asc.weak{n:Nat}:∀{f g:Nat} {S:List Row},Asc n f S→g≤f→Asc n g S
 | _,_,[],_,_=>trivial
 | _,_,r::rs,⟨h1,h2,h3,h4,h5⟩,h=>⟨h1,Nat.le_trans h h2,h3,h4,h5⟩
theorem Asc.mem{n:Nat}:∀{f:Nat} {S:List Row} {r:Row},Asc n f S→r∈S→r.length=n∧f≤z00 r∧z00 r<n∧0<hd r
 | _,_::_,_,⟨h1,h2,h3,h4,h5⟩,.head _=>⟨h1,h2,h3,h4⟩
 | _,_::_,_,⟨h1,h2,h3,h4,h5⟩,.tail _ q=>by obtain⟨a,b,c,d⟩:=h5.mem q;exact⟨a,by omega,c,d⟩
theorem z2J{n:Nat}:∀{f:Nat} {S:List Row} {left:Row},Asc n f S→left.length=n→(z0c left S).length=n
 | _,[],left,_,h=>h
 | _,r::rs,left,⟨h1,h2,h3,h4,h5⟩,h=>by rw[z0c];exact z2J h5 (by rw[z2j (by omega)];exact h)
theorem z3z{n:Nat}:∀{f:Nat} {S:List Row} {left:Row},Asc n f S→left.length=n→∀ k,k<f→at0 (z0c left S) k=at0 left k
 | _,[],left,_,h,k,_=>rfl
 | f,r::rs,left,⟨h1,h2,h3,h4,h5⟩,h,k,hk=>by
  rw[z0c,z3z h5 (by rw[z2j (by omega)];exact h) k (by omega),z3y (by omega),z0m r k (by omega)]
  simp
theorem z9e(a:Int){b:Int}(h:0<b):0≤a-a.fdiv b*b∧a-a.fdiv b*b<b:=by
 have h1:=Int.fmod_nonneg_of_pos a h
 have h2:=Int.fmod_lt_of_pos a h
 have h3:=Int.mul_fdiv_add_fmod a b
 rw[Int.mul_comm]at h3
 omega
theorem z1Q{n:Nat}:∀{f:Nat} {S:List Row} {left:Row},Asc n f S→left.length=n→∀ r∈S,0≤at0 (z0c left S) (z00 r)∧at0 (z0c left S) (z00 r)<hd r
 | f,r::rs,left,⟨h1,h2,h3,h4,h5⟩,h,x,hx=>by
  have hl:(sub left (z0B left r) r).length=n:=by rw[z2j (by omega)];exact h
  rw[z0c]
  cases hx with
  | head =>
   rw[z3z h5 hl _ (Nat.lt_succ_self _),z3y (by omega)]
   exact z9e _ h4
  | tail _ hx=>exact z1Q h5 hl x hx
def Lt(m:Nat)(r:Row):Prop:=∀ k,(at0 r k).natAbs<m
theorem Lt.mono{m m':Nat}{r:Row}(h:Lt m r)(q:m≤m'):Lt m' r:=fun k=>Nat.lt_of_lt_of_le (h k) q
theorem z5z(a:Int){b:Int}(h:0<b):(a.fdiv b).natAbs≤a.natAbs:=by
 have h1:=z9e a h
 generalize a.fdiv b=q at *
 rcases Int.lt_trichotomy q 0 with hq|hq|hq
 · have e:(q+1)*b=q*b+b:=by rw[Int.add_mul];omega
   have:(q+1)*b≤(q+1)*1:=Int.mul_le_mul_of_nonpos_left (by omega) (by omega)
   omega
 · subst hq;simp
 · have:q*1≤q*b:=Int.mul_le_mul_of_nonneg_left (by omega) (by omega)
   omega
theorem sub_lt{a b:Row}{q:Int}{s t u:Nat}(hl:a.length=b.length)(ha:Lt s a)(hb:Lt t b)(hq:q.natAbs≤u)(hs:0<s)(ht:0<t):Lt (s+u*t) (sub a q b):=fun k=>by
 rw[z3y hl]
 have h1:=ha k
 have h2:=hb k
 have h3:(q*at0 b k).natAbs≤u*(t-1):=by rw[Int.natAbs_mul];exact Nat.mul_le_mul hq (by omega)
 have h4:u*(t-1)≤u*t:=Nat.mul_le_mul_left _ (by omega)
 omega
theorem zi0{left r:Row}{s t:Nat}(hl:left.length=r.length)(hr:0<hd r)(ha:Lt s left)(hb:Lt t r):Lt (s*(t+1)) (sub left (z0B left r) r):=by
 have hs:0<s:=Nat.lt_of_le_of_lt (Nat.zero_le _) (ha 0)
 have ht:0<t:=Nat.lt_of_le_of_lt (Nat.zero_le _) (hb 0)
 have:=sub_lt (q:=z0B left r) (u:=s) hl ha hb (Nat.le_trans (z5z (at0 left (z00 r)) hr) (Nat.le_of_lt (ha (z00 r)))) hs ht
 rw[Nat.mul_add,Nat.mul_one,Nat.add_comm]
 exact this
end St

end
section
local macro_rules|`(tactic| omega)=>`(tactic| first|lia|omega +splitDisjunctions)
set_option linter.all false
set_option maxRecDepth 100000
namespace St
open Lat
abbrev vec(r:Row):Vec:=fun k=>at0 r k
abbrev vecs(S:List Row):List Vec:=S.map vec
theorem z5A{S:List Row}{r:Row}(h:r∈S):vec r∈vecs S:=List.mem_map.mpr ⟨r,h,rfl⟩
theorem z1m{n:Nat}:∀{f:Nat} {S:List Row} {left:Row},Asc n f S→left.length=n→Span (vecs S) (fun k=>at0 left k-at0 (z0c left S) k)
 | _,[],left,_,h=>fun k=>by show at0 left k-at0 left k=0;omega
 | f,r::rs,left,⟨h1,h2,h3,h4,h5⟩,h=>by
  have hl:(sub left (z0B left r) r).length=n:=by rw[z2j (by omega)];exact h
  have ih:=z1m h5 hl
  refine⟨z0B left r,Span.congr (fun k=>?_) ih⟩
  rw[z0c]
  show at0 (sub left (z0B left r) r) k-at0 (z0c (sub left (z0B left r) r) rs) k=at0 left k-at0 (z0c (sub left (z0B left r) r) rs) k-z0B left r*at0 r k
  rw[z3y (by omega)]
  omega
def mix:List Row→List Int→Vec
 | r::rs,c::cs=>fun k=>c*at0 r k+mix rs cs k
 | _,_=>fun _=>0
theorem Asc.low{n:Nat}:∀{f:Nat} {S:List Row} {v:Vec},Asc n f S→Span (vecs S) v→∀ k,k<f→v k=0
 | _,[],v,_,s,k,_=>s k
 | f,r::S,v,⟨h1,h2,h3,h4,h5⟩,⟨c,s⟩,k,hk=>by
  have e:=Asc.low h5 s k (by omega)
  have e2:at0 r k=0:=z0m r k (by omega)
  have e:v k-c*at0 r k=0:=e
  rw[e2]at e
  simpa using e
theorem Asc.coef{n f:Nat}{r:Row}{v:Vec}{S:List Row}{c:Int}(A:Asc n f (r::S))(s:Span (vecs S) (fun k=>v k-c*at0 r k)):v (z00 r)=c*hd r:=by
 have:v (z00 r)-c*at0 r (z00 r)=0:=A.2.2.2.2.low s _ (Nat.lt_succ_self _)
 unfold hd
 omega
theorem Asc.first{n:Nat}:∀{f:Nat} {S:List Row} {v:Vec} {h:Nat},Asc n f S→Span (vecs S) v→(∀ k,k<h→v k=0)→v h≠0→∃ r∈S,z00 r=h
 | _,[],v,h,_,s,_,q=>absurd (s h) q
 | f,r::S,v,h,A,⟨c,s⟩,z,q=>by
  have e:=A.coef s
  by_cases hc:c=0
  · subst hc
    have s':Span (vecs S) v:=Span.congr (fun k=>by simp) s
    obtain⟨x,hx,e⟩:=A.2.2.2.2.first s' z q
    exact⟨x,List.mem_cons_of_mem _ hx,e⟩
  · have hn:v (z00 r)≠0:=by
      rw[e]
      intro z
      rcases Int.mul_eq_zero.mp z with z|z
      · exact hc z
      · have:=A.2.2.2.1;omega
    have h1:¬z00 r<h:=fun z'=>hn (z _ z')
    by_cases h2:h<z00 r
    · exfalso
      have e2:v h-c*at0 r h=0:=A.2.2.2.2.low s h (by omega)
      rw[z0m r h h2]at e2
      exact q (by simpa using e2)
    · exact⟨r,List.mem_cons_self,by omega⟩
def even:List Row→List Row
 | []=>[]
 | r::rs=>z0c r (even rs)::even rs
theorem z2z{n:Nat}:∀{f:Nat} {S:List Row},Asc n f S→Asc n f (even S)∧(even S).map z00=S.map z00∧(even S).map hd=S.map hd
 | _,[],_=>⟨trivial,rfl,rfl⟩
 | f,r::rs,⟨h1,h2,h3,h4,h5⟩=>by
  obtain⟨i1,i2,i3⟩:=z2z h5
  have low:=z3z i1 h1
  have e1:at0 (z0c r (even rs)) (z00 r)=hd r:=low _ (Nat.lt_succ_self _)
  have e2:z00 (z0c r (even rs))=z00 r:=z1w _ _ (fun k hk=>by rw[low k (by omega)];exact z0m r k hk) (by rw[e1];omega)
  have e3:hd (z0c r (even rs))=hd r:=by unfold hd;rw[e2];exact e1
  refine⟨⟨z2J i1 h1,by rw[e2];exact h2,by rw[e2];exact h3,by rw[e3];exact h4,by rw[e2];exact i1⟩,?_,?_⟩
  · rw[even,List.map_cons,List.map_cons,e2,i2]
  · rw[even,List.map_cons,List.map_cons,e3,i3]
def z0F(S:List Row):List (Nat×Vec):=S.map fun r=>(z00 r,vec r)
theorem z9f{n:Nat}:∀{f:Nat} {S:List Row},Asc n f S→Form f (z0F (even S))
 | _,[],_=>trivial
 | f,r::rs,A=>by
  obtain⟨j1,_,_⟩:=z2z A
  obtain⟨h1,h2,h3,h4,h5⟩:=A
  obtain⟨i1,i2,i3⟩:=z2z h5
  obtain⟨k1,k2,k3,k4,k5⟩:=j1
  have low:=z3z i1 h1
  have e1:at0 (z0c r (even rs)) (z00 r)=hd r:=low _ (Nat.lt_succ_self _)
  have e2:z00 (z0c r (even rs))=z00 r:=z1w _ _ (fun k hk=>by rw[low k (by omega)];exact z0m r k hk) (by rw[e1];omega)
  refine⟨k2,fun k hk=>z0m _ k hk,k4,fun p hp=>?_,by rw[e2];exact z9f h5⟩
  obtain⟨x,hx,rfl⟩:=List.mem_map.mp hp
  exact z1Q i1 h1 x hx
theorem z9g{n:Nat}:∀{f:Nat} {S:List Row},Asc n f S→SameSpan (vecs (even S)) (vecs S)
 | _,[],_=>SameSpan.refl
 | f,r::rs,A=>by
  obtain⟨h1,h2,h3,h4,h5⟩:=A
  obtain⟨i1,i2,i3⟩:=z2z h5
  have ih:=z9g h5
  have sp:=z1m i1 h1
  constructor
  · intro v hv
    obtain⟨x,hx,rfl⟩:=List.mem_map.mp hv
    rcases List.mem_cons.mp hx with rfl|hx
    · refine⟨1,Span.congr (fun k=>?_) ((ih.iff.mp sp).neg)⟩
      show -(at0 r k-at0 (z0c r (even rs)) k)=at0 (z0c r (even rs)) k-1*at0 r k
      omega
    · exact(ih.1 _ (z5A hx)).cons
  · intro v hv
    obtain⟨x,hx,rfl⟩:=List.mem_map.mp hv
    rcases List.mem_cons.mp hx with rfl|hx
    · refine⟨1,Span.congr (fun k=>?_) sp⟩
      show at0 x k-at0 (z0c x (even rs)) k=at0 x k-1*at0 (z0c x (even rs)) k
      omega
    · exact(ih.2 _ (z5A hx)).cons
end St

end
section
local macro_rules|`(tactic| omega)=>`(tactic| first|lia|omega +splitDisjunctions)
set_option linter.all false
set_option maxRecDepth 100000
namespace St
open Lat
theorem Asc.iff{n:Nat}:∀{f:Nat} {S:List Row},Asc n f S↔(∀ r∈S,r.length=n∧f≤z00 r∧z00 r<n∧0<hd r)∧(S.map z00).Pairwise (·<·)
 | f,[]=>by simp[Asc]
 | f,r::rs=>by
  constructor
  · intro A
    refine⟨fun x hx=>A.mem hx,?_⟩
    rw[List.map_cons,List.pairwise_cons]
    refine⟨fun h hh=>?_,(Asc.iff.mp A.2.2.2.2).2⟩
    obtain⟨x,hx,rfl⟩:=List.mem_map.mp hh
    exact(A.2.2.2.2.mem hx).2.1
  · rintro⟨h1,h2⟩
    rw[List.map_cons,List.pairwise_cons]at h2
    have q:=h1 r List.mem_cons_self
    refine⟨q.1,q.2.1,q.2.2.1,q.2.2.2,Asc.iff.mpr ⟨fun x hx=>?_,h2.2⟩⟩
    have q2:=h1 x (List.mem_cons_of_mem _ hx)
    exact⟨q2.1,h2.1 _ (List.mem_map.mpr ⟨x,hx,rfl⟩),q2.2.2.1,q2.2.2.2⟩
theorem zbd{a b:Row}(h:a.length=b.length):sub a 0 b=a:=ext0 (z2j h) fun k=>by rw[z3y h];simp
theorem z6O{n:Nat}{t:Nat}:∀{S:List Row} {left:Row},(∀ r∈S,r.length=n)→left.length=n→(∀ k,k<t→at0 left k=0)→(∀ k,k<t→at0 (z0c left S) k=0)∧(z0c left S).length=n
 | [],left,_,hl,z=>⟨z,hl⟩
 | r::rs,left,hw,hl,z=>by
  have h1:=hw r List.mem_cons_self
  rw[z0c]
  refine z6O (fun x hx=>hw x (List.mem_cons_of_mem _ hx)) (by rw[z2j (by omega)];exact hl) fun k hk=>?_
  rw[z3y (by omega),z k hk]
  by_cases hh:z00 r<t
  · have:z0B left r=0:=by unfold z0B;rw[z _ hh];simp
    rw[this];simp
  · rw[z0m r k (by omega)];simp
def LowB(m:Nat):Row→List Row→Prop
 | _,[]=>True
 | left,r::rs=>(z0B left r=0∨((z0B left r).natAbs<2 ^ m∧Lt (2 ^ m) r))∧LowB m (sub left (z0B left r) r) rs
theorem z1R{n t s e m:Nat}:∀{S:List Row} {left:Row},(∀ r∈S,r.length=n∧0<hd r)→left.length=n→(∀ k,k<t→at0 left k=0)→(∀ r∈S,t≤z00 r→Lt (2 ^ e) r)→Lt (2 ^ s) left→s+S.length*(e+1)≤m→e≤m →
  Lt (2 ^ (s+S.length*(e+1))) (z0c left S)∧LowB m left S
 | [],left,_,hl,z,_,hs,_,_=>⟨by simpa[z0c]using hs,trivial⟩
 | r::rs,left,hw,hl,z,hb,hs,hm,hem=>by
  have h1:=hw r List.mem_cons_self
  have lenE:(r::rs).length*(e+1)=rs.length*(e+1)+(e+1):=by rw[List.length_cons,Nat.succ_mul]
  have e2:∀ q,(sub left q r).length=n:=fun q=>by rw[z2j (by omega)];exact hl
  by_cases hh:z00 r<t
  · have o:z0B left r=0:=by unfold z0B;rw[z _ hh];simp
    have es:sub left (z0B left r) r=left:=by rw[o];exact zbd (by omega)
    obtain⟨i1,i2⟩:=z1R (t:=t) (s:=s) (e:=e) (m:=m) (S:=rs) (left:=left) (fun x hx=>hw x (List.mem_cons_of_mem _ hx)) hl z (fun x hx=>hb x (List.mem_cons_of_mem _ hx)) hs (by omega) hem
    rw[z0c,LowB,es]
    exact⟨i1.mono (Nat.pow_le_pow_right (by decide) (by omega)),.inl o,i2⟩
  · have hr:Lt (2 ^ e) r:=hb r List.mem_cons_self (by omega)
    have st:=zi0 (s:=2 ^ s) (t:=2 ^ e) (by omega) h1.2 hs hr
    have st':Lt (2 ^ (s+(e+1))) (sub left (z0B left r) r):=by
     refine st.mono ?_
     rw[Nat.pow_add]
     refine Nat.mul_le_mul_left _ ?_
     have:0<2 ^ e:=Nat.two_pow_pos e
     rw[Nat.pow_succ];omega
    obtain⟨i1,i2⟩:=z1R (t:=t) (s:=s+(e+1)) (e:=e) (m:=m) (S:=rs) (left:=sub left (z0B left r) r) (fun x hx=>hw x (List.mem_cons_of_mem _ hx)) (e2 _)
     (fun k hk=>by rw[z3y (by omega),z k hk,z0m r k (by omega)];simp) (fun x hx=>hb x (List.mem_cons_of_mem _ hx)) st' (by omega) hem
    rw[z0c,LowB]
    refine⟨i1.mono (Nat.pow_le_pow_right (by decide) (by omega)),.inr ⟨?_,hr.mono (Nat.pow_le_pow_right (by decide) hem)⟩,i2⟩
    refine Nat.lt_of_le_of_lt (z5z (at0 left (z00 r)) h1.2) (Nat.lt_of_lt_of_le (hs _) (Nat.pow_le_pow_right (by decide) (by omega)))
def z0J(r left:Row)(x y:Int):Row:=lin x r y left
def z16(r left:Row)(g:Int):Row:=lin ((at0 r (z00 r)).fdiv g) left (-((at0 left (z00 r)).fdiv g)) r
structure Wi(n e eh m0 kk:Nat)(S0:List Row)(v:Row)(S:List Row)(left:Row):Prop where
 asc:Asc n 0 S
 len:left.length=n
 heads:S.map z00=S0.map z00
 span:SameSpan (vecs (left::S)) (vecs (v::S0))
 low:∀ r∈S,0≤at0 left (z00 r)∧at0 left (z00 r)<hd r
 right:∀ r∈S,z00 left≤z00 r→Lt (2 ^ e) r
 hds:∀ r∈S,hd r<2 ^ eh
 size:Lt (2 ^ (m0+z00 left*kk)) left
 all:∀ r∈S,Lt (2 ^ (e+3+(m0+z00 left*kk))) r
theorem zi1{a b:Row}{x y:Int}{p q s:Nat}(h:a.length=b.length)(hx:x.natAbs<2 ^ p)(hy:y.natAbs<2 ^ p)(ha:Lt (2 ^ q) a)(hb:Lt (2 ^ q) b)(hs:p+q+1≤s):Lt (2 ^ s) (lin x a y b):=fun k=>by
 rw[z7j h]
 have h1:(x*at0 a k).natAbs<2 ^ (p+q):=by
  rw[Int.natAbs_mul,Nat.pow_add]
  exact Nat.mul_lt_mul'' hx (ha k)
 have h2:(y*at0 b k).natAbs<2 ^ (p+q):=by
  rw[Int.natAbs_mul,Nat.pow_add]
  exact Nat.mul_lt_mul'' hy (hb k)
 have h3:2 ^ (p+q+1)≤2 ^ s:=Nat.pow_le_pow_right (by decide) hs
 rw[Nat.pow_succ]at h3
 omega +splitDisjunctions
theorem z0h{S:List Row}{r:Row}(h:r∈S):Span (vecs S) (fun k=>at0 r k):=Span.mem (z5A h)
theorem z5B{T:List Vec}{u v:Vec}(x y:Int)(hu:Span T u)(hv:Span T v):Span T (fun k=>x*u k+y*v k):=(hu.smul x).add (hv.smul y)
theorem z3A{A B:List Row}(h1:∀ r∈A,Span (vecs B) (fun k=>at0 r k))(h2:∀ r∈B,Span (vecs A) (fun k=>at0 r k)):SameSpan (vecs A) (vecs B):=by
 constructor
 · intro v hv
   obtain⟨r,hr,rfl⟩:=List.mem_map.mp hv
   exact h1 r hr
 · intro v hv
   obtain⟨r,hr,rfl⟩:=List.mem_map.mp hv
   exact h2 r hr
theorem Wi.step{n e eh m0 kk:Nat}{S0:List Row}{v:Row}{S1 S2:List Row}{r left:Row}{g x y:Int}(I:Wi n e eh m0 kk S0 v (S1++r::S2) left)(hh:z00 r=z00 left)(hn:z00 left<n)
   (hg:0<g) (ga:g∣hd r) (gb:g∣at0 left (z00 r)) (hxy:hd r*x+at0 left (z00 r)*y=g) (hx:x.natAbs<2 ^ (e+2)) (hy:y.natAbs<2 ^ (e+2)) (he:e≤m0)
   (hk:2*e+3+(S1.length+S2.length+1)*(e+1)≤kk) :
   Wi n e eh m0 kk S0 v (S1++z0J r left x y::S2) (z0c (z16 r left g) (S1++z0J r left x y::S2))∧z00 left<z00 (z0c (z16 r left g) (S1++z0J r left x y::S2)) ∧
     LowB (m0+n*kk) (z16 r left g) (S1++z0J r left x y::S2)∧(∀ q∈S1++z0J r left x y::S2,hd q<2 ^ eh):=by
 have hrm:r∈S1++r::S2:=List.mem_append.mpr (.inr List.mem_cons_self)
 have q:=I.asc.mem hrm
 have hl:r.length=left.length:=by rw[q.1,I.len]
 have hlow:=I.low r hrm
 have hu:∀ k,at0 (z0J r left x y) k=x*at0 r k+y*at0 left k:=fun k=>z7j hl k
 have hlo:∀ k,at0 (z16 r left g) k=((at0 r (z00 r)).fdiv g)*at0 left k+(-((at0 left (z00 r)).fdiv g))*at0 r k:=fun k=>z7j hl.symm k
 have lu:(z0J r left x y).length=n:=by unfold z0J;rw[z7i hl];exact q.1
 have llo:(z16 r left g).length=n:=by unfold z16;rw[z7i hl.symm];exact I.len
 obtain⟨a',ea⟩:=ga
 obtain⟨b',eb⟩:=gb
 have da:(hd r).fdiv g=a':=by rw[ea];exact Int.mul_fdiv_cancel_left _ (by omega)
 have db:(at0 left (z00 r)).fdiv g=b':=by rw[eb];exact Int.mul_fdiv_cancel_left _ (by omega)
 have hlo:∀ k,at0 (z16 r left g) k=a'*at0 left k+(-b')*at0 r k:=fun k=>by
   have:=hlo k
   rw[db,show at0 r (z00 r)=hd r from rfl,da]at this
   exact this
 have det:a'*x+b'*y=1:=by
   have:g*(a'*x+b'*y)=g*1:=by rw[Int.mul_add,←Int.mul_assoc,←Int.mul_assoc,←ea,←eb];omega
   exact Int.eq_of_mul_eq_mul_left (by omega) this
 have zb:∀ k,k<z00 left→at0 r k=0∧at0 left k=0:=fun k hk=>⟨z0m r k (by omega),z0m left k hk⟩
 have us:at0 (z0J r left x y) (z00 r)=g:=by rw[hu,←hxy];show x*hd r+y*_=_;rw[Int.mul_comm x,Int.mul_comm y]
 have uh:z00 (z0J r left x y)=z00 r:=z1w _ _ (fun k hk=>by rw[hu,(zb k (by omega)).1,(zb k (by omega)).2];simp) (by rw[us];omega)
 have uhd:hd (z0J r left x y)=g:=by unfold hd;rw[uh];exact us
 have gle:g≤hd r:=Int.le_of_dvd q.2.2.2 ⟨a',ea⟩
 have lz:∀ k,k<z00 left+1→at0 (z16 r left g) k=0:=fun k hk=>by
   rw[hlo]
   by_cases h:k<z00 left
   · rw[(zb k h).1,(zb k h).2];simp
   · have:k=z00 r:=by omega
     subst this
     rw[eb,show at0 r (z00 r)=hd r from rfl,ea,Int.mul_left_comm a' g b',Int.neg_mul,Int.mul_left_comm b' g a',Int.mul_comm a' b']
     omega
 have asc':Asc n 0 (S1++z0J r left x y::S2):=by
   have A:=Asc.iff.mp I.asc
   refine Asc.iff.mpr ⟨fun z hz=>?_,?_⟩
   · rcases List.mem_append.mp hz with h|h
     · exact A.1 z (List.mem_append.mpr (.inl h))
     · rcases List.mem_cons.mp h with rfl|h
       · exact⟨lu,Nat.zero_le _,by rw[uh];exact q.2.2.1,by rw[uhd];exact hg⟩
       · exact A.1 z (List.mem_append.mpr (.inr (List.mem_cons_of_mem _ h)))
   · have e1:(S1++z0J r left x y::S2).map z00=(S1++r::S2).map z00:=by simp[uh]
     rw[e1];exact A.2
 have hw':∀ z∈S1++z0J r left x y::S2,z.length=n:=fun z hz=>(asc'.mem hz).1
 obtain⟨nz,nl⟩:=z6O (t:=z00 left+1) hw' llo lz
 have hhead:z00 left+1≤z00 (z0c (z16 r left g) (S1++z0J r left x y::S2)):=zgO _ _ nz (by rw[nl];omega)
 have mm:∀ z∈S1++z0J r left x y::S2,z=z0J r left x y∨z∈S1++r::S2:=fun z hz=>by
   rcases List.mem_append.mp hz with h|h
   · exact .inr (List.mem_append.mpr (.inl h))
   · rcases List.mem_cons.mp h with rfl|h
     · exact .inl rfl
     · exact .inr (List.mem_append.mpr (.inr (List.mem_cons_of_mem _ h)))
 have right':∀ z∈S1++z0J r left x y::S2,z00 left+1≤z00 z→Lt (2 ^ e) z:=fun z hz hk=>by
   rcases mm z hz with rfl|h
   · rw[uh]at hk;omega
   · exact I.right z h (by omega)
 have rlt:Lt (2 ^ e) r:=I.right r hrm (by omega)
 have hds':∀ z∈S1++z0J r left x y::S2,hd z<2 ^ eh:=fun z hz=>by
   rcases mm z hz with rfl|h
   · rw[uhd];have:=I.hds r hrm;omega
   · exact I.hds z h
 have aS:(a').natAbs<2 ^ e:=by
   have h1:(hd r).natAbs<2 ^ e:=rlt (z00 r)
   rw[ea,Int.natAbs_mul]at h1
   have:1*a'.natAbs≤g.natAbs*a'.natAbs:=Nat.mul_le_mul_right _ (by omega)
   omega
 have bS:(-b').natAbs<2 ^ e:=by
   have h1:(hd r).natAbs<2 ^ e:=rlt (z00 r)
   have h2:(at0 left (z00 r)).natAbs<2 ^ e:=by omega
   rw[eb,Int.natAbs_mul]at h2
   have:1*b'.natAbs≤g.natAbs*b'.natAbs:=Nat.mul_le_mul_right _ (by omega)
   omega
 have m1:e≤m0+z00 left*kk:=by omega
 have sl:Lt (2 ^ (e+(m0+z00 left*kk)+1)) (z16 r left g):=by
   unfold z16
   rw[show at0 r (z00 r)=hd r from rfl,da,db]
   exact zi1 hl.symm aS bS I.size (rlt.mono (Nat.pow_le_pow_right (by decide) m1)) (Nat.le_refl _)
 have hk1:(z00 left+1)*kk=z00 left*kk+kk:=by rw[Nat.succ_mul]
 have hkn:(z00 left+1)*kk≤n*kk:=Nat.mul_le_mul_right _ (by omega)
 have hkh:(z00 left+1)*kk≤z00 (z0c (z16 r left g) (S1++z0J r left x y::S2))*kk:=Nat.mul_le_mul_right _ hhead
 have lenS:(S1++z0J r left x y::S2).length=S1.length+S2.length+1:=by simp;omega
 obtain⟨z1,z2⟩:=z1R (n:=n) (t:=z00 left+1) (s:=e+(m0+z00 left*kk)+1) (e:=e) (m:=m0+n*kk) (S:=S1++z0J r left x y::S2) (left:=z16 r left g)
   (fun z hz=>⟨hw' z hz,(asc'.mem hz).2.2.2⟩) llo lz right' sl (by rw[lenS];omega) (by omega)
 have low':=z1Q asc' llo
 refine⟨⟨asc',nl,?_,?_,low',fun z hz hk=>right' z hz (by omega),hds',z1.mono (Nat.pow_le_pow_right (by decide) (by rw[lenS];omega)),fun z hz=>?_⟩,hhead,z2,hds'⟩
 · rw[←I.heads];simp[uh]
 · refine SameSpan.trans (z3A (B:=left::(S1++r::S2)) ?_ ?_) I.span
   ·
     have oldr:Span (vecs (left::(S1++r::S2))) (fun k=>at0 r k):=z0h (List.mem_cons_of_mem _ hrm)
     have oldl:Span (vecs (left::(S1++r::S2))) (fun k=>at0 left k):=z0h List.mem_cons_self
     have nu:Span (vecs (left::(S1++r::S2))) (fun k=>at0 (z0J r left x y) k):=Span.congr (fun k=>(hu k).symm) (z5B x y oldr oldl)
     have nlo:Span (vecs (left::(S1++r::S2))) (fun k=>at0 (z16 r left g) k):=Span.congr (fun k=>(hlo k).symm) (z5B a' (-b') oldl oldr)
     have all:∀ z∈S1++z0J r left x y::S2,Span (vecs (left::(S1++r::S2))) (fun k=>at0 z k):=fun z hz=>by
       rcases mm z hz with rfl|h
       · exact nu
       · exact z0h (List.mem_cons_of_mem _ h)
     intro z hz
     rcases List.mem_cons.mp hz with rfl|hz
     · have d:=z1m asc' llo
       have d':Span (vecs (left::(S1++r::S2))) (fun k=>at0 (z16 r left g) k-at0 (z0c (z16 r left g) (S1++z0J r left x y::S2)) k) :=
         d.trans fun w hw=>by obtain⟨z,hz,rfl⟩:=List.mem_map.mp hw;exact all z hz
       exact Span.congr (fun k=>by omega) (nlo.sub d')
     · exact all z hz
   · have um:z0J r left x y∈S1++z0J r left x y::S2:=List.mem_append.mpr (.inr List.mem_cons_self)
     have nu:Span (vecs (z0c (z16 r left g) (S1++z0J r left x y::S2)::(S1++z0J r left x y::S2))) (fun k=>at0 (z0J r left x y) k):=z0h (List.mem_cons_of_mem _ um)
     have nlo:Span (vecs (z0c (z16 r left g) (S1++z0J r left x y::S2)::(S1++z0J r left x y::S2))) (fun k=>at0 (z16 r left g) k):=by
       have d:=z1m asc' llo
       have t:Span (vecs (z0c (z16 r left g) (S1++z0J r left x y::S2)::(S1++z0J r left x y::S2))) (fun k=>at0 (z0c (z16 r left g) (S1++z0J r left x y::S2)) k):=z0h List.mem_cons_self
       exact Span.congr (fun k=>by omega) (t.add d.cons)
     have nr:∀ k,at0 r k=a'*at0 (z0J r left x y) k+(-y)*at0 (z16 r left g) k:=fun k=>by
       rw[hu,hlo]
       have:at0 r k=(a'*x+b'*y)*at0 r k:=by rw[det];omega
       rw[this]
       grind
     have nle:∀ k,at0 left k=b'*at0 (z0J r left x y) k+x*at0 (z16 r left g) k:=fun k=>by
       rw[hu,hlo]
       have:at0 left k=(a'*x+b'*y)*at0 left k:=by rw[det];omega
       rw[this]
       grind
     intro z hz
     rcases List.mem_cons.mp hz with rfl|hz
     · exact Span.congr (fun k=>(nle k).symm) (z5B _ _ nu nlo)
     · rcases List.mem_append.mp hz with h|h
       · exact z0h (List.mem_cons_of_mem _ (List.mem_append.mpr (.inl h)))
       · rcases List.mem_cons.mp h with rfl|h
         · exact Span.congr (fun k=>(nr k).symm) (z5B _ _ nu nlo)
         · exact z0h (List.mem_cons_of_mem _ (List.mem_append.mpr (.inr (List.mem_cons_of_mem _ h))))
 · rcases mm z hz with rfl|h
   · exact zi1 (q:=m0+z00 left*kk) hl hx hy (rlt.mono (Nat.pow_le_pow_right (by decide) m1)) I.size (by omega)
   · exact(I.all z h).mono (Nat.pow_le_pow_right (by decide) (by omega))
end St

end
section
set_option linter.all false
set_option maxRecDepth 100000
namespace St
open Lat
def Ind(R:List Row):Prop:=∀ cs:List Int,cs.length=R.length→(∀ k,mix R cs k=0)→∀ c∈cs,c=0
theorem z5C{T:List Vec}:∀{R:List Row} {cs:List Int},(∀ r∈R,Span T (fun k=>at0 r k))→Span T (mix R cs)
 | [],cs,_=>by unfold mix;exact Span.zero
 | r::R,[],_=>by unfold mix;exact Span.zero
 | r::R,c::cs,h=>by
  unfold mix
  exact((h r List.mem_cons_self).smul c).add (z5C fun x hx=>h x (List.mem_cons_of_mem _ hx))
def dif(a b:List Int):List Int:=List.zipWith (fun x y=>x-y) a b
theorem zfP{a b:List Int}(h:a.length=b.length):(dif a b).length=a.length:=by unfold dif;rw[List.length_zipWith];omega
theorem zfQ:∀{R:List Row} {a b:List Int},a.length=b.length→∀ k,mix R (dif a b) k=mix R a k-mix R b k
 | [],a,b,h,k=>by simp[mix]
 | r::R,[],[],h,k=>by simp[mix,dif]
 | r::R,x::a,y::b,h,k=>by
  have ih:=zfQ (R:=R) (a:=a) (b:=b) (by simpa using h) k
  show(x-y)*at0 r k+mix R (dif a b) k=(x*at0 r k+mix R a k)-(y*at0 r k+mix R b k)
  rw[ih,Int.sub_mul];omega
theorem zbe:∀{a b:List Int},a.length=b.length→(∀ c∈dif a b,c=0)→a=b
 | [],[],_,_=>rfl
 | x::a,y::b,h,z=>by
  have h1:x-y=0:=z _ (List.mem_cons_self)
  rw[zbe (a:=a) (b:=b) (by simpa using h) fun c hc=>z c (List.mem_cons_of_mem _ hc),show x=y by omega]
theorem z9h{N:Nat}:∀{a b:List Int},(∀ c∈a,0≤c∧c≤N)→(∀ c∈b,0≤c∧c≤N)→∀ c∈dif a b,c.natAbs≤N
 | [],_,_,_,c,hc=>by simp[dif]at hc
 | x::a,[],_,_,c,hc=>by simp[dif]at hc
 | x::a,y::b,ha,hb,c,hc=>by
  have hc:c∈(x-y)::dif a b:=hc
  rcases List.mem_cons.mp hc with rfl|hc
  · have:=ha x List.mem_cons_self
    have:=hb y List.mem_cons_self
    omega
  · exact z9h (fun c h=>ha c (List.mem_cons_of_mem _ h)) (fun c h=>hb c (List.mem_cons_of_mem _ h)) c hc
theorem zaf{N B:Nat}:∀{R:List Row} {cs:List Int},(∀ r∈R,Lt B r)→(∀ c∈cs,c.natAbs≤N)→∀ k,(mix R cs k).natAbs≤R.length*(N*B)
 | [],cs,_,_,k=>by simp[mix]
 | r::R,[],_,_,k=>by simp[mix]
 | r::R,c::cs,hr,hc,k=>by
  have ih:=zaf (R:=R) (cs:=cs) (fun x hx=>hr x (List.mem_cons_of_mem _ hx)) (fun x hx=>hc x (List.mem_cons_of_mem _ hx)) k
  show(c*at0 r k+mix R cs k).natAbs≤_
  have h1:(c*at0 r k).natAbs≤N*B:=by
   rw[Int.natAbs_mul];exact Nat.mul_le_mul (hc c List.mem_cons_self) (Nat.le_of_lt (hr r List.mem_cons_self k))
  rw[List.length_cons,Nat.succ_mul]
  omega
theorem z6l{N:Nat}:∀{r:Nat} {t:List Int},z1Z (List.replicate r (N+1)) t↔t.length=r∧∀ c∈t,0≤c∧c≤N
 | 0,[]=>by simp[z1Z]
 | 0,x::t=>by simp[z1Z]
 | r+1,[]=>by simp[z1Z,List.replicate]
 | r+1,x::t=>by
  rw[List.replicate_succ,z1Z,z6l,List.length_cons]
  constructor
  · rintro⟨h1,h2,h3,h4⟩
    refine⟨by omega,fun c hc=>?_⟩
    rcases List.mem_cons.mp hc with rfl|hc
    · omega
    · exact h4 c hc
  · rintro⟨h1,h2⟩
    have:=h2 x List.mem_cons_self
    exact⟨by omega,by omega,by omega,fun c hc=>h2 c (List.mem_cons_of_mem _ hc)⟩
theorem z7U(N:Nat):∀ r,prod (List.replicate r N)=N ^ r
 | 0=>rfl
 | r+1=>by rw[List.replicate_succ,prod,z7U,Nat.pow_succ,Nat.mul_comm]
theorem siegel{R:List Row}{B:Nat}(hR:Ind R)(hb:∀ r∈R,Lt B r)(hp:0<B)(hs:List Nat)(hl:hs.length+1=R.length):
   ∃ cs:List Int,cs.length=R.length∧(∀ h∈hs,mix R cs h=0)∧(∃ k,mix R cs k≠0)∧∀ k,(mix R cs k).natAbs≤(2*R.length*B) ^ R.length:=by
 let r:=R.length
 let N:=(2*R.length*B) ^ hs.length
 let W:=R.length*(N*B)
 let f:List Int→List Int:=fun cs=>hs.map fun h=>mix R cs h+(W:Int)
 have main:∃ a b:List Int,z1Z (List.replicate r (N+1)) a∧z1Z (List.replicate r (N+1)) b∧f a=f b∧a≠b:=by
   apply Classical.byContradiction
   intro no
   have inj:∀ s t,z1Z (List.replicate r (N+1)) s→z1Z (List.replicate r (N+1)) t→f s=f t→s=t:=fun s t h1 h2 h3=>Classical.byContradiction fun hne=>no ⟨s,t,h1,h2,h3,hne⟩
   have h1:=zlh (ns:=List.replicate r (N+1)) (ms:=List.replicate hs.length (2*W+1)) f inj fun s hsr=>by
    rw[z6l]at hsr ⊢
    refine⟨by simp[f],fun c hc=>?_⟩
    obtain⟨h,_,rfl⟩:=List.mem_map.mp hc
    have:=zaf (N:=N) hb (cs:=s) (fun c hc=>by have:=hsr.2 c hc;omega) h
    have:(mix R s h).natAbs≤W:=this
    omega
   rw[z7U,z7U]at h1
   have hr1:1≤R.length:=by omega
   have h2:2*W+1≤(2*R.length*B)*(N+1):=by
    have e:(2*R.length*B)*(N+1)=2*W+2*R.length*B:=by
     show _=2*(R.length*(N*B))+_
     rw[Nat.mul_add,Nat.mul_one]
     congr 1
     rw[Nat.mul_comm N B,Nat.mul_assoc,Nat.mul_assoc]
    have:1≤2*R.length*B:=Nat.mul_pos (by omega) hp
    omega
   have h3:(2*W+1) ^ hs.length≤((2*R.length*B)*(N+1)) ^ hs.length:=Nat.pow_le_pow_left h2 _
   rw[Nat.mul_pow]at h3
   have h4:(N+1) ^ r=(N+1)*(N+1) ^ hs.length:=by rw[show r=hs.length+1 from hl.symm,Nat.pow_succ,Nat.mul_comm]
   rw[h4]at h1
   have h5:(N+1)*(N+1) ^ hs.length≤N*(N+1) ^ hs.length:=Nat.le_trans h1 h3
   have h6:0<(N+1) ^ hs.length:=Nat.pow_pos (by omega)
   rw[Nat.succ_mul]at h5
   omega
 obtain⟨a,b,ha,hb',hf,hne⟩:=main
 rw[z6l]at ha hb'
 have hab:a.length=b.length:=by rw[ha.1,hb'.1]
 refine⟨dif a b,by rw[zfP hab];exact ha.1,fun h hh=>?_,?_,fun k=>?_⟩
 · rw[zfQ hab]
   have:mix R a h+(W:Int)=mix R b h+(W:Int):=List.map_inj_left.mp hf h hh
   omega
 · apply Classical.byContradiction
   intro no
   have z:∀ k,mix R (dif a b) k=0:=fun k=>Classical.byContradiction fun h=>no ⟨k,h⟩
   exact hne (zbe hab (hR (dif a b) (by rw[zfP hab];exact ha.1) z))
 · have:=zaf (N:=N) hb (cs:=dif a b) (z9h ha.2 hb'.2) k
   refine Nat.le_trans this ?_
   rw[←hl,Nat.pow_succ,hl,Nat.mul_comm]
   show(N*B)*R.length≤N*(2*R.length*B)
   rw[Nat.mul_assoc,Nat.mul_comm B]
   refine Nat.mul_le_mul_left _ ?_
   rw[Nat.mul_assoc];omega
theorem zbf(v:Vec):∀ m,v m≠0→∃ h,(∀ k,k<h→v k=0)∧v h≠0:=by
 intro m
 induction m using Nat.strongRecOn with
 | _ m ih =>
  intro hm
  by_cases q:∃ k,k<m∧v k≠0
  · obtain⟨k,h1,h2⟩:=q
    exact ih k h1 h2
  · exact⟨m,fun k hk=>Classical.byContradiction fun h=>q ⟨k,hk,h⟩,hm⟩
theorem zbg{E:Nat}:∀{T:List Row} {n f Q:Nat} {u:Vec},Asc n f T→Form f (z0F T)→(∀ r∈T,Lt E r)→Span (vecs T) u→(∀ r∈T,(u (z00 r)).natAbs≤Q*(hd r).natAbs)→∀ k,(u k).natAbs≤Q*((2 ^ T.length-1)*E)
 | [],n,f,Q,u,_,_,_,s,_,k=>by rw[s k];simp
 | r::T,n,f,Q,u,A,F,hE,⟨c,s⟩,hu,k=>by
  have hp:=A.2.2.2.1
  have ec:=A.coef s
  have hc:c.natAbs≤Q:=by
   have:=hu r List.mem_cons_self
   rw[ec,Int.natAbs_mul]at this
   exact Nat.le_of_mul_le_mul_right this (by omega)
  have ih:=zbg (T:=T) (Q:=2*Q) A.2.2.2.2 F.2.2.2.2 (fun x hx=>hE x (List.mem_cons_of_mem _ hx)) s (fun x hx=>by
   have h1:=hu x (List.mem_cons_of_mem _ hx)
   have h2:=F.2.2.2.1 (z00 x,vec x) (List.mem_map.mpr ⟨x,hx,rfl⟩)
   have h2:0≤at0 r (z00 x)∧at0 r (z00 x)<hd x:=h2
   show(u (z00 x)-c*at0 r (z00 x)).natAbs≤_
   have h3:(c*at0 r (z00 x)).natAbs≤Q*(hd x).natAbs:=by rw[Int.natAbs_mul];exact Nat.mul_le_mul hc (by omega)
   rw[Nat.mul_assoc]
   omega) k
  have ih:(u k-c*at0 r k).natAbs≤2*Q*((2 ^ T.length-1)*E):=ih
  have h4:(c*at0 r k).natAbs≤Q*E:=by rw[Int.natAbs_mul];exact Nat.mul_le_mul hc (Nat.le_of_lt (hE r List.mem_cons_self k))
  have h5:Q*((2 ^ (r::T).length-1)*E)=2*Q*((2 ^ T.length-1)*E)+Q*E:=by
   have p:0<2 ^ T.length:=Nat.two_pow_pos _
   rw[List.length_cons,Nat.pow_succ,show 2 ^ T.length*2-1=2*(2 ^ T.length-1)+1 by omega,Nat.add_mul,Nat.one_mul,Nat.mul_add,Nat.mul_assoc 2,Nat.mul_left_comm Q 2,Nat.mul_assoc 2]
  omega
theorem zi2{W E n f:Nat}{r:Row}{T:List Row}{w:Vec}(A:Asc n f (r::T))(F:Form f (z0F (r::T)))(hE:∀ x∈T,Lt E x)(s:Span (vecs (r::T)) w)(h0:w (z00 r)≠0)(hz:∀ x∈T,w (z00 x)=0)(hw:∀ k,(w k).natAbs≤W):
  ∀ k,(at0 r k).natAbs≤W+(2 ^ T.length-1)*E:=by
 obtain⟨c,s⟩:=s
 have ec:=A.coef s
 have c0:c≠0:=by intro z;rw[z]at ec;simp at ec;exact h0 ec
 intro k
 have q:=zbg (E:=E) (Q:=c.natAbs) A.2.2.2.2 F.2.2.2.2 hE s (fun x hx=>by
  have h2:=F.2.2.2.1 (z00 x,vec x) (List.mem_map.mpr ⟨x,hx,rfl⟩)
  have h2:0≤at0 r (z00 x)∧at0 r (z00 x)<hd x:=h2
  show(w (z00 x)-c*at0 r (z00 x)).natAbs≤_
  rw[hz x hx]
  have h3:(c*at0 r (z00 x)).natAbs≤c.natAbs*(hd x).natAbs:=by rw[Int.natAbs_mul];exact Nat.mul_le_mul_left _ (by omega)
  omega) k
 have q:(w k-c*at0 r k).natAbs≤c.natAbs*((2 ^ T.length-1)*E):=q
 have hwk:=hw k
 have e1:(c*at0 r k).natAbs=c.natAbs*(at0 r k).natAbs:=Int.natAbs_mul _ _
 apply Nat.le_of_not_lt
 intro hlt
 generalize (2 ^ T.length-1)*E=X at *
 have h6:c.natAbs*(W+X+1)≤c.natAbs*(at0 r k).natAbs:=Nat.mul_le_mul_left _ hlt
 have h7:c.natAbs*(W+X+1)=c.natAbs*X+c.natAbs*(W+1):=by rw[←Nat.mul_add];congr 1;omega
 have h8:1*(W+1)≤c.natAbs*(W+1):=Nat.mul_le_mul_right _ (by omega)
 omega
def bnd(r B:Nat):Nat:=(2*r*B) ^ r*2 ^ (r*r)
theorem z9i{W n:Nat}:∀{T:List Row} {f:Nat},Asc n f T→Form f (z0F T)→(∀ r∈T,∃ w:Vec,Span (vecs T) w∧w (z00 r)≠0∧(∀ k,k<z00 r→w k=0)∧(∀ x∈T,x≠r→w (z00 x)=0)∧∀ k,(w k).natAbs≤W)→∀ r∈T,Lt (W*2 ^ (T.length*T.length)+1) r
 | r::T,f,A,F,h,x,hx=>by
  have nd:∀ y∈T,z00 r<z00 y:=fun y hy=>(A.2.2.2.2.mem hy).2.1
  have ih:=z9i (T:=T) A.2.2.2.2 F.2.2.2.2 (fun y hy=>by
    obtain⟨w,w1,w2,w3,w4,w5⟩:=h y (List.mem_cons_of_mem _ hy)
    refine⟨w,?_,w2,w3,fun z hz hne=>w4 z (List.mem_cons_of_mem _ hz) hne,w5⟩
    exact Form.tail F (show Span (z0R (z0F (r::T))) w by
     have:z0R (z0F (r::T))=vecs (r::T):=by simp[z0F,z0R]
     rw[this];exact w1) (w3 _ (nd y hy)) |> fun s=>by
      have:z0R (z0F T)=vecs T:=by simp[z0F,z0R]
      have s:Span (z0R (z0F T)) w:=s
      rw[this]at s;exact s)
  have hW:W*2 ^ (T.length*T.length)+1≤W*2 ^ ((r::T).length*(r::T).length)+1:=by
    refine Nat.succ_le_succ (Nat.mul_le_mul_left _ (Nat.pow_le_pow_right (by decide) ?_))
    exact Nat.mul_le_mul (by simp) (by simp)
  rcases List.mem_cons.mp hx with rfl|hx
  · obtain⟨w,w1,w2,w3,w4,w5⟩:=h x List.mem_cons_self
    intro k
    have q:=zi2 (E:=W*2 ^ (T.length*T.length)+1) A F ih w1 w2 (fun y hy=>w4 y (List.mem_cons_of_mem _ hy) fun e=>by have:=nd y hy;rw[e]at this;omega) w5 k
    refine Nat.lt_succ_of_le (Nat.le_trans q ?_)
    have hW1:1≤W:=by have:=w5 (z00 x);omega
    have e2:(x::T).length*(x::T).length=T.length*T.length+T.length+T.length+1:=by rw[List.length_cons];grind
    rw[e2,Nat.pow_succ,Nat.pow_add]
    generalize hP:2 ^ (T.length*T.length+T.length)=P
    have p1:2 ^ (T.length*T.length)*2 ^ T.length=P:=by rw[←hP,Nat.pow_add]
    have p2:1≤2 ^ T.length:=Nat.two_pow_pos _
    have p3:1≤2 ^ (T.length*T.length):=Nat.two_pow_pos _
    generalize 2 ^ T.length=a at *
    generalize 2 ^ (T.length*T.length)=b at *
    have h1:(a-1)*(W*b+1)≤a*(2*(W*b)):=Nat.mul_le_mul (by omega) (by have:1≤W*b:=Nat.mul_pos hW1 p3;omega)
    have h1':(a-1)*(W*b+1)+(W*b+1)=a*(W*b+1):=by
     have:a=(a-1)+1:=by omega
     rw[show a*(W*b+1)=((a-1)+1)*(W*b+1) by rw[←this],Nat.succ_mul]
    have h2:W≤W*b:=Nat.le_mul_of_pos_right _ p3
    have h3:a*(W*b+1)≤a*(2*(W*b)):=Nat.mul_le_mul_left _ (by have:1≤W*b:=Nat.mul_pos hW1 p3;omega)
    have h4:a*(2*(W*b))=W*(b*a)*2:=by grind
    have h5:W*(b*a)*2≤W*(P*a*2):=by
     rw[p1,Nat.mul_assoc]
     refine Nat.mul_le_mul_left _ (Nat.mul_le_mul_right _ (Nat.le_mul_of_pos_right _ p2))
    omega
  · exact(ih x hx).mono hW
theorem z9j(T:List Row):z0R (z0F T)=vecs T:=by simp[z0F,z0R]
theorem zcC{n B:Nat}{S R:List Row}(A:Asc n 0 S)(F:Form 0 (z0F S))(hR:Ind R)(hl:R.length=S.length)(hs:∀ r∈R,Span (vecs S) (fun k=>at0 r k))(hb:∀ r∈R,Lt B r)(hp:0<B):
  ∀ r∈S,Lt (bnd S.length B+1) r:=by
 refine z9i A F fun r hr=>?_
 have hpw:=(Asc.iff.mp A).2
 obtain⟨S1,S2,rfl⟩:=List.append_of_mem hr
 obtain⟨cs,c1,c2,⟨m,c3⟩,c4⟩:=siegel hR hb hp ((S1++S2).map z00) (by rw[hl];simp;omega)
 have sp:Span (vecs (S1++r::S2)) (mix R cs):=z5C hs
 obtain⟨h,z,q⟩:=zbf _ m c3
 obtain⟨x,hx,ex⟩:=A.first sp z q
 have oth:∀ y∈S1++r::S2,y≠r→y∈S1++S2:=fun y hy hne=>by
  rcases List.mem_append.mp hy with h|h
  · exact List.mem_append.mpr (.inl h)
  · rcases List.mem_cons.mp h with rfl|h
    · exact absurd rfl hne
    · exact List.mem_append.mpr (.inr h)
 have zo:∀ y∈S1++r::S2,y≠r→mix R cs (z00 y)=0:=fun y hy hne=>c2 _ (List.mem_map.mpr ⟨y,oth y hy hne,rfl⟩)
 have er:x=r:=Classical.byContradiction fun hne=>q (by rw[←ex];exact zo x hx hne)
 subst er
 rw[hl]at c4
 exact⟨mix R cs,sp,by rw[ex];exact q,fun k hk=>z k (by omega),zo,c4⟩
end St

end
section
local macro_rules|`(tactic| omega)=>`(tactic| first|lia|omega +splitDisjunctions)
set_option linter.all false
set_option maxRecDepth 100000
namespace St
open Lat
structure Post(n u:Nat)(S0:List Row)(v:Row)(S:List Row):Prop where
 asc:Asc n 0 S
 span:SameSpan (vecs S) (vecs (v::S0))
 size:∀ r∈S,Lt (2 ^ u) r
 more:S.map z00=S0.map z00∨(S.length=S0.length+1∧∃ r∈S,∀ x∈S0,z00 x≠z00 r)
theorem Wi.start{n e eh s m0 kk:Nat}{S0:List Row}{v:Row}(A:Asc n 0 S0)(hv:v.length=n)(h0:∀ r∈S0,Lt (2 ^ e) r)(hh:∀ r∈S0,hd r<2 ^ eh)(hs:Lt (2 ^ s) v)(hm:s+S0.length*(e+1)≤m0)(he:e≤m0):
   Wi n e eh m0 kk S0 v S0 (z0c v S0)∧LowB m0 v S0:=by
 obtain⟨z1,z2⟩:=z1R (n:=n) (t:=0) (s:=s) (e:=e) (m:=m0) (S:=S0) (left:=v) (fun r hr=>⟨(A.mem hr).1,(A.mem hr).2.2.2⟩) hv (fun k hk=>by omega) (fun r hr _=>h0 r hr) hs hm he
 have sp:=z1m A hv
 refine⟨⟨A,z2J A hv,rfl,?_,z1Q A hv,fun r hr _=>h0 r hr,fun r hr=>?_,z1.mono (Nat.pow_le_pow_right (by decide) (by omega)),fun r hr=>(h0 r hr).mono (Nat.pow_le_pow_right (by decide) (by omega))⟩,z2⟩
 · refine z3A (fun r hr=>?_) fun r hr=>?_
   · rcases List.mem_cons.mp hr with rfl|hr
     · have t:Span (vecs (v::S0)) (fun k=>at0 v k):=z0h List.mem_cons_self
       exact Span.congr (fun k=>by omega) (t.sub sp.cons)
     · exact z0h (List.mem_cons_of_mem _ hr)
   · rcases List.mem_cons.mp hr with rfl|hr
     · have t:Span (vecs (z0c r S0::S0)) (fun k=>at0 (z0c r S0) k):=z0h List.mem_cons_self
       exact Span.congr (fun k=>by omega) (t.add sp.cons)
     · exact z0h (List.mem_cons_of_mem _ hr)
 · exact hh r hr
theorem Wi.done{n e eh m0 kk:Nat}{S0:List Row}{v:Row}{S:List Row}{left:Row}(I:Wi n e eh m0 kk S0 v S left)(h:¬z00 left<n):Post n (e+3+(m0+n*kk)) S0 v S:=by
 have hl:=z4C left
 rw[I.len]at hl
 have e:z00 left=n:=by omega
 refine⟨I.asc,SameSpan.trans (z3A (fun r hr=>z0h (List.mem_cons_of_mem _ hr)) fun r hr=>?_) I.span,fun r hr=>by have:=I.all r hr;rw[e]at this;exact this,.inl I.heads⟩
 rcases List.mem_cons.mp hr with rfl|hr
 · refine Span.congr (fun k=>?_) Span.zero
   by_cases hk:k<n
   · exact(z0m r k (by omega)).symm
   · exact(z0I (by rw[I.len];omega)).symm
 · exact z0h hr
theorem Wi.new{n e eh m0 kk:Nat}{S0:List Row}{v:Row}{S S':List Row}{left t:Row}(I:Wi n e eh m0 kk S0 v S left)(h:z00 left<n)(hn:∀ r∈S,z00 r≠z00 left)
   (ht:t.length=n) (c:Int) (hc:c=1∨c = -1) (et:∀ k,at0 t k=c*at0 left k) (hp:0<at0 t (z00 left)) (pm:S'.Perm (t::S)) (pw:(S'.map z00).Pairwise (·<·)):Post n (e+3+(m0+n*kk)) S0 v S':=by
 have hh:z00 t=z00 left:=z1w _ _ (fun k hk=>by rw[et,z0m left k hk];simp) (by omega)
 have mem:∀ r∈S',r=t∨r∈S:=fun r hr=>List.mem_cons.mp (pm.mem_iff.mp hr)
 have tm:t∈S':=pm.mem_iff.mpr List.mem_cons_self
 have sm:∀ r∈S,r∈S':=fun r hr=>pm.mem_iff.mpr (List.mem_cons_of_mem _ hr)
 have hk:m0+z00 left*kk≤m0+n*kk:=by have:=Nat.mul_le_mul_right kk (Nat.le_of_lt h);omega
 refine⟨Asc.iff.mpr ⟨fun r hr=>?_,pw⟩,SameSpan.trans (z3A (fun r hr=>?_) fun r hr=>?_) I.span,fun r hr=>?_,.inr ⟨?_,t,tm,fun x hx e=>?_⟩⟩
 · rcases mem r hr with rfl|hr
   · exact⟨ht,Nat.zero_le _,by rw[hh];exact h,by unfold hd;rw[hh];exact hp⟩
   · exact I.asc.mem hr
 · rcases mem r hr with rfl|hr
   · exact Span.congr (fun k=>(et k).symm) ((z0h List.mem_cons_self:Span (vecs (left::S)) (fun k=>at0 left k)).smul c)
   · exact z0h (List.mem_cons_of_mem _ hr)
 · rcases List.mem_cons.mp hr with rfl|hr
   · refine Span.congr (fun k=>?_) ((z0h tm:Span (vecs S') (fun k=>at0 t k)).smul c)
     show c*at0 t k=at0 r k
     rw[et]
     rcases hc with rfl|rfl<;>omega
   · exact z0h (sm r hr)
 · rcases mem r hr with rfl|hr
   · intro k
     rw[et]
     have h1:=I.size k
     have h2:2 ^ (m0+z00 left*kk)≤2 ^ (e+3+(m0+n*kk)):=Nat.pow_le_pow_right (by decide) (by omega)
     rcases hc with rfl|rfl<;>omega
   · exact(I.all r hr).mono (Nat.pow_le_pow_right (by decide) (by omega))
 · have h1:=pm.length_eq
   have h2:=congrArg List.length I.heads
   simp at h1 h2
   omega
 · have:z00 x∈S.map z00:=by rw[I.heads];exact List.mem_map.mpr ⟨x,hx,rfl⟩
   obtain⟨y,hy,ey⟩:=List.mem_map.mp this
   exact hn y hy (by omega)
structure Good(n B:Nat)(rows:List Row)(S:List Row):Prop where
 asc:Asc n 0 S
 form:Form 0 (z0F S)
 span:SameSpan (vecs S) (vecs rows)
 ind:∃ R:List Row,Ind R∧R.length=S.length∧(∀ r∈R,r∈rows)
 len:S.length≤rows.length
 full:Ind rows→S.length=rows.length
theorem Good.nil{n B:Nat}:Good n B [] []:=⟨trivial,trivial,SameSpan.refl,⟨[],(fun cs h _ c hc=>by have h:cs=[]:=List.length_eq_zero_iff.mp h;subst h;cases hc),rfl,fun r hr=>by cases hr⟩,Nat.le_refl _,fun _=>rfl⟩
theorem Good.small{n B:Nat}{rows S:List Row}(G:Good n B rows S)(hb:∀ r∈rows,Lt B r)(hp:0<B):∀ r∈S,Lt (bnd S.length B+1) r:=by
 obtain⟨R,h1,h2,h3⟩:=G.ind
 exact zcC G.asc G.form h1 h2 (fun r hr=>G.span.iff.mpr (z0h (h3 r hr))) (fun r hr=>hb r (h3 r hr)) hp
theorem z43:∀{R:List Row} {v:Vec},Span (vecs R) v→∃ c:List Int,c.length=R.length∧∀ k,v k=mix R c k
 | [],v,s=>⟨[],rfl,s⟩
 | r::R,v,⟨c,s⟩=>by
  obtain⟨cs,h1,h2⟩:=z43 s
  refine⟨c::cs,by simp[h1],fun k=>?_⟩
  have:=h2 k
  have this:v k-c*at0 r k=mix R cs k:=this
  show v k=c*at0 r k+mix R cs k
  omega
theorem z7V{v:Row}{d:Int}:∀{R:List Row} {c:List Int},c.length=R.length→∀ k,mix (R++[v]) (c++[d]) k=mix R c k+d*at0 v k
 | [],[],_,k=>by simp[mix]
 | r::R,x::c,h,k=>by
  show x*at0 r k+mix (R++[v]) (c++[d]) k=x*at0 r k+mix R c k+d*at0 v k
  rw[z7V (R:=R) (c:=c) (by simpa using h)];omega
theorem Ind.left{R:List Row}{v:Row}(h:Ind (R++[v])):Ind R:=fun c hl hz x hx=>by
 exact h (c++[0]) (by simp[hl]) (fun k=>by rw[z7V hl,hz k];simp) x (List.mem_append.mpr (.inl hx))
theorem z9k{n:Nat}:∀{f:Nat} {S T:List Row} {u:Vec},Asc n f S→Asc n f T→T.map z00=S.map z00→(∀ r∈T,Span (vecs S) (fun k=>at0 r k))→Span (vecs S) u→∃ D:Int,D≠0∧Span (vecs T) (fun k=>D*u k)
 | f,[],[],u,_,_,_,_,s=>⟨1,by decide,fun k=>by have:=s k;show 1*u k=0;omega⟩
 | f,r::S,t::T,u,A,A',hh,hT,s=>by
  have hh':z00 t=z00 r∧T.map z00=S.map z00:=by simpa using hh
  have tz:∀{w:Vec},Span (vecs (r::S)) w→w (z00 r)=0→Span (vecs S) w:=fun{w} hw z=>by
    obtain⟨c,q⟩:=hw
    have e:=A.coef q
    have c0:c=0:=by
      rw[z]at e
      rcases Int.mul_eq_zero.mp e.symm with h|h
      · exact h
      · have:=A.2.2.2.1;omega
    subst c0
    exact Span.congr (fun k=>by simp) q
  have ht:Span (vecs (r::S)) (fun k=>at0 t k):=hT t List.mem_cons_self
  have w1:Span (vecs (r::S)) (fun k=>hd t*u k-u (z00 r)*at0 t k):=(s.smul (hd t)).sub (ht.smul (u (z00 r)))
  have w2:=tz w1 (by show hd t*u (z00 r)-u (z00 r)*at0 t (z00 r)=0;rw[←hh'.1];show hd t*_-_*hd t=0;rw[Int.mul_comm];omega)
  obtain⟨D,hD,q⟩:=z9k A.2.2.2.2 (by rw[←hh'.1];exact A'.2.2.2.2) hh'.2 (fun x hx=>tz (hT x (List.mem_cons_of_mem _ hx)) (z0m x _ (by have:=(A'.2.2.2.2.mem hx).2.1;omega))) w2
  refine⟨D*hd t,fun z=>?_,D*u (z00 r),Span.congr (fun k=>?_) q⟩
  · rcases Int.mul_eq_zero.mp z with z|z
    · exact hD z
    · have:=A'.2.2.2.1;omega
  · show D*(hd t*u k-u (z00 r)*at0 t k)=D*hd t*u k-D*u (z00 r)*at0 t k
    grind
 | f,[],t::T,u,_,_,hh,_,_=>by simp at hh
 | f,r::S,[],u,_,_,hh,_,_=>by simp at hh
theorem z2K:∀ S:List Row,(even S).length=S.length
 | []=>rfl
 | r::rs=>by rw[even,List.length_cons,List.length_cons,z2K rs]
theorem Good.step{n u B:Nat}{rows S0 S:List Row}{v:Row}(G:Good n B rows S0)(P:Post n u S0 v S):Good n B (rows++[v]) (even S):=by
  have es:=z9g P.asc
  have sp:SameSpan (vecs (v::S0)) (vecs (rows++[v])):=z3A (fun r hr=>by
      rcases List.mem_cons.mp hr with rfl|hr
      · exact z0h (List.mem_append.mpr (.inr List.mem_cons_self))
      · exact(G.span.iff.mp (z0h hr)).trans fun w hw=>by
          obtain⟨z,hz,rfl⟩:=List.mem_map.mp hw
          exact z0h (List.mem_append.mpr (.inl hz))) fun r hr=>by
      rcases List.mem_append.mp hr with hr|hr
      · exact(G.span.iff.mpr (z0h hr)).trans fun w hw=>by
          obtain⟨z,hz,rfl⟩:=List.mem_map.mp hw
          exact z0h (List.mem_cons_of_mem _ hz)
      · rcases List.mem_singleton.mp hr with rfl
        exact z0h List.mem_cons_self
  obtain⟨R,h1,h2,h3⟩:=G.ind
  have hlen:(even S).length≤(rows++[v]).length:=by
    rw[z2K,List.length_append]
    have:=G.len
    rcases P.more with h|⟨h,_⟩
    · have h:=congrArg List.length h
      simp at h ⊢
      omega
    · simp;omega
  refine⟨(z2z P.asc).1,z9f P.asc,SameSpan.trans es (P.span.trans sp),?_,hlen,fun hI=>?_⟩
  rotate_left
  · have hI0:=hI.left
    have hl0:=G.full hI0
    rcases P.more with h|⟨h,_⟩
    · exfalso
      have hv:Span (vecs S) (fun k=>at0 v k):=P.span.iff.mpr (z0h List.mem_cons_self)
      obtain⟨D,hD,q⟩:=z9k P.asc G.asc h.symm (fun r hr=>P.span.iff.mpr (z0h (List.mem_cons_of_mem _ hr))) hv
      obtain⟨c,hc,ec⟩:=z43 (G.span.iff.mp q)
      have:=hI (c++[-D]) (by simp[hc]) (fun k=>by rw[z7V hc];have:=ec k;rw[←this,Int.neg_mul];show D*at0 v k+_=0;omega) (-D) (by simp)
      omega
    · rw[z2K,h,hl0];simp
  rcases P.more with h|⟨h,r,hr,hne⟩
  · exact⟨R,h1,by have h:=congrArg List.length h;simp at h;rw[z2K,h,h2],fun r hr=>List.mem_append.mpr (.inl (h3 r hr))⟩
  · refine⟨ v::R,?_,by rw[z2K,h,List.length_cons,h2],fun r hr=>?_⟩
    · intro cs hl hz
      cases cs with
      | nil=>intro c hc;cases hc
      | cons c cs =>
        have hl':cs.length=R.length:=by simpa using hl
        have hz:∀ k,c*at0 v k+mix R cs k=0:=hz
        by_cases c0:c=0
        · subst c0
          have z:=h1 cs hl' (fun k=>by have:=hz k;omega)
          intro d hd
          rcases List.mem_cons.mp hd with rfl|hd
          · rfl
          · exact z d hd
        · exfalso
          have cv:Span (vecs S0) (fun k=>c*at0 v k):=by
            have:Span (vecs S0) (mix R cs):=z5C fun r hr=>G.span.iff.mpr (z0h (h3 r hr))
            exact Span.congr (fun k=>by have:=hz k;omega) this.neg
          have all:∀ w:Vec,Span (vecs (v::S0)) w→Span (vecs S0) (fun k=>c*w k):=fun w hw=>by
            obtain⟨d,s⟩:=hw
            have s2:=(cv.smul d).add (s.smul c)
            refine Span.congr (fun k=>?_) s2
            show d*(c*at0 v k)+c*(w k-d*at0 v k)=c*w k
            grind
          have rs:Span (vecs (v::S0)) (fun k=>at0 r k):=P.span.iff.mp (z0h hr)
          have q:=P.asc.mem hr
          obtain⟨x,hx,e⟩:=G.asc.first (h:=z00 r) (all _ rs) (fun k hk=>by show c*at0 r k=0;rw[z0m r k hk];simp) (by
            show c*hd r≠0
            intro z
            rcases Int.mul_eq_zero.mp z with z|z
            · exact c0 z
            · omega)
          exact hne x hx e
    · rcases List.mem_cons.mp hr with rfl|hr
      · exact List.mem_append.mpr (.inr List.mem_cons_self)
      · exact List.mem_append.mpr (.inl (h3 r hr))
theorem zbh{r s B:Nat}(h:r≤s)(hB:0<B)(hs:0<s):bnd r B≤bnd s B:=by
 unfold bnd
 refine Nat.mul_le_mul ?_ (Nat.pow_le_pow_right (by decide) (Nat.mul_le_mul h h))
 have h1:2*r*B≤2*s*B:=Nat.mul_le_mul_right _ (Nat.mul_le_mul_left _ h)
 have h2:0<2*s*B:=Nat.mul_pos (by omega) hB
 exact Nat.le_trans (Nat.pow_le_pow_left h1 r) (Nat.pow_le_pow_right h2 h)
theorem z4D{n:Nat}:∀{f:Nat} {S:List Row},Asc n f S→f≤n→S.length≤n-f
 | f,[],_,_=>Nat.zero_le _
 | f,r::rs,⟨h1,h2,h3,h4,h5⟩,h=>by
  have:=z4D h5 (by omega)
  rw[List.length_cons];omega
end St

end
section
set_option linter.all false
set_option maxRecDepth 100000
set_option exponentiation.threshold 3000
namespace St
open Lat
theorem zag{n f:Nat}{S:List Row}(A:Asc n f S){k:Nat}(hk:k<S.length):(S.getD k []).length=n∧f≤z00 (S.getD k [])∧z00 (S.getD k [])<n∧0<hd (S.getD k []) :=
 A.mem (by simp[List.getD,List.getElem?_eq_getElem hk])
theorem zi3{n:Nat}:∀{f:Nat} {S:List Row},Asc n f S→∀{j k:Nat},j<k→k<S.length→z00 (S.getD j [])<z00 (S.getD k [])
 | f,r::S,A,0,k+1,_,hk=>by
  have hk:k<S.length:=by simpa using hk
  have hm:S.getD k []∈S:=by simp[List.getD,List.getElem?_eq_getElem hk]
  have:=(A.2.2.2.2.mem hm).2.1
  exact this
 | f,r::S,A,j+1,k+1,hjk,hk=>by
  have:=zi3 (S:=S) A.2.2.2.2 (j:=j) (k:=k) (by omega) (by simpa using hk)
  simpa[List.getD]using this
theorem bnd30(k:Nat)(h:k≤8):bnd k (10 ^ 30)+1≤2 ^ 900:=by
 have:=zbh (B:=10 ^ 30) h (by decide) (by decide)
 have e:bnd 8 (10 ^ 30)+1≤2 ^ 900:=by unfold bnd;decide
 omega
theorem z6m{r:Row}{B:Nat}(hB:0<B)(h:∀ x∈r,x.natAbs<B):Lt B r:=fun k=>by
 unfold at0 List.getD
 by_cases hk:k<r.length
 · rw[List.getElem?_eq_getElem hk]
   exact h _ (List.getElem_mem _)
 · rw[List.getElem?_eq_none (by omega)]
   exact hB
end St

end
section
local macro_rules|`(tactic| omega)=>`(tactic| first|lia|omega +splitDisjunctions)
set_option linter.all false
set_option maxRecDepth 100000
namespace St
open Lat
theorem Asc.tz{n f:Nat}{r:Row}{S:List Row}{w:Vec}(A:Asc n f (r::S))(hw:Span (vecs (r::S)) w)(z:w (z00 r)=0):Span (vecs S) w:=by
 obtain⟨c,q⟩:=hw
 have e:=A.coef q
 have c0:c=0:=by
  rw[z]at e
  rcases Int.mul_eq_zero.mp e.symm with h|h
  · exact h
  · have:=A.2.2.2.1;omega
 subst c0
 exact Span.congr (fun k=>by simp) q
def zfR(n:Nat):Row:=List.replicate n 0
theorem zgP(n k:Nat):at0 (zfR n) k=0:=by
 unfold at0 zfR List.getD
 rw[List.getElem?_replicate]
 split<;>rfl
theorem zcD{R:List Row}(c:List Int):Span (vecs R) (mix R c):=z5C fun r hr=>z0h hr
theorem zfS{n:Nat}:∀{R:List Row} {c:List Int},(∀ r∈R,r.length=n)→∀ k,n≤k→mix R c k=0
 | [],c,_,k,_=>by simp[mix]
 | r::R,[],_,k,_=>by simp[mix]
 | r::R,x::c,h,k,hk=>by
  show x*at0 r k+mix R c k=0
  rw[zfS (fun y hy=>h y (List.mem_cons_of_mem _ hy)) k hk,z0I (by rw[h r List.mem_cons_self];exact hk)];simp
abbrev Ab(a b:Row):Prop:=0≤at0 a (z00 b)∧at0 a (z00 b)<hd b
theorem z7W{n:Nat}:∀{f:Nat} {S:List Row},Asc n f S→(Form f (z0F S)↔S.Pairwise Ab)
 | f,[],_=>by simp[z0F,Form]
 | f,r::S,A=>by
  have ih:=z7W A.2.2.2.2
  rw[List.pairwise_cons,←ih]
  constructor
  · intro F
    exact⟨fun b hb=>F.2.2.2.1 (z00 b,vec b) (List.mem_map.mpr ⟨b,hb,rfl⟩),F.2.2.2.2⟩
  · rintro⟨h1,h2⟩
    refine⟨A.2.1,fun k hk=>z0m r k hk,A.2.2.2.1,fun p hp=>?_,h2⟩
    obtain⟨b,hb,rfl⟩:=List.mem_map.mp hp
    exact h1 b hb
theorem zfT{n:Nat}:∀{S T:List Row},(∀ r∈S,r.length=n)→(∀ r∈T,r.length=n)→z0F S=z0F T→S=T
 | [],[],_,_,_=>rfl
 | [],t::T,_,_,h=>by simp[z0F]at h
 | s::S,[],_,_,h=>by simp[z0F]at h
 | s::S,t::T,hs,ht,h=>by
  have h:(z00 s,vec s)::z0F S=(z00 t,vec t)::z0F T:=h
  have h1:=(List.cons.inj h).1
  have h2:=(List.cons.inj h).2
  have e:s=t:=ext0 (by rw[hs s List.mem_cons_self,ht t List.mem_cons_self]) fun k=>congrFun (congrArg Prod.snd h1) k
  rw[e,zfT (fun r hr=>hs r (List.mem_cons_of_mem _ hr)) (fun r hr=>ht r (List.mem_cons_of_mem _ hr)) h2]
theorem zgQ{n:Nat}{S T:List Row}(A:Asc n 0 S)(F:Form 0 (z0F S))(A':Asc n 0 T)(F':Form 0 (z0F T))(h:SameSpan (vecs S) (vecs T)):S=T:=by
 refine zfT (n:=n) (fun r hr=>(A.mem hr).1) (fun r hr=>(A'.mem hr).1) (Form.unique F F' ?_)
 rw[z9j,z9j];exact h
theorem z1M{n:Nat}{a b:Row}(h:a.length=n)(k:Nat):at0 (a++b) k=if k<n then at0 a k else at0 b (k-n):=by
 subst h
 unfold at0 List.getD
 rw[List.getElem?_append]
 split<;>rfl
theorem z1J(r:Row)(n k:Nat):at0 (r.take n) k=if k<n then at0 r k else 0:=by
 unfold at0 List.getD
 rw[List.getElem?_take]
 split<;>rfl
theorem z2n(r:Row)(n k:Nat):at0 (r.drop n) k=at0 r (n+k):=by
 unfold at0 List.getD
 rw[List.getElem?_drop]
def z5D(m j:Nat):Row:=(List.range m).map fun k=>if k=j then 1 else 0
theorem zbi(m j k:Nat):at0 (z5D m j) k=if k=j∧k<m then 1 else 0:=by
 unfold at0 z5D List.getD
 rw[List.getElem?_map]
 by_cases hk:k<m
 · rw[List.getElem?_range hk];simp[hk]
 · rw[List.getElem?_eq_none (by simpa using hk)];simp[hk]
def tagF(m:Nat):Nat→List Row→List Row
 | _,[]=>[]
 | s,b::bs=>(b++z5D m s)::tagF m (s+1) bs
abbrev z7X(bills:List Row):List Row:=tagF bills.length 0 bills
theorem z5E(m:Nat):∀(s:Nat) (bs:List Row),(tagF m s bs).length=bs.length
 | s,[]=>rfl
 | s,b::bs=>by rw[tagF,List.length_cons,List.length_cons,z5E]
theorem zbj(m:Nat):∀{s:Nat} {bs:List Row} {b:Row},b∈bs→∃ j,b++z5D m j∈tagF m s bs
 | s,_::bs,b,.head _=>⟨s,List.mem_cons_self⟩
 | s,_::bs,b,.tail _ h=>by
  obtain⟨j,hj⟩:=zbj m (s:=s+1) h
  exact⟨j,List.mem_cons_of_mem _ hj⟩
theorem z44{n m:Nat}:∀{s:Nat} {bs:List Row} {c:List Int} {k:Nat},(∀ b∈bs,b.length=n)→k<n→mix (tagF m s bs) c k=mix bs c k
 | s,[],c,k,_,_=>by simp[tagF,mix]
 | s,b::bs,[],k,_,_=>by simp[tagF,mix]
 | s,b::bs,x::c,k,h,hk=>by
  show x*at0 (b++z5D m s) k+mix (tagF m (s+1) bs) c k=x*at0 b k+mix bs c k
  rw[z44 (fun y hy=>h y (List.mem_cons_of_mem _ hy)) hk,z1M (h b List.mem_cons_self),if_pos hk]
theorem z5F{n m:Nat}:∀{s:Nat} {bs:List Row} {c:List Int} {i:Nat},(∀ b∈bs,b.length=n)→c.length=bs.length→s+bs.length≤m→mix (tagF m s bs) c (n+i)=if s≤i∧i<s+bs.length then at0 c (i-s) else 0
 | s,[],[],i,_,_,_=>by simp[tagF,mix];intros;omega
 | s,b::bs,x::c,i,h,hl,hs=>by
  have ih:=z5F (n:=n) (m:=m) (s:=s+1) (bs:=bs) (c:=c) (i:=i) (fun y hy=>h y (List.mem_cons_of_mem _ hy)) (by simpa using hl) (by simp at hs;omega)
  show x*at0 (b++z5D m s) (n+i)+mix (tagF m (s+1) bs) c (n+i)=_
  rw[ih,z1M (h b List.mem_cons_self),if_neg (by omega),zbi,show n+i-n=i by omega]
  have hlen:(b::bs).length=bs.length+1:=rfl
  rw[hlen]
  have hm:s<m:=by simp at hs;omega
  by_cases h1:i=s
  · subst h1
    rw[if_pos ⟨rfl,hm⟩,if_neg (by omega),if_pos (by omega)]
    simp[at0]
  · rw[if_neg (by omega)]
    by_cases h2:s+1≤i∧i<s+1+bs.length
    · rw[if_pos h2,if_pos (by omega)]
      have:i-s=(i-(s+1))+1:=by omega
      rw[this]
      simp[at0]
    · rw[if_neg h2,if_neg (by omega)];simp
theorem z7Y{n:Nat}{bills:List Row}{c:List Int}(h:∀ b∈bills,b.length=n)(hl:c.length=bills.length)(i:Nat):mix (z7X bills) c (n+i)=at0 c i:=by
 rw[z5F h hl (by omega)]
 split
 · simp
 · rw[z0I (by omega)]
theorem zcE{n:Nat}{bills:List Row}(h:∀ b∈bills,b.length=n):Ind (z7X bills):=fun c hl hz x hx=>by
 rw[z5E]at hl
 obtain⟨i,hi,e⟩:=List.mem_iff_getElem.mp hx
 have:=hz (n+i)
 rw[z7Y h hl]at this
 rw[←e]
 simpa[at0,List.getD,List.getElem?_eq_getElem hi]using this
theorem zi4{n:Nat}{bills:List Row}{u:Row}(h:∀ b∈bills,b.length=n)(hu:u.length=n+bills.length):Span (vecs (z7X bills)) (fun k=>at0 u k)↔∀ k,k<n→at0 u k=mix bills (u.drop n) k:=by
 have hd:(u.drop n).length=bills.length:=by rw[List.length_drop];omega
 constructor
 · intro s k hk
   obtain⟨c,hc,e⟩:=z43 s
   rw[z5E]at hc
   have:c=u.drop n:=ext0 (by rw[hc,hd]) fun i=>by
     rw[z2n,←z7Y h hc i]
     exact(e (n+i)).symm
   have e1:=e k
   rw[z44 h hk,this]at e1
   exact e1
 · intro q
   refine Span.congr (fun k=>?_) (zcD (u.drop n))
   by_cases hk:k<n
   · rw[z44 h hk,q k hk]
   · have:k=n+(k-n):=by omega
     rw[this,z7Y h hd,z2n]
theorem z53{N n:Nat}:∀{f:Nat} {S:List Row},Asc N f S→S=S.filter (fun r=>decide (z00 r<n))++S.filter (fun r=>!decide (z00 r<n))
 | f,[],_=>rfl
 | f,r::S,A=>by
  have ih:=z53 (n:=n) A.2.2.2.2
  by_cases h:z00 r<n
  · rw[List.filter_cons,List.filter_cons]
    simp only[h,decide_true,if_true,Bool.not_true,Bool.false_eq_true,if_false]
    rw[List.cons_append,←ih]
  · have e:S.filter (fun r=>decide (z00 r<n))=[]:=List.filter_eq_nil_iff.mpr fun x hx=>by have:=(A.2.2.2.2.mem hx).2.1;simp;omega
    rw[e,List.nil_append]at ih
    rw[List.filter_cons,List.filter_cons]
    simp only[h,decide_false,Bool.not_false,if_true,Bool.false_eq_true,if_false]
    rw[e,List.nil_append,←ih]
def tops(n:Nat)(S:List Row):List Row:=(S.filter fun r=>decide (z00 r<n)).map (·.take n)
def bots(n:Nat)(S:List Row):List Row:=(S.filter fun r=>!decide (z00 r<n)).map (·.drop n)
theorem z6n{r:Row}{n:Nat}(h:z00 r<n)(hl:z00 r<r.length):z00 (r.take n)=z00 r:=z1w _ _ (fun k hk=>by rw[z1J,if_pos (by omega)];exact z0m r k hk) (by rw[z1J,if_pos h];exact z3h r hl)
theorem z6o{r:Row}{n:Nat}(h:n≤z00 r)(hl:z00 r<r.length):z00 (r.drop n)=z00 r-n:=z1w _ _ (fun k hk=>by rw[z2n];exact z0m r _ (by omega)) (by rw[z2n,show n+(z00 r-n)=z00 r by omega];exact z3h r hl)
section
variable {n N:Nat}{S:List Row}
theorem z5G(A:Asc N 0 S)(hN:n≤N):Asc n 0 (tops n S)∧(tops n S).length=(S.filter fun r=>decide (z00 r<n)).length:=by
 have Q:=Asc.iff.mp A
 refine⟨Asc.iff.mpr ⟨fun x hx=>?_,?_⟩,by unfold tops;simp⟩
 · obtain⟨r,hr,rfl⟩:=List.mem_map.mp hx
   obtain⟨hr,hd'⟩:=List.mem_filter.mp hr
   have hd':z00 r<n:=by simpa using hd'
   have q:=Q.1 r hr
   have e:=z6n hd' (by omega)
   refine⟨by rw[List.length_take];omega,Nat.zero_le _,by rw[e];exact hd',?_⟩
   unfold hd
   rw[e,z1J,if_pos hd']
   exact q.2.2.2
 · have e:(tops n S).map z00=(S.filter fun r=>decide (z00 r<n)).map z00:=by
    unfold tops
    rw[List.map_map]
    apply List.map_congr_left
    intro r hr
    obtain⟨hr,hd'⟩:=List.mem_filter.mp hr
    exact z6n (by simpa using hd') (by have:=Q.1 r hr;omega)
   rw[e]
   exact Q.2.sublist (List.filter_sublist.map _)
theorem z6p(A:Asc N 0 S)(F:Form 0 (z0F S))(hN:n≤N):Form 0 (z0F (tops n S)):=by
 have Q:=Asc.iff.mp A
 rw[z7W (z5G A hN).1]
 have P:=(z7W A).mp F
 unfold tops
 rw[List.pairwise_map]
 refine List.Pairwise.imp_of_mem (fun{a b} ha hb h=>?_) (P.sublist List.filter_sublist)
 obtain⟨hb,hd'⟩:=List.mem_filter.mp hb
 have hd':z00 b<n:=by simpa using hd'
 have e:=z6n hd' (by have:=Q.1 b hb;omega)
 unfold Ab hd at *
 rw[e,z1J,if_pos hd',z1J,if_pos hd']
 exact h
theorem zi5(A:Asc N 0 S){m:Nat}(hN:N=n+m):Asc m 0 (bots n S):=by
 have Q:=Asc.iff.mp A
 refine Asc.iff.mpr ⟨fun x hx=>?_,?_⟩
 · obtain⟨r,hr,rfl⟩:=List.mem_map.mp hx
   obtain⟨hr,hd'⟩:=List.mem_filter.mp hr
   have hd':n≤z00 r:=by simpa using hd'
   have q:=Q.1 r hr
   have e:=z6o hd' (by omega)
   refine⟨by rw[List.length_drop];omega,Nat.zero_le _,by rw[e];omega,?_⟩
   unfold hd
   rw[e,z2n,show n+(z00 r-n)=z00 r by omega]
   exact q.2.2.2
 · unfold bots
   rw[List.map_map,List.pairwise_map]
   have P:=(List.pairwise_map.mp Q.2).sublist (List.filter_sublist (p:=fun r=>!decide (z00 r<n)))
   refine List.Pairwise.imp_of_mem (fun{a b} ha hb h=>?_) P
   obtain⟨ha,ha'⟩:=List.mem_filter.mp ha
   obtain⟨hb,hb'⟩:=List.mem_filter.mp hb
   have ha':n≤z00 a:=by simpa using ha'
   have hb':n≤z00 b:=by simpa using hb'
   show z00 (a.drop n)<z00 (b.drop n)
   rw[z6o ha' (by have:=Q.1 a ha;omega),z6o hb' (by have:=Q.1 b hb;omega)]
   omega
theorem z9l(A:Asc N 0 S){v:Vec}(s:Span (vecs S) v):Span (vecs (tops n S)) (fun k=>if k<n then v k else 0):=by
 refine Span.least (P:=fun v=>Span (vecs (tops n S)) (fun k=>if k<n then v k else 0)) ?_ (fun v w hv hw=>?_) (fun c v hv=>?_) (fun x hx=>?_) s
 · exact Span.congr (fun k=>by split<;>rfl) Span.zero
 · exact Span.congr (fun k=>by split<;>rfl) (hv.add hw)
 · refine Span.congr (fun k=>?_) (hv.smul c)
   split
   · rfl
   · simp
 · obtain⟨r,hr,rfl⟩:=List.mem_map.mp hx
   by_cases h:z00 r<n
   · have hm:r.take n∈tops n S:=List.mem_map.mpr ⟨r,List.mem_filter.mpr ⟨hr,by simpa using h⟩,rfl⟩
     exact Span.congr (fun k=>z1J r n k) (z0h hm)
   · refine Span.congr (fun k=>?_) Span.zero
     split
     · rw[show vec r k=0 from z0m r k (by omega)]
     · rfl
theorem zbk{N:Nat}:∀{f:Nat} {T B:List Row} {v:Vec},Asc N f (T++B)→Span (vecs (T++B)) v→(∀ r∈T,v (z00 r)=0)→Span (vecs B) v
 | f,[],B,v,_,s,_=>s
 | f,r::T,B,v,A,s,h=>zbk (T:=T) A.2.2.2.2 (A.tz s (h r List.mem_cons_self)) fun x hx=>h x (List.mem_cons_of_mem _ hx)
theorem zgR(A:Asc N 0 S){v:Vec}(s:Span (vecs S) v)(z:∀ k,k<n→v k=0):Span (vecs (bots n S)) (fun k=>v (n+k)):=by
 have e:=z53 (n:=n) A
 have A':=A
 rw[e]at A' s
 have s2:=zbk A' s fun r hr=>z _ (by simpa using(List.mem_filter.mp hr).2)
 refine Span.least (P:=fun v=>Span (vecs (bots n S)) (fun k=>v (n+k))) Span.zero (fun v w hv hw=>hv.add hw) (fun c v hv=>hv.smul c) (fun x hx=>?_) s2
 obtain⟨r,hr,rfl⟩:=List.mem_map.mp hx
 exact Span.congr (fun k=>z2n r n k) (z0h (List.mem_map.mpr ⟨r,hr,rfl⟩))
theorem zgS(A:Asc N 0 S){w:Vec}(s:Span (vecs (bots n S)) w):Span (vecs S) (fun k=>if k<n then 0 else w (k-n)):=by
 refine Span.least (P:=fun w=>Span (vecs S) (fun k=>if k<n then 0 else w (k-n))) ?_ (fun v w hv hw=>?_) (fun c v hv=>?_) (fun x hx=>?_) s
 · exact Span.congr (fun k=>by split<;>rfl) Span.zero
 · exact Span.congr (fun k=>by split<;>rfl) (hv.add hw)
 · refine Span.congr (fun k=>?_) (hv.smul c)
   split
   · simp
   · rfl
 · obtain⟨r',hr',rfl⟩:=List.mem_map.mp hx
   obtain⟨r,hr1,rfl⟩:=List.mem_map.mp hr'
   obtain⟨hr,h⟩:=List.mem_filter.mp hr1
   have h:n≤z00 r:=by simpa using h
   refine Span.congr (fun k=>?_) (z0h hr)
   split
   · rw[z0m r k (by omega)]
   · show at0 r k=at0 (r.drop n) (k-n)
     rw[z2n,show n+(k-n)=k by omega]
end
structure Tag(n:Nat)(bills S:List Row):Prop where
 wide:∀ b∈bills,b.length=n
 asc:Asc (n+bills.length) 0 S
 form:Form 0 (z0F S)
 span:SameSpan (vecs S) (vecs (z7X bills))
 full:S.length=bills.length
theorem Good.tag{n B:Nat}{bills S:List Row}(h:∀ b∈bills,b.length=n)(G:Good (n+bills.length) B (z7X bills) S):Tag n bills S :=
 ⟨h,G.asc,G.form,G.span,by rw[G.full (zcE h),z5E]⟩
theorem Tag.rung{n:Nat}{bills S:List Row}(t:Tag n bills S){r:Row}(hr:r∈S):∀ k,k<n→at0 r k=mix bills (r.drop n) k :=
 (zi4 t.wide (t.asc.mem hr).1).mp (t.span.iff.mp (z0h hr))
theorem Tag.top_span{n:Nat}{bills S:List Row}(t:Tag n bills S):SameSpan (vecs (tops n S)) (vecs bills):=z3A (fun x hx=>by
 obtain⟨r,hr,rfl⟩:=List.mem_map.mp hx
 obtain⟨hr,_⟩:=List.mem_filter.mp hr
 refine Span.congr (fun k=>?_) (zcD (R:=bills) (r.drop n))
 rw[z1J]
 split
 · rename_i hk;exact(t.rung hr k hk).symm
 · rename_i hk;exact zfS t.wide k (by omega)) fun b hb=>by
 obtain⟨j,hj⟩:=zbj bills.length (s:=0) hb
 have s:=z9l (n:=n) t.asc (t.span.iff.mpr (z0h hj))
 refine Span.congr (fun k=>?_) s
 rw[z1M (t.wide b hb)]
 by_cases hk:k<n
 · rw[if_pos hk,if_pos hk]
 · rw[if_neg hk,z0I (by rw[t.wide b hb];omega)]
theorem Tag.top{n:Nat}{bills S T:List Row}(t:Tag n bills S)(A:Asc n 0 T)(F:Form 0 (z0F T))(s:SameSpan (vecs T) (vecs bills)):tops n S=T :=
 zgQ (z5G t.asc (by omega)).1 (z6p t.asc t.form (by omega)) A F (t.top_span.trans s.symm)
end St

end
section
local macro_rules|`(tactic| omega)=>`(tactic| first|lia|omega +splitDisjunctions)
set_option linter.all false
set_option maxRecDepth 100000
namespace St
open Lat
theorem z3B{B:List Row}{i:Nat}(h:i<B.length):B.getD i []∈B:=by simp[List.getD,List.getElem?_eq_getElem h]
end St
namespace St
open Lat
theorem Asc.small{n:Nat}:∀{f:Nat} {S:List Row} {u:Vec},Asc n f S→Span (vecs S) u→(∀ r∈S,-(hd r)<u (z00 r)∧u (z00 r)<hd r)→∀ k,u k=0
 | f,[],u,_,s,_=>s
 | f,r::S,u,A,s,h=>by
  have hr:=h r List.mem_cons_self
  have z:u (z00 r)=0:=by
   obtain⟨c,q⟩:=s
   have e:=A.coef q
   have c0:c=0:=z4R e A.2.2.2.1 hr.1 hr.2
   rw[e,c0];simp
  exact A.2.2.2.2.small (A.tz s z) fun x hx=>h x (List.mem_cons_of_mem _ hx)
theorem zgT{n:Nat}{S:List Row}{u v:Row}(A:Asc n 0 S)(hu:u.length=n)(hv:v.length=n)(s:Span (vecs S) (fun k=>at0 u k-at0 v k))(h1:∀ r∈S,0≤at0 u (z00 r)∧at0 u (z00 r)<hd r)(h2:∀ r∈S,0≤at0 v (z00 r)∧at0 v (z00 r)<hd r):u=v:=by
 refine ext0 (by omega) fun k=>?_
 have:=A.small s (fun r hr=>by have:=h1 r hr;have:=h2 r hr;omega) k
 omega
theorem zbl{n:Nat}{S:List Row}{u v:Row}(A:Asc n 0 S)(hu:u.length=n)(hv:v.length=n)(s:Span (vecs S) (fun k=>at0 u k-at0 v k)):z0c u S=z0c v S:=by
 refine zgT A (z2J A hu) (z2J A hv) ?_ (z1Q A hu) (z1Q A hv)
 have s1:=z1m A hu
 have s2:=z1m A hv
 exact Span.congr (fun k=>by omega) ((s.sub s1).add s2)
end St

end
section
set_option linter.all false
set_option maxRecDepth 100000
namespace St
open Lat
def ordR(b:Row)(bills:List Row):List Row:=(b++[1])::bills.map (·++[0])
theorem zli(r:Row):vec (r++[0])=vec r:=funext fun k=>by
 show at0 (r++[0]) k=at0 r k
 rw[z1M rfl]
 split
 · rfl
 · rename_i h
   rw[z0I (r:=r) (by omega)]
   unfold at0
   cases k-r.length with
   | zero=>rfl
   | succ j=>rfl
theorem zi6(bills:List Row):vecs (bills.map (·++[0]))=vecs bills:=by
 show List.map vec (List.map _ bills)=List.map vec bills
 rw[List.map_map]
 exact List.map_congr_left fun r _=>zli r
theorem zi7{n:Nat}{bills:List Row}(hw:∀ r∈bills,r.length=n){v:Vec}(s:Span (vecs bills) v):∀ k,n≤k→v k=0 :=
 Span.least (P:=fun v=>∀ k,n≤k→v k=0) (fun _ _=>rfl) (fun v w h1 h2 k hk=>by show v k+w k=0;rw[h1 k hk,h2 k hk];rfl) (fun c v h k hk=>by show c*v k=0;rw[h k hk,Int.mul_zero]) (fun r hr=>by
  obtain⟨x,hx,rfl⟩:=List.mem_map.mp hr
  intro k hk
  exact z0I (by rw[hw x hx];exact hk)) s
def Ty(bills:List Row)(b:Row)(t:Int):Prop:=Span (vecs bills) (fun k=>t*at0 b k)
theorem zi8{n:Nat}{b:Row}{bills:List Row}(hb:b.length=n)(hw:∀ r∈bills,r.length=n)(t:Int):Span (vecs (ordR b bills)) (fun k=>if k=n then t else 0)↔Ty bills b t:=by
 have e:vecs (ordR b bills)=vec (b++[1])::vecs bills:=by
   show vec (b++[1])::List.map vec _=_
   congr 1
   exact zi6 bills
 have hv:∀ k,vec (b++[1]) k=if k<n then at0 b k else if k=n then 1 else 0:=fun k=>by
   show at0 (b++[1]) k=_
   rw[z1M hb]
   split
   · rfl
   · rename_i h
     by_cases z:k=n
     · rw[if_pos z,z,Nat.sub_self];rfl
     · rw[if_neg z,z0I (by simp;omega)]
 rw[e]
 constructor
 · rintro⟨c,s⟩
   have z:=zi7 hw s n (Nat.le_refl n)
   have hc:c=t:=by
     have z:(if n=n then t else 0)-c*vec (b++[1]) n=0:=z
     rw[hv,if_pos rfl,if_neg (Nat.lt_irrefl n),if_pos rfl]at z
     omega
   subst hc
   refine Span.congr (fun k=>?_) s.neg
   show -((if k=n then c else 0)-c*vec (b++[1]) k)=c*at0 b k
   rw[hv]
   by_cases h:k<n
   · rw[if_neg (by omega),if_pos h];omega
   · rw[if_neg h,z0I (r:=b) (by omega)]
     by_cases z:k=n
     · rw[if_pos z,if_pos z];omega
     · rw[if_neg z,if_neg z];omega
 · intro s
   refine⟨t,Span.congr (fun k=>?_) s.neg⟩
   show -(t*at0 b k)=(if k=n then t else 0)-t*vec (b++[1]) k
   rw[hv]
   by_cases h:k<n
   · rw[if_neg (show ¬k=n by omega),if_pos h];omega
   · rw[if_neg h,z0I (r:=b) (by omega)]
     by_cases z:k=n
     · rw[if_pos z,if_pos z];omega
     · rw[if_neg z,if_neg z];omega
def IsOrd(bills:List Row)(b:Row):Option Int→Prop
 | none=>∀ t,Ty bills b t→t=0
 | some m=>0<m∧∀ t,Ty bills b t↔m∣t
theorem zi9{n:Nat}{b:Row}{bills S:List Row}(hb:b.length=n)(hw:∀ r∈bills,r.length=n)(A:Asc (n+1) 0 S)(ss:SameSpan (vecs S) (vecs (ordR b bills))):
  (bots n S=[]∧IsOrd bills b none)∨∃ m,bots n S=[[m]]∧IsOrd bills b (some m):=by
 have key:∀ t,Ty bills b t↔Span (vecs (bots n S)) (fun k=>if k=0 then t else 0):=fun t=>by
  rw[←zi8 hb hw t,←ss.iff]
  constructor
  · intro s
    refine Span.congr (fun k=>?_) (zgR (n:=n) A s fun k hk=>by rw[if_neg (by omega)])
    by_cases h:k=0
    · rw[if_pos (by omega),if_pos h]
    · rw[if_neg (by omega),if_neg h]
  · intro s
    refine Span.congr (fun k=>?_) (zgS (n:=n) A s)
    by_cases h:k<n
    · rw[if_pos h,if_neg (by omega)]
    · rw[if_neg h]
      by_cases z:k=n
      · rw[if_pos z,if_pos (by omega)]
      · rw[if_neg z,if_neg (by omega)]
 have B:=zi5 (n:=n) A (m:=1) rfl
 match h:bots n S,B,z4D B (Nat.zero_le _) with
 | [],_,_ =>
  refine .inl ⟨rfl,fun t ht=>?_⟩
  have:=(key t).mp ht
  rw[h]at this
  have:=this 0
  simpa using this
 | [r],B,_ =>
  obtain⟨h1,h2,h3,h4,_⟩:=B
  obtain⟨m,rfl⟩:∃ m,r=[m]:=by
    match r,h1 with
    | [m],_=>exact⟨m,rfl⟩
  have hm:0<m:=by
    unfold hd at h4
    have e:z00 [m]=0:=by omega
    rw[e]at h4
    exact h4
  refine .inr ⟨m,rfl,hm,fun t=>?_⟩
  rw[key,h]
  constructor
  · rintro⟨c,s⟩
    have:=s 0
    have this:(if 0=0 then t else 0)-c*m=0:=this
    rw[if_pos rfl]at this
    exact⟨c,by rw[Int.mul_comm];omega⟩
  · rintro⟨c,rfl⟩
    refine⟨c,fun k=>?_⟩
    show(if k=0 then m*c else 0)-c*at0 [m] k=0
    by_cases z:k=0
    · rw[if_pos z,z]
      show m*c-c*m=0
      rw[Int.mul_comm];omega
    · rw[if_neg z,z0I (by simp;omega)];omega
 | _::_::_,_,hl=>exact absurd hl (by simp)
theorem IsOrd.one{bills:List Row}{b:Row}{o p:Option Int}(h:IsOrd bills b o)(g:IsOrd bills b p):o=p:=by
 match o,p,h,g with
 | none,none,_,_=>rfl
 | none,some m,h,⟨g1,g2⟩=>have:=h m ((g2 m).mpr (Int.dvd_refl m));omega
 | some m,none,⟨h1,h2⟩,g=>have:=g m ((h2 m).mpr (Int.dvd_refl m));omega
 | some m,some k,⟨h1,h2⟩,⟨g1,g2⟩ =>
  have a:=(g2 m).mp ((h2 m).mpr (Int.dvd_refl m))
  have b:=(h2 k).mp ((g2 k).mpr (Int.dvd_refl k))
  congr 1
  exact Int.dvd_antisymm (by omega) (by omega) b a
theorem IsOrd.times{bills:List Row}{b b':Row}{m c p:Int}(h:IsOrd bills b (some m))(hb:∀ k,at0 b' k=c*at0 b k)(hp:0<p)(hd:∀ t,m∣t*c↔p∣t):IsOrd bills b' (some p):=by
 refine⟨hp,fun t=>?_⟩
 rw[←hd,←h.2]
 unfold Ty
 constructor
 · exact fun s=>Span.congr (fun k=>by rw[hb,Int.mul_assoc]) s
 · exact fun s=>Span.congr (fun k=>by rw[hb,Int.mul_assoc]) s
end St

end
section
set_option linter.all false
set_option maxRecDepth 100000
namespace St
def Pr(p:Nat):Prop:=2≤p∧∀ d,2≤d→d<p→¬d∣p
theorem Pr.cop{p q:Nat}(hp:Pr p)(hq:Pr q)(h:p≠q):Nat.Coprime p q:=by
 have g1:=Nat.gcd_dvd_left p q
 have g2:=Nat.gcd_dvd_right p q
 have p0:0<p:=by have:=hp.1;omega
 have q0:0<q:=by have:=hq.1;omega
 have hg:=Nat.gcd_pos_of_pos_left q p0
 show Nat.gcd p q=1
 generalize Nat.gcd p q=g at *
 by_cases z:g=1
 · exact z
 · have l1:=Nat.le_of_dvd p0 g1
   have l2:=Nat.le_of_dvd q0 g2
   by_cases e:g=p
   · subst e
     by_cases e2:g=q
     · exact absurd e2 h
     · exact absurd g2 (hq.2 g (by omega) (by omega))
   · exact absurd g1 (hp.2 g (by omega) (by omega))
def z1j(fs:List (Nat×Nat)):Nat:=(fs.map (·.2)).foldl (·*·) 1
theorem zgU(xs:List Nat):∀ t:Nat,xs.foldl (·*·) t=t*xs.foldl (·*·) 1:=by
 induction xs with
 | nil=>intro t;simp
 | cons x xs ih=>intro t;rw[List.foldl_cons,List.foldl_cons,ih (t*x),ih (1*x),Nat.one_mul,Nat.mul_assoc]
theorem z1S:z1j []=1:=rfl
theorem z12(x:Nat×Nat)(fs:List (Nat×Nat)):z1j (x::fs)=x.2*z1j fs:=by
 unfold z1j
 rw[List.map_cons,List.foldl_cons,zgU,Nat.one_mul]
theorem z3i(fs gs:List (Nat×Nat)):z1j (fs++gs)=z1j fs*z1j gs:=by
 induction fs with
 | nil=>rw[List.nil_append,z1S,Nat.one_mul]
 | cons x fs ih=>rw[List.cons_append,z12,z12,ih,Nat.mul_assoc]
def PrW(x:Nat×Nat):Prop:=Pr x.1∧∃ e,x.2=x.1 ^ (e+1)
structure PPs(N p l:Nat)(fs:List (Nat×Nat)):Prop where
 lpos:0<l
 p2:2≤p
 nod:∀ d,2≤d→d<p→¬d∣l
 prod:z1j fs*l=N
 each:∀ x∈fs,PrW x∧x.1<p
 sort:fs.Pairwise fun x y=>x.1<y.1
theorem PPs.start{N:Nat}(h:0<N):PPs N 2 N []:=⟨h,Nat.le_refl 2,fun d h1 h2=>by omega,by rw[z1S,Nat.one_mul],fun x hx=>by(cases hx),.nil⟩
theorem PPs.le{N p l:Nat}{fs:List (Nat×Nat)}(P:PPs N p l fs)(h:1<l):p≤l:=by
 by_cases z:p≤l
 · exact z
 · exact absurd (Nat.dvd_refl l) (P.nod l (by omega) (by omega))
theorem PPs.leN{N p l:Nat}{fs:List (Nat×Nat)}(P:PPs N p l fs)(h:0<N):l≤N:=by
 have:l∣N:=⟨z1j fs,by rw[Nat.mul_comm];exact P.prod.symm⟩
 exact Nat.le_of_dvd h this
theorem PPs.last{N p l:Nat}{fs:List (Nat×Nat)}(P:PPs N p l fs)(h:1<l)(h2:l<p*p):Pr l:=by
 refine⟨by omega,fun d h3 h4 ⟨c,hc⟩=>?_⟩
 have a:¬d<p:=fun z=>P.nod d h3 z ⟨c,hc⟩
 have c2:2≤c:=by
  match c,hc with
  | 0,hc=>simp at hc;omega
  | 1,hc=>simp at hc;omega
  | c+2,_=>omega
 have b:¬c<p:=fun z=>P.nod c c2 z ⟨d,by rw[Nat.mul_comm];exact hc⟩
 have:p*p≤d*c:=Nat.mul_le_mul (by omega) (by omega)
 omega
theorem PPs.first{N p l:Nat}{fs:List (Nat×Nat)}(P:PPs N p l fs)(h:p∣l):Pr p :=
 ⟨P.p2,fun d h1 h2 h3=>P.nod d h1 h2 (Nat.dvd_trans h3 h)⟩
theorem PPs.take{N p l l' e:Nat}{fs:List (Nat×Nat)}(P:PPs N p l fs)(hp:Pr p)(he:l=p ^ (e+1)*l')(hn:¬p∣l'):PPs N (p+1) l' (fs++[(p,p ^ (e+1))]):=by
 have hl:l'∣l:=⟨p ^ (e+1),by rw[Nat.mul_comm];exact he⟩
 refine⟨?_,by have:=hp.1;omega,fun d h1 h2 h3=>?_,?_,fun x hx=>?_,?_⟩
 · rcases Nat.eq_zero_or_pos l' with z|z
   · rw[z,Nat.mul_zero]at he;have:=P.lpos;omega
   · exact z
 · by_cases z:d=p
   · subst z;exact hn h3
   · exact P.nod d h1 (by omega) (Nat.dvd_trans h3 hl)
 · rw[z3i,z12,z1S,Nat.mul_one,Nat.mul_assoc,←he];exact P.prod
 · rcases List.mem_append.mp hx with h|h
   · obtain⟨a,b⟩:=P.each x h;exact⟨a,by omega⟩
   · rw[List.mem_singleton.mp h];exact⟨⟨hp,e,rfl⟩,by show p<p+1;omega⟩
 · rw[List.pairwise_append]
   exact⟨P.sort,List.pairwise_singleton _ _,fun x hx y hy=>by rw[List.mem_singleton.mp hy];exact(P.each x hx).2⟩
theorem PPs.skip{N p l:Nat}{fs:List (Nat×Nat)}(P:PPs N p l fs)(hn:¬p∣l):PPs N (p+1) l fs :=
 ⟨P.lpos,by have:=P.p2;omega,fun d h1 h2 h3=>by
  by_cases z:d=p
  · subst z;exact hn h3
  · exact P.nod d h1 (by omega) h3,P.prod,fun x hx=>by obtain⟨a,b⟩:=P.each x hx;exact⟨a,by omega⟩,P.sort⟩
theorem PPs.skipTo{N p l:Nat}{fs:List (Nat×Nat)}(P:PPs N p l fs)(h:1<l)(hp:Pr l):PPs N (l+1) 1 (fs++[(l,l)]):=by
 refine⟨by omega,by omega,fun d h1 h2 h3=>?_,?_,fun x hx=>?_,?_⟩
 · have:=Nat.le_of_dvd (by omega) h3;omega
 · rw[z3i,z12,z1S,Nat.mul_one,Nat.mul_one];exact P.prod
 · have hpl:=P.le h
   rcases List.mem_append.mp hx with h|h
   · obtain⟨a,b⟩:=P.each x h;exact⟨a,by omega⟩
   · rw[List.mem_singleton.mp h];exact⟨⟨hp,0,by simp⟩,by show l<l+1;omega⟩
 · rw[List.pairwise_append]
   exact⟨P.sort,List.pairwise_singleton _ _,fun x hx y hy=>by rw[List.mem_singleton.mp hy];have:=(P.each x hx).2;have:=P.le h;show x.1<l;omega⟩
structure PPd(N:Nat)(fs:List (Nat×Nat)):Prop where
 prod:z1j fs=N
 each:∀ x∈fs,PrW x
 sort:fs.Pairwise fun x y=>x.1<y.1
theorem PPs.done{N p l:Nat}{fs:List (Nat×Nat)}(P:PPs N p l fs)(h:¬1<l):PPd N fs:=by
 have e:l=1:=by have:=P.lpos;omega
 have:=P.prod
 rw[e,Nat.mul_one]at this
 exact⟨this,fun x hx=>(P.each x hx).1,P.sort⟩
theorem z7Z{w:Nat}:∀{fs:List (Nat×Nat)},(∀ y∈fs,Nat.Coprime y.2 w)→Nat.Coprime (z1j fs) w
 | [],_=>by rw[z1S];exact Nat.gcd_one_left w
 | y::fs,h=>by rw[z12];exact Nat.Coprime.mul_left (h y List.mem_cons_self) (z7Z fun z hz=>h z (List.mem_cons_of_mem _ hz))
theorem zfU{x y:Nat×Nat}(hx:PrW x)(hy:PrW y)(h:x.1≠y.1):Nat.Coprime x.2 y.2:=by
 obtain⟨p1,e,h1⟩:=hx
 obtain⟨p2,f,h2⟩:=hy
 rw[h1,h2]
 exact Nat.Coprime.pow _ _ (p1.cop p2 h)
theorem PPd.cop{N:Nat}{fs:List (Nat×Nat)}(P:PPd N fs){x:Nat×Nat}(hx:x∈fs):∃ o,N=x.2*o∧Nat.Coprime o x.2∧∀ y∈fs,y≠x→y.2∣o:=by
 obtain⟨as,bs,rfl⟩:=List.append_of_mem hx
 have e:=P.prod
 rw[z3i,z12]at e
 have so:=P.sort
 rw[List.pairwise_append]at so
 obtain⟨s1,s2,s3⟩:=so
 obtain⟨s4,s5⟩:=List.pairwise_cons.mp s2
 have ne:∀ y,y∈as∨y∈bs→y.1≠x.1:=fun y hy=>by
   rcases hy with hy|hy
   · have:=s3 y hy x List.mem_cons_self;omega
   · have:=s4 y hy;omega
 have mem:∀ y,y∈as∨y∈bs→y∈as++x::bs:=fun y hy=>by
   rcases hy with hy|hy
   · exact List.mem_append_left _ hy
   · exact List.mem_append_right _ (List.mem_cons_of_mem _ hy)
 refine⟨z1j as*z1j bs,by rw[←e,Nat.mul_left_comm],?_,fun y hy hne=>?_⟩
 · rw[←z3i]
   exact z7Z fun y hy=>zfU (P.each y (mem y (List.mem_append.mp hy))) (P.each x hx) (ne y (List.mem_append.mp hy))
 · have hd:∀{gs:List (Nat×Nat)},y∈gs→y.2∣z1j gs:=fun{gs} h=>by
     obtain⟨cs,ds,rfl⟩:=List.append_of_mem h
     rw[z3i,z12]
     exact⟨z1j cs*z1j ds,by rw[Nat.mul_left_comm]⟩
   rcases List.mem_append.mp hy with h|h
   · exact Nat.dvd_trans (hd h) ⟨z1j bs,rfl⟩
   · rcases List.mem_cons.mp h with h|h
     · exact absurd h hne
     · exact Nat.dvd_trans (hd h) ⟨z1j as,Nat.mul_comm _ _⟩
theorem PPd.w2{N:Nat}{fs:List (Nat×Nat)}(P:PPd N fs){x:Nat×Nat}(hx:x∈fs):2≤x.2∧x.2∣N:=by
 obtain⟨o,e,_⟩:=P.cop hx
 obtain⟨⟨h2,_⟩,k,hk⟩:=P.each x hx
 refine⟨?_,⟨o,e⟩⟩
 rw[hk,Nat.pow_succ]
 have:0<x.1 ^ k:=Nat.pow_pos (by omega)
 exact Nat.le_trans h2 (Nat.le_mul_of_pos_left _ this)
theorem z80:∀{fs:List (Nat×Nat)},(∀ x∈fs,2≤x.2)→2 ^ fs.length≤z1j fs
 | [],_=>by rw[z1S];exact Nat.le_refl 1
 | x::fs,h=>by
  rw[z12,List.length_cons,Nat.pow_succ,Nat.mul_comm]
  exact Nat.mul_le_mul (h x List.mem_cons_self) (z80 fun y hy=>h y (List.mem_cons_of_mem _ hy))
theorem PPs.few{N p l:Nat}{fs:List (Nat×Nat)}(P:PPs N p l fs)(h6:N≤1000000)(h0:0<N):fs.length≤1000:=by
 have a:=z80 (fs:=fs) fun x hx=>by
   obtain⟨⟨⟨h2,_⟩,k,hk⟩,_⟩:=P.each x hx
   rw[hk,Nat.pow_succ]
   exact Nat.le_trans h2 (Nat.le_mul_of_pos_left _ (Nat.pow_pos (by omega)))
 have b:z1j fs≤N:=Nat.le_of_dvd h0 ⟨l,P.prod.symm⟩
 by_cases z:fs.length≤1000
 · exact z
 · have:2 ^ 20≤2 ^ fs.length:=Nat.pow_le_pow_right (by decide) (by omega)
   have:(2:Nat) ^ 20=1048576:=by decide
   omega
open Lat
def Tri(n:Nat):Nat→List Row→Prop
 | k,[]=>k=n
 | k,r::rs=>r.length=n∧(∀ i,i<k→at0 r i=0)∧(0<at0 r k∧at0 r k≤6)∧Tri n (k+1) rs
def triD:Nat→List Row→Int
 | _,[]=>1
 | k,r::rs=>at0 r k*triD (k+1) rs
theorem zbm{n:Nat}:∀{rs:List Row} {k:Nat} {v:Vec},Tri n k rs→(∀ i,i<k→v i=0)→(∀ i,n≤i→v i=0)→Span (vecs rs) (fun i=>triD k rs*v i)
 | [],k,v,h,h1,h2=>fun i=>by
  have h:k=n:=h
  show 1*v i=0
  by_cases z:i<n
  · rw[h1 i (by omega)];rfl
  · rw[h2 i (by omega)];rfl
 | r::rs,k,v,⟨hl,h3,h4,h5⟩,h1,h2=>by
  refine⟨triD (k+1) rs*v k,Span.congr (fun i=>?_) (zbm h5 (v:=fun i=>at0 r k*v i-v k*at0 r i) (fun i hi=>?_) fun i hi=>?_)⟩
  · show triD (k+1) rs*(at0 r k*v i-v k*at0 r i)=at0 r k*triD (k+1) rs*v i-triD (k+1) rs*v k*vec r i
    rw[Int.mul_sub,←Int.mul_assoc,←Int.mul_assoc,Int.mul_comm (triD (k+1) rs) (at0 r k)]
  · by_cases z:i=k
    · subst z;show at0 r i*v i-v i*at0 r i=0;rw[Int.mul_comm];omega
    · show at0 r k*v i-v k*at0 r i=0
      rw[h1 i (by omega),h3 i (by omega)];omega
  · show at0 r k*v i-v k*at0 r i=0
    have e:at0 r i=0:=z0I (by rw[hl];exact hi)
    rw[h2 i hi,e];simp
theorem zfV{n:Nat}:∀{rs:List Row} {k:Nat},Tri n k rs→0<triD k rs∧triD k rs≤6 ^ rs.length
 | [],_,_=>⟨by show(0:Int)<1;decide,by show(1:Int)≤6 ^ 0;decide⟩
 | r::rs,k,⟨_,_,⟨h1,h2⟩,h5⟩=>by
  obtain⟨a,b⟩:=zfV h5
  refine⟨Int.mul_pos h1 a,?_⟩
  show at0 r k*triD (k+1) rs≤6 ^ (rs.length+1)
  rw[Int.pow_succ,Int.mul_comm ((6:Int) ^ rs.length)]
  exact Int.le_trans (Int.mul_le_mul_of_nonneg_right h2 (by omega)) (Int.mul_le_mul_of_nonneg_left b (by decide))
theorem zgV{A B:List Row}{v:Vec}(s:Span (vecs A) v)(h:∀ r∈A,r∈B):Span (vecs B) v:=Span.trans (fun r hr=>by
 obtain⟨x,hx,rfl⟩:=List.mem_map.mp hr
 exact Span.mem (z5A (h x hx))) s
theorem IsOrd.le{bills:List Row}{b:Row}{o:Option Int}(h:IsOrd bills b o){M:Int}(hM:0<M)(t:Ty bills b M):∃ N:Nat,o=some (N:Int)∧0<N∧(N:Int)≤M:=by
 match o,h with
 | none,h=>have:=h M t;omega
 | some m,⟨h1,h2⟩ =>
  obtain⟨N,rfl⟩:=Int.eq_ofNat_of_zero_le (show 0≤m by omega)
  exact⟨N,rfl,by omega,Int.le_of_dvd hM ((h2 M).mp t)⟩
theorem zlj{N:Nat}{fs:List (Nat×Nat)}(P:PPd N fs){s:Int}(h:∀ x∈fs,(x.2:Int)∣s):(N:Int)∣s:=by
 have key:∀ gs:List (Nat×Nat),(∀ x∈gs,x∈fs)→(gs.Pairwise fun x y=>x.1<y.1)→(z1j gs)∣s.natAbs:=by
  intro gs
  induction gs with
  | nil=>intro _ _;rw[z1S];exact Nat.one_dvd _
  | cons x gs ih =>
   intro hm hs
   obtain⟨s1,s2⟩:=List.pairwise_cons.mp hs
   rw[z12]
   refine Nat.Coprime.mul_dvd_of_dvd_of_dvd (z7Z fun y hy=>?_).symm (Int.ofNat_dvd_left.mp (h x (hm x List.mem_cons_self))) (ih (fun y hy=>hm y (List.mem_cons_of_mem _ hy)) s2)
   have:=s1 y hy
   exact zfU (P.each y (hm y (List.mem_cons_of_mem _ hy))) (P.each x (hm x List.mem_cons_self)) (by omega)
 have:=key fs (fun x hx=>hx) P.sort
 rw[P.prod]at this
 exact Int.ofNat_dvd_left.mpr this
end St

end
section
set_option linter.all false
set_option maxRecDepth 100000
namespace St
open Lat
def sm:Nat→(Nat→Int)→Int
 | 0,_=>0
 | m+1,f=>f 0+sm m (fun k=>f (k+1))
theorem z0v:∀{m:Nat} {f g:Nat→Int},(∀ k,k<m→f k=g k)→sm m f=sm m g
 | 0,_,_,_=>rfl
 | m+1,f,g,h=>by rw[sm,sm,h 0 (by omega),z0v fun k hk=>h (k+1) (by omega)]
theorem z0O{m:Nat}{f:Nat→Int}(h:∀ k,k<m→f k=0):sm m f=0:=by
 rw[z0v h]
 induction m with
 | zero=>rfl
 | succ m ih=>rw[sm,ih fun k hk=>h k (by omega)];rfl
theorem z81:∀(m:Nat) (f g:Nat→Int),sm m (fun k=>f k+g k)=sm m f+sm m g
 | 0,_,_=>rfl
 | m+1,f,g=>by rw[sm,sm,sm,z81 m];omega
theorem z3C(c:Int):∀(m:Nat) (f:Nat→Int),sm m (fun k=>c*f k)=c*sm m f
 | 0,_=>by simp[sm]
 | m+1,f=>by rw[sm,sm,z3C c m,Int.mul_add]
theorem zah(c:Int)(m:Nat)(f:Nat→Int):sm m (fun k=>f k*c)=sm m f*c:=by
 rw[Int.mul_comm,←z3C];exact z0v fun k _=>Int.mul_comm _ _
theorem zcF(m:Nat)(f g:Nat→Int):sm m (fun k=>f k-g k)=sm m f-sm m g:=by
 have:=z81 m f (fun k=>(-1)*g k)
 rw[z3C]at this
 rw[z0v (g:=fun k=>f k+(-1)*g k) fun k _=>by omega,this];omega
theorem z7k:∀(m p:Nat) (f:Nat→Nat→Int),sm m (fun i=>sm p (fun j=>f i j))=sm p (fun j=>sm m (fun i=>f i j))
 | 0,p,f=>by rw[sm];exact(z0O fun k _=>rfl).symm
 | m+1,p,f=>by rw[sm,z7k m p,←z81];rfl
theorem z37:∀{m i:Nat} {f:Nat→Int},i<m→(∀ k,k<m→k≠i→f k=0)→sm m f=f i
 | m+1,0,f,_,z=>by rw[sm,z0O fun k hk=>z (k+1) (by omega) (by omega)];omega
 | m+1,i+1,f,h,z=>by rw[sm,z 0 (by omega) (by omega),z37 (i:=i) (by omega) fun k hk hn=>z (k+1) (by omega) (by omega)];omega
def ent(A:List Row)(i j:Nat):Int:=at0 (A.getD i []) j
theorem zlk(k:Nat):at0 [] k=0:=by simp[at0]
theorem z10{A:List Row}{i:Nat}(h:A.length≤i)(j:Nat):ent A i j=0:=by
 unfold ent;rw[show A.getD i []=[] by simp[List.getD,List.getElem?_eq_none h],zlk]
theorem zai{A:List Row}{m i j:Nat}(hl:∀ r∈A,r.length=m)(h:m≤j):ent A i j=0:=by
 by_cases hi:i<A.length
 · unfold ent;exact z0I (by rw[hl _ (z3B hi)];exact h)
 · exact z10 (by omega) j
theorem zbn(r:Row)(A:List Row)(i j:Nat):ent (r::A) (i+1) j=ent A i j:=rfl
theorem z1x:∀{A:List Row} {v:Vec},Span (vecs A) v↔∃ c:Nat→Int,∀ k,v k=sm A.length (fun i=>c i*ent A i k)
 | [],v=>⟨fun h=>⟨fun _=>0,h⟩,fun⟨_,h⟩=>h⟩
 | r::A,v=>by
  constructor
  · rintro⟨c0,h⟩
    obtain⟨c,h⟩:=z1x.mp h
    refine⟨fun i=>match i with|0=>c0|i+1=>c i,fun k=>?_⟩
    have:v k-c0*at0 r k=sm A.length (fun i=>c i*ent A i k):=h k
    rw[List.length_cons,sm]
    show v k=c0*at0 r k+sm A.length (fun i=>c i*ent A i k)
    omega
  · rintro⟨c,h⟩
    refine⟨c 0,z1x.mpr ⟨fun i=>c (i+1),fun k=>?_⟩⟩
    have:=h k
    rw[List.length_cons,sm]at this
    show v k-c 0*at0 r k=sm A.length (fun i=>c (i+1)*ent A i k)
    have e:ent (r::A) 0 k=at0 r k:=rfl
    rw[e]at this
    simp only[zbn]at this
    omega
theorem z45{A:List Row}{i:Nat}(h:i<A.length):Span (vecs A) (fun k=>ent A i k):=z0h (z3B h)
def trn(m:Nat)(A:List Row):List Row:=(List.range m).map fun k=>A.map fun r=>at0 r k
theorem z2Y(m:Nat)(A:List Row):(trn m A).length=m:=by simp[trn]
theorem z5H{m:Nat}{A:List Row}{r:Row}(h:r∈trn m A):r.length=A.length:=by
 obtain⟨k,_,rfl⟩:=List.mem_map.mp h;simp
theorem zia(m:Nat)(A:List Row)(k i:Nat):ent (trn m A) k i=if k<m then ent A i k else 0:=by
 by_cases h:k<m
 · rw[if_pos h]
   unfold ent trn at0
   rw[show((List.range m).map fun k=>A.map fun r=>r.getD k 0).getD k []=A.map fun r=>r.getD k 0 by simp[List.getD,h]]
   by_cases hi:i<A.length
   · simp[List.getD,List.getElem?_eq_getElem hi]
   · simp[List.getD,List.getElem?_eq_none (Nat.le_of_not_lt hi)]
 · rw[if_neg h,z10 (by rw[z2Y];omega)]
theorem z2t{m:Nat}{A:List Row}(hl:∀ r∈A,r.length=m)(k i:Nat):ent (trn m A) k i=ent A i k:=by
 rw[zia];split
 · rfl
 · exact(zai hl (by omega)).symm
theorem zll{A B:List Row}{m:Nat}(h:A.length=B.length)(ha:∀ r∈A,r.length=m)(hb:∀ r∈B,r.length=m)(q:∀ i k,ent A i k=ent B i k):A=B:=by
 refine List.ext_getElem h fun i h1 h2=>?_
 have e1:A.getD i []=A[i]:=by simp[List.getD,List.getElem?_eq_getElem h1]
 have e2:B.getD i []=B[i]:=by simp[List.getD,List.getElem?_eq_getElem h2]
 refine ext0 (by rw[ha _ (List.getElem_mem h1),hb _ (List.getElem_mem h2)]) fun k=>?_
 have:=q i k
 unfold ent at this
 rw[e1,e2]at this;exact this
theorem zlm{m p:Nat}{A:List Row}(hl:∀ r∈A,r.length=m)(hp:A.length=p):trn p (trn m A)=A:=by
 refine zll (m:=m) (by rw[z2Y,hp]) (fun r hr=>by rw[z5H hr,z2Y]) hl fun i k=>?_
 rw[z2t (fun r hr=>by rw[z5H hr,hp]),z2t hl]
structure Sq(r:Nat)(A:List Row):Prop where
 asc:Asc r 0 A
 form:Form 0 (z0F A)
 len:A.length=r
theorem z9m{n:Nat}:∀{f:Nat} {S:List Row} {i:Nat},Asc n f S→i<S.length→f+i≤z00 (S.getD i [])∧z00 (S.getD i [])+(S.length-i)≤n
 | f,r::S,0,⟨h1,h2,h3,h4,h5⟩,_=>by
  have:=z4D h5 (by omega)
  show f+0≤z00 r∧z00 r+(S.length+1-0)≤n
  omega
 | f,r::S,i+1,⟨h1,h2,h3,h4,h5⟩,h=>by
  obtain⟨a,b⟩:=z9m (i:=i) h5 (by simpa using h)
  have e:(r::S).getD (i+1) []=S.getD i []:=rfl
  rw[e,List.length_cons]
  omega
variable {r:Nat}{A:List Row}
theorem Sq.rows(q:Sq r A):∀ x∈A,x.length=r:=fun x hx=>(q.asc.mem hx).1
theorem Sq.head(q:Sq r A){i:Nat}(hi:i<r):z00 (A.getD i [])=i:=by
 have:=z9m q.asc (i:=i) (by rw[q.len];exact hi)
 have:=q.len
 omega
theorem Sq.pos(q:Sq r A){i:Nat}(hi:i<r):0<ent A i i:=by
 have:=(zag q.asc (k:=i) (by rw[q.len];exact hi)).2.2.2
 unfold hd at this
 rw[q.head hi]at this
 exact this
theorem Sq.low(q:Sq r A){i j:Nat}(h:j<i):ent A i j=0:=by
 by_cases hi:i<r
 · exact z0m _ _ (by rw[q.head hi];exact h)
 · exact z10 (by rw[q.len];omega) j
theorem Sq.far(q:Sq r A){i j:Nat}(h:r≤j):ent A i j=0:=zai q.rows h
theorem zaj{n:Nat}:∀{f:Nat} {S:List Row} {v:Vec} {x:Row},Asc n f S→Span (vecs S) v→(∀ k,k<z00 x→v k=0)→x∈S→hd x∣v (z00 x)
 | f,r::S,v,x,A,⟨c,s⟩,z,hx=>by
  have e:=A.coef s
  rcases List.mem_cons.mp hx with rfl|hx
  · exact⟨c,by rw[e];exact Int.mul_comm _ _⟩
  · have hh:=(A.2.2.2.2.mem hx).2.1
    have e0:=z (z00 r) (by omega)
    have hp:=A.2.2.2.1
    have hc:c=0:=by
     rw[e0]at e
     rcases Int.mul_eq_zero.mp e.symm with h|h
     · exact h
     · omega
    subst hc
    exact zaj A.2.2.2.2 (Span.congr (fun k=>by simp) s) z hx
theorem Sq.dvd(q:Sq r A){v:Vec}{i:Nat}(hi:i<r)(s:Span (vecs A) v)(z:∀ k,k<i→v k=0):ent A i i∣v i:=by
 have h:=zaj q.asc s (x:=A.getD i []) (fun k hk=>z k (by rw[q.head hi]at hk;exact hk)) (z3B (by rw[q.len];exact hi))
 unfold hd at h
 rw[q.head hi]at h
 exact h
abbrev pt(i:Nat)(d:Int):Vec:=fun k=>if k=i then d else 0
def Clean(t:Nat)(A:List Row):Prop:=∀ i,i<t→∀ k,k≠i→ent A i k=0
theorem z2L{y:Vec}(hl:∀ x∈A,x.length=r):Span (vecs (trn r A)) y↔∃ c:Nat→Int,∀ k,y k=sm r (fun j=>c j*ent A k j):=by
 rw[z1x]
 simp only[z2Y,z2t hl]
theorem Clean.dvd(q:Sq r A){t i:Nat}(c:Clean t A)(hi:i<t){y:Vec}(s:Span (vecs (trn r A)) y):ent A i i∣y i:=by
 by_cases hr:i<r
 · obtain⟨c',h⟩:=(z2L q.rows).mp s
   rw[h i,z37 hr fun k _ hn=>by rw[c i hi k hn];simp]
   exact⟨c' i,Int.mul_comm _ _⟩
 · rw[q.far (by omega)]
   obtain⟨c',h⟩:=(z2L q.rows).mp s
   rw[h i,z0O fun k hk=>by rw[c i hi k (by omega)];simp]
   exact⟨0,rfl⟩
def z3D(r:Nat)(w:Int)(A:List Row):Prop:=∀ i,i<r→Span (vecs A) (pt i w)
theorem Sq.comm(q:Sq r A){w:Int}(h:z3D r w A):z3D r w (trn r A):=by
 have hM:∃ M:Nat→Nat→Int,∀ i,i<r→∀ k,pt i w k=sm r (fun j=>M i j*ent A j k):=by
   have:∀ i,∃ c:Nat→Int,i<r→∀ k,pt i w k=sm r (fun j=>c j*ent A j k):=fun i=>by
     by_cases hi:i<r
     · obtain⟨c,hc⟩:=z1x.mp (h i hi)
       rw[q.len]at hc
       exact⟨c,fun _=>hc⟩
     · exact⟨fun _=>0,fun h=>absurd h hi⟩
   exact⟨fun i=>Classical.choose (this i),fun i hi=>Classical.choose_spec (this i) hi⟩
 obtain⟨M,hM⟩:=hM
 have indep:∀ z:Nat→Int,(∀ k,k<r→sm r (fun j=>z j*ent A j k)=0)→∀ j,j<r→z j=0:=fun z hz j=>by
   induction j using Nat.strongRecOn with
   | ind j ih =>
     intro hj
     have e:=hz j hj
     rw[z37 hj fun k hk hn=>?_]at e
     · rcases Int.mul_eq_zero.mp e with h|h
       · exact h
       · have:=q.pos hj;omega
     · rcases Nat.lt_or_gt_of_ne hn with h|h
       · rw[ih k h hk];simp
       · rw[q.low h];simp
 intro i hi
 refine(z2L q.rows).mpr ⟨fun j=>M j i,fun k=>?_⟩
 by_cases hk:k<r
 · have:=indep (fun i=>sm r (fun j=>M j i*ent A k j)-pt i w k) (fun m hm=>?_) i hi
   · have hs:pt i w k=pt k w i:=by simp only[pt];split<;>split<;>first|rfl|omega
     show pt i w k=sm r (fun j=>M j i*ent A k j)
     rw[hs]
     have this:sm r (fun j=>M j i*ent A k j)-pt i w k=0:=this
     omega
   · rw[z0v (g:=fun i=>sm r (fun j=>(ent A k j*(M j i*ent A i m)))-pt i w k*ent A i m) fun i _=>?_]
     · rw[zcF,z7k,z0v (g:=fun j=>ent A k j*pt j w m) fun j hj=>?_]
       · rw[z37 (i:=m) hm fun j _ hn=>by simp only[pt];rw[if_neg (by omega)];simp]
         rw[z37 (i:=k) hk fun j _ hn=>by simp only[pt];rw[if_neg (by omega)];simp]
         simp only[pt,if_true]
         rw[Int.mul_comm];omega
       · rw[z3C,←hM j hj m]
     · rw[Int.sub_mul,←zah]
       congr 1
       exact z0v fun j _=>by rw[Int.mul_comm (M j i),Int.mul_assoc]
 · have:pt i w k=0:=by simp only[pt];rw[if_neg (by omega)]
   rw[show(pt i w) k=0 from this,z0O fun j _=>by rw[z10 (A:=A) (i:=k) (by rw[q.len];omega)];simp]
theorem Sq.whole(q:Sq r A){w:Int}(h:z3D r w A){i:Nat}(hi:i<r):ent A i i∣w:=by
 have:=q.dvd hi (h i hi) fun k hk=>by simp[pt];omega
 simpa[pt]using this
end St

end
section
set_option linter.all false
set_option maxRecDepth 100000
namespace St
open Lat
theorem zib:∀{m k:Nat} {f:Nat→Int},k≤m→(∀ i,k≤i→i<m→f i=0)→sm m f=sm k f
 | m,0,f,_,z=>z0O fun i hi=>z i (Nat.zero_le _) hi
 | m+1,k+1,f,h,z=>by rw[sm,sm,zib (k:=k) (by omega) fun i h1 h2=>z (i+1) (by omega) (by omega)]
theorem z82{m a:Nat}{c:Nat→Int}{D:Nat→Nat→Int}(hd:∀ l,l<m→D l l≠0)(hl:∀ l j,l<j→j<m→D l j=0)(h:∀ j,a≤j→j<m→sm m (fun l=>c l*D l j)=0):
  ∀ d l,l+d=m→a≤l→l<m→c l=0:=fun d=>by
 induction d using Nat.strongRecOn with
 | ind d ih =>
  intro l e ha hm
  have q:=h l ha hm
  rw[z37 hm fun k hk hn=>?_]at q
  · rcases Int.mul_eq_zero.mp q with q|q
    · exact q
    · exact absurd q (hd l hm)
  · rcases Nat.lt_or_gt_of_ne hn with x|x
    · rw[hl k l x hm];simp
    · rw[ih (m-k) (by omega) k (by omega) (by omega) hk];simp
theorem z83{P:List Row}{k i:Nat}(h:i<k)(j:Nat):ent (P.take k) i j=ent P i j:=by
 unfold ent;congr 1;simp[List.getD,List.getElem?_take,h]
structure Below(r N:Nat)(w:Int)(P:List Row):Prop where
 len:P.length=r
 wid:r≤N
 rows:∀ x∈P,x.length=N
 pos:∀ i,i<r→ent P i i≠0
 low:∀ i j,i<j→j<r→ent P i j=0
 whole:∀ i,i<r→∃ v:Vec,Span (vecs P) v∧v i=w∧∀ k,k<r→k≠i→v k=0
theorem Below.heads{r N:Nat}{w:Int}{P S:List Row}(B:Below r N w P){k:Nat}(hk:k≤r)(A:Asc N 0 S)(s:SameSpan (vecs S) (vecs (P.take k))){x:Row}(hx:x∈S):z00 x<k∧hd x∣w:=by
 have kl:(P.take k).length=k:=by rw[List.length_take,B.len];omega
 obtain⟨c,hc⟩:=z1x.mp (s.iff.mp (z0h hx))
 rw[kl]at hc
 have hh:z00 x<k:=by
  refine Nat.lt_of_not_le fun hge=>?_
  have z:=z82 (m:=k) (a:=0) (c:=c) (D:=fun l j=>ent P l j) (fun l hl=>B.pos l (by omega)) (fun l j h1 h2=>B.low l j h1 (by omega)) (fun j _ hj=>by
   have:=hc j
   rw[z0v (g:=fun l=>c l*ent P l j) fun l hl=>by rw[z83 hl]]at this
   rw[←this]
   exact z0m x j (by omega))
  have:=(A.mem hx).2.2.2
  unfold hd at this
  have e:=hc (z00 x)
  rw[z0O fun l hl=>by rw[z (k-l) l (by omega) (by omega) hl];simp]at e
  omega
 refine⟨hh,?_⟩
 obtain⟨v,v1,v2,v3⟩:=B.whole (z00 x) (by omega)
 obtain⟨d,hd'⟩:=z1x.mp v1
 rw[B.len]at hd'
 have z:=z82 (m:=r) (a:=z00 x+1) (c:=d) (D:=fun l j=>ent P l j) B.pos B.low fun j h1 h2=>by rw[←hd' j];exact v3 j h2 (by omega)
 have sv:Span (vecs S) v:=s.iff.mpr (z1x.mpr ⟨d,fun j=>by
  rw[hd' j,kl,zib hk fun i h1 h2=>by rw[z (r-i) i (by omega) (by omega) h2];simp]
  exact z0v fun l hl=>by rw[z83 hl]⟩)
 have:=zaj A sv (x:=x) (fun j hj=>v3 j (by omega) (by omega)) hx
 rw[v2]at this
 exact this
structure Lin(F:Vec→Int):Prop where
 add:∀ u v:Vec,F (fun k=>u k+v k)=F u+F v
 smul:∀(c:Int) (u:Vec),F (fun k=>c*u k)=c*F u
theorem Lin.zero{F:Vec→Int}(h:Lin F):F (fun _=>0)=0:=by
 have:=h.smul 0 (fun _=>0);simpa using this
theorem Lin.sum{F:Vec→Int}(h:Lin F):∀(m:Nat) (c:Nat→Int) (R:Nat→Vec),F (fun k=>sm m (fun i=>c i*R i k))=sm m (fun i=>c i*F (R i))
 | 0,_,_=>h.zero
 | m+1,c,R=>by
  have:=h.sum m (fun i=>c (i+1)) (fun i=>R (i+1))
  rw[sm,←this,←h.smul,←h.add];rfl
theorem Lin.span{F:Vec→Int}(h:Lin F){P:List Row}{v:Vec}(z:∀ l,l<P.length→F (fun k=>ent P l k)=0)(s:Span (vecs P) v):F v=0:=by
 obtain⟨c,hc⟩:=z1x.mp s
 rw[show v=fun k=>sm P.length (fun i=>c i*ent P i k)from funext hc,h.sum]
 exact z0O fun i hi=>by rw[z i hi];simp
theorem z9n{N:Nat}:∀{f:Nat} {S:List Row} {z:Nat→Int},Asc N f S→(∀ k,sm S.length (fun i=>z i*ent S i k)=0)→∀ i,i<S.length→z i=0
 | f,r::S,z,A,h,i,hi=>by
  have e:=h (z00 r)
  rw[List.length_cons,sm,z0O fun k hk=>?_]at e
  · have z0:z 0=0:=by
     have p:=A.2.2.2.1
     have e:z 0*hd r+0=0:=e
     rcases Int.mul_eq_zero.mp (show z 0*hd r=0 by omega)with q|q
     · exact q
     · omega
    match i,hi with
    | 0,_=>exact z0
    | i+1,hi =>
     refine z9n (z:=fun i=>z (i+1)) A.2.2.2.2 (fun k=>?_) i (by simpa using hi)
     have e:=h k
     rw[List.length_cons,sm,z0]at e
     have e:0*ent (r::S) 0 k+sm S.length (fun i=>z (i+1)*ent S i k)=0:=e
     omega
  · rw[zbn]
    have:=(A.2.2.2.2.mem (z3B hk)).2.1
    rw[show ent S k (z00 r)=0 from z0m _ _ (by omega)];simp
theorem lift{N:Nat}{P S:List Row}(s:SameSpan (vecs P) (vecs S))(A:Asc N 0 S)(ζ:Nat→Int):
  ∃ z:Nat→Int,∀ F,Lin F→(∀ l,l<P.length→F (fun k=>ent P l k)=z l)→∀ i,i<S.length→F (fun k=>ent S i k)=ζ i:=by
 have hU:∀ i,∃ c:Nat→Int,i<S.length→∀ k,ent S i k=sm P.length (fun l=>c l*ent P l k):=fun i=>by
  by_cases hi:i<S.length
  · obtain⟨c,hc⟩:=z1x.mp (s.iff.mpr (z45 hi));exact⟨c,fun _=>hc⟩
  · exact⟨fun _=>0,fun h=>absurd h hi⟩
 have hV:∀ i,∃ c:Nat→Int,i<P.length→∀ k,ent P i k=sm S.length (fun l=>c l*ent S l k):=fun i=>by
  by_cases hi:i<P.length
  · obtain⟨c,hc⟩:=z1x.mp (s.iff.mp (z45 hi));exact⟨c,fun _=>hc⟩
  · exact⟨fun _=>0,fun h=>absurd h hi⟩
 obtain⟨U,hU⟩:∃ U:Nat→Nat→Int,∀ i,i<S.length→∀ k,ent S i k=sm P.length (fun l=>U i l*ent P l k):=⟨fun i=>Classical.choose (hU i),fun i=>Classical.choose_spec (hU i)⟩
 obtain⟨V,hV⟩:∃ V:Nat→Nat→Int,∀ i,i<P.length→∀ k,ent P i k=sm S.length (fun l=>V i l*ent S l k):=⟨fun i=>Classical.choose (hV i),fun i=>Classical.choose_spec (hV i)⟩
 have key:∀ i,i<S.length→∀ m,m<S.length→sm P.length (fun l=>U i l*V l m)=if m=i then 1 else 0:=fun i hi m hm=>by
  have:=z9n (z:=fun m=>sm P.length (fun l=>U i l*V l m)-if m=i then 1 else 0) A (fun k=>?_) m hm
  · have this:sm P.length (fun l=>U i l*V l m)-(if m=i then 1 else 0)=0:=this
    omega
  · rw[z0v (g:=fun m=>sm P.length (fun l=>U i l*(V l m*ent S m k))-(if m=i then 1 else 0)*ent S m k) fun m _=>?_]
    · rw[zcF,z7k,z0v (g:=fun l=>U i l*ent P l k) fun l hl=>by rw[z3C,←hV l hl k],←hU i hi k,z37 hi fun m _ hn=>by rw[if_neg hn];simp]
      simp
    · rw[Int.sub_mul,←zah]
      congr 1
      exact z0v fun l _=>by rw[Int.mul_assoc]
 refine⟨fun l=>sm S.length (fun m=>V l m*ζ m),fun F h hF i hi=>?_⟩
 rw[show(fun k=>ent S i k)=fun k=>sm P.length (fun l=>U i l*ent P l k)from funext (hU i hi),h.sum P.length (U i) (fun l k=>ent P l k)]
 rw[z0v (g:=fun l=>sm S.length (fun m=>U i l*V l m*ζ m)) fun l hl=>by rw[hF l hl,←z3C];exact z0v fun m _=>(Int.mul_assoc _ _ _).symm]
 rw[z7k,z0v (g:=fun m=>(if m=i then 1 else 0)*ζ m) fun m hm=>by rw[zah,key i hi m hm],z37 hi fun m _ hn=>by rw[if_neg hn];simp]
 simp
def fun_(r n:Nat)(c b v:Vec):Int:=sm n (fun k=>v (r+k)*b k)-sm r (fun j=>c j*v j)
theorem z7l(r n:Nat)(c b:Vec):Lin (fun_ r n c b) where
 add u v:=by
  unfold fun_
  rw[z0v (g:=fun k=>u (r+k)*b k+v (r+k)*b k) fun k _=>Int.add_mul _ _ _,z81,z0v (m:=r) (g:=fun j=>c j*u j+c j*v j) fun k _=>Int.mul_add _ _ _,z81]
  omega
 smul a u:=by
  unfold fun_
  rw[z0v (g:=fun k=>a*(u (r+k)*b k)) fun k _=>Int.mul_assoc _ _ _,z3C,z0v (m:=r) (g:=fun j=>a*(c j*u j)) fun k _=>by rw[←Int.mul_assoc,Int.mul_comm (c k),Int.mul_assoc],z3C,Int.mul_sub]
def EqP(r n:Nat)(P:List Row)(b:Vec):Prop:=∃ c:Vec,∀ l,l<P.length→fun_ r n c b (fun k=>ent P l k)=0
theorem EqP.same{r n:Nat}{P S:List Row}{b:Vec}(s:SameSpan (vecs P) (vecs S)):EqP r n P b↔EqP r n S b :=
 ⟨fun⟨c,h⟩=>⟨c,fun l hl=>(z7l r n c b).span h (s.iff.mpr (z45 hl))⟩,fun⟨c,h⟩=>⟨c,fun l hl=>(z7l r n c b).span h (s.iff.mp (z45 hl))⟩⟩
end St

end
section
set_option linter.all false
set_option maxRecDepth 100000
namespace St
open Lat
def wts(n:Nat)(W:List Row)(b:Vec):Vec:=fun i=>sm n (fun k=>ent W i k*b k)
def pair(A W:List Row):List Row:=List.zipWith (·++·) A W
theorem z46{A W:List Row}(h:A.length=W.length):(pair A W).length=A.length:=by unfold pair;rw[List.length_zipWith];omega
theorem zic{A W:List Row}{i:Nat}(h:i<A.length)(h':i<W.length):(pair A W).getD i []=A.getD i []++W.getD i []:=by
 simp[pair,List.getD,List.getElem?_zipWith,List.getElem?_eq_getElem h,List.getElem?_eq_getElem h']
theorem zbo{r n:Nat}{A W:List Row}(ha:∀ x∈A,x.length=r){i:Nat}(h:i<A.length)(h':i<W.length)(k:Nat):ent (pair A W) i k=if k<r then ent A i k else ent W i (k-r):=by
 unfold ent;rw[zic h h',z1M (ha _ (z3B h))]
theorem z47{r n:Nat}{A W:List Row}{b:Vec}(ha:∀ x∈A,x.length=r)(hl:A.length=W.length)(c:Vec)(l:Nat)(h:l<A.length):fun_ r n c b (fun k=>ent (pair A W) l k)=wts n W b l-sm r (fun j=>c j*ent A l j):=by
 unfold fun_ wts
 rw[z0v (g:=fun k=>ent W l k*b k) fun k _=>by show ent (pair A W) l (r+k)*b k=_;rw[zbo (n:=n) ha h (by omega),if_neg (by omega),show r+k-r=k by omega]]
 rw[z0v (m:=r) (g:=fun j=>c j*ent A l j) fun j hj=>by show c j*ent (pair A W) l j=_;rw[zbo (n:=n) ha h (by omega),if_pos hj]]
theorem zfW{r n:Nat}{A W:List Row}{b:Vec}(ha:∀ x∈A,x.length=r)(hl:A.length=W.length):EqP r n (pair A W) b↔Span (vecs (trn r A)) (wts n W b):=by
 rw[z2L ha]
 have e:=z47 (r:=r) (n:=n) (b:=b) ha hl
 constructor
 · rintro⟨c,h⟩
   refine⟨c,fun k=>?_⟩
   by_cases hk:k<A.length
   · have:=h k (by rw[z46 hl];exact hk)
     rw[e c k hk]at this;omega
   · rw[show wts n W b k=0 from z0O fun j _=>by rw[z10 (by omega)];simp]
     exact(z0O fun j _=>by rw[z10 (by omega)];simp).symm
 · rintro⟨c,h⟩
   refine⟨c,fun l hl'=>?_⟩
   rw[z46 hl]at hl'
   rw[e c l hl',h l];omega
theorem zcG{r:Nat}{w:Int}{B:List Row}(h:z3D r w B){u:Vec}(hu:∀ k,r≤k→u k=0):Span (vecs B) (fun k=>w*u k):=by
 have key:∀ m,m≤r→Span (vecs B) (fun k=>if k<m then w*u k else 0):=fun m=>by
   induction m with
   | zero=>intro _;exact Span.congr (fun k=>by simp) Span.zero
   | succ m ih =>
    intro hm
    refine Span.congr (fun k=>?_) ((ih (by omega)).add ((h m (by omega)).smul (u m)))
    by_cases e:k=m
    · subst e;rw[if_neg (by omega),if_pos (by omega)];simp[pt,Int.mul_comm]
    · simp only[pt,if_neg e]
      by_cases q:k<m
      · rw[if_pos q,if_pos (by omega)];simp
      · rw[if_neg q,if_neg (by omega)];simp
 refine Span.congr (fun k=>?_) (key r (Nat.le_refl _))
 by_cases q:k<r
 · rw[if_pos q]
 · rw[if_neg q,hu k (by omega)];simp
theorem zgW{r:Nat}{P:List Row}{v:Vec}(s:Span (vecs P) v):Span (vecs (P.map (·.take r))) (fun k=>if k<r then v k else 0):=by
 obtain⟨c,h⟩:=z1x.mp s
 refine z1x.mpr ⟨c,fun k=>?_⟩
 have e:∀ i,ent (P.map (·.take r)) i k=if k<r then ent P i k else 0:=fun i=>by
   by_cases hi:i<P.length
   · unfold ent
     rw[show(P.map (·.take r)).getD i []=(P.getD i []).take r by simp[List.getD,List.getElem?_eq_getElem hi],z1J]
   · rw[z10 (by simpa using Nat.le_of_not_lt hi),z10 (by omega)];simp
 rw[List.length_map]
 by_cases hk:k<r
 · rw[if_pos hk,h k];exact z0v fun i _=>by rw[e,if_pos hk]
 · rw[if_neg hk];exact(z0O fun i _=>by rw[e,if_neg hk];simp).symm
theorem z9o{r:Nat}{P S:List Row}(s:SameSpan (vecs P) (vecs S)):SameSpan (vecs (P.map (·.take r))) (vecs (S.map (·.take r))):=by
 have one:∀{P S:List Row},SameSpan (vecs P) (vecs S)→∀ x∈P.map (·.take r),Span (vecs (S.map (·.take r))) (fun k=>at0 x k):=fun{P S} s x hx=>by
  obtain⟨y,hy,rfl⟩:=List.mem_map.mp hx
  exact Span.congr (fun k=>by rw[z1J]) (zgW (r:=r) (s.iff.mp (z0h hy)))
 exact z3A (one s) (one s.symm)
theorem z9p{r:Nat}{A W:List Row}(ha:∀ x∈A,x.length=r)(hl:A.length=W.length):(pair A W).map (·.take r)=A:=by
 refine List.ext_getElem (by rw[List.length_map,z46 hl]) fun i h1 h2=>?_
 simp only[pair,List.getElem_map,List.getElem_zipWith]
 rw[List.take_left' (ha _ (List.getElem_mem _))]
theorem zbp{r:Nat}(S:List Row):pair (S.map (·.take r)) (S.map (·.drop r))=S:=by
 induction S with
 | nil=>rfl
 | cons x S ih=>show(x.take r++x.drop r)::_=_;rw[List.take_append_drop];congr 1
theorem zid{r N:Nat}{S:List Row}(h:∀ x∈S,z00 x<r):tops r S=S.map (·.take r):=by
 unfold tops;congr 1;exact List.filter_eq_self.mpr fun x hx=>decide_eq_true (h x hx)
structure Mst(r n:Nat)(w:Int)(G K A W:List Row):Prop where
 sq:Sq r A
 wl:W.length=r
 wr:∀ x∈W,x.length=n
 whole:z3D r w (trn r A)
 ker:∀ b:Vec,(∀ k,n≤k→b k=0)→(Span (vecs G) b↔(∀ j,j<K.length→wts n K b j=0)∧Span (vecs (trn r A)) (wts n W b))
 onto:∀ ζ κ:Vec,∃ b:Vec,(∀ k,n≤k→b k=0)∧(∀ j,j<K.length→wts n K b j=κ j)∧Span (vecs (trn r A)) (fun i=>wts n W b i-if i<r then ζ i else 0)
variable {r n:Nat}{w:Int}{G K A W T S W':List Row}
theorem Mst.rest(m:Mst r n w G K A W)(hl:W'.length=r)(hr:∀ x∈W',x.length=n)(q:Nat→Nat→Int)(e:∀ i k,i<r→ent W' i k=ent W i k-w*q i k):Mst r n w G K A W':=by
 have key:∀ b:Vec,Span (vecs (trn r A)) (fun i=>wts n W b i-wts n W' b i):=fun b=>by
   refine Span.congr (fun i=>?_) (zcG m.whole (u:=fun i=>if i<r then sm n (fun k=>q i k*b k) else 0) fun k hk=>by simp;omega)
   by_cases hi:i<r
   · unfold wts
     rw[if_pos hi,←zcF,←z3C]
     exact z0v fun k _=>by rw[e i k hi,Int.sub_mul,Int.mul_assoc];omega
   · have z1:wts n W b i=0:=z0O fun k _=>by rw[z10 (by rw[m.wl];omega)];simp
     have z2:wts n W' b i=0:=z0O fun k _=>by rw[z10 (by omega)];simp
     rw[if_neg hi,z1,z2];simp
 refine⟨m.sq,hl,hr,m.whole,fun b hb=>?_,fun ζ κ=>?_⟩
 · rw[m.ker b hb]
   refine and_congr_right fun _=>⟨fun h=>Span.congr (fun i=>by omega) (h.sub (key b)),fun h=>Span.congr (fun i=>by omega) (h.add (key b))⟩
 · obtain⟨b,h1,h2,h3⟩:=m.onto ζ κ
   exact⟨b,h1,h2,Span.congr (fun i=>by omega) (h3.sub (key b))⟩
theorem Mst.step(m:Mst r n w G K A W)(t:Sq r T)(sT:SameSpan (vecs T) (vecs (trn r A)))(As:Asc (r+n) 0 S)(Fs:Form 0 (z0F S))(sl:S.length=r)(sh:∀ x∈S,z00 x<r)(ss:SameSpan (vecs S) (vecs (pair (trn r T) W))):
   Mst r n w G K (S.map (·.take r)) (S.map (·.drop r)):=by
 have et:tops r S=S.map (·.take r):=zid (N:=0) sh
 obtain⟨a1,a2⟩:=z5G As (show r≤r+n by omega)
 rw[et]at a1 a2
 have sq:Sq r (S.map (·.take r)):=⟨a1,by rw[←et];exact z6p As Fs (by omega),by rw[List.length_map,sl]⟩
 have cl:(trn r T).length=r:=z2Y _ _
 have cr:∀ x∈trn r T,x.length=r:=fun x hx=>by rw[z5H hx,t.len]
 have tt:trn r (trn r T)=T:=zlm t.rows t.len
 have dr:∀ x∈S.map (·.drop r),x.length=n:=fun x hx=>by
   obtain⟨y,hy,rfl⟩:=List.mem_map.mp hx
   rw[List.length_drop,(As.mem hy).1];omega
 have hs:=z9o (r:=r) ss
 rw[z9p cr (by rw[cl,m.wl])]at hs
 have wT:z3D r w T:=fun i hi=>sT.iff.mpr (m.whole i hi)
 have wC:=t.comm wT
 have wA:z3D r w (S.map (·.take r)):=fun i hi=>hs.iff.mpr (wC i hi)
 have eq:∀ y,Span (vecs (trn r A)) y↔Span (vecs (trn r (trn r T))) y:=fun y=>by rw[tt];exact sT.symm.iff
 have pc:=zbp (r:=r) S
 refine⟨sq,by rw[List.length_map,sl],dr,sq.comm wA,fun b hb=>?_,fun ζ κ=>?_⟩
 · rw[m.ker b hb]
   refine and_congr_right fun _=>?_
   rw[eq,←zfW (n:=n) cr (by rw[cl,m.wl]),←zfW (n:=n) sq.rows (by simp),pc]
   exact EqP.same ss.symm
 · obtain⟨z,hz⟩:=lift ss.symm As ζ
   obtain⟨b,h1,h2,h3⟩:=m.onto z κ
   refine⟨b,h1,h2,?_⟩
   obtain⟨c,hc⟩:=(z2L cr).mp ((eq _).mp h3)
   have pl:(pair (trn r T) W).length=r:=by rw[z46 (by rw[cl,m.wl]),cl]
   have:=hz (fun_ r n c b) (z7l r n c b) fun l hl=>by
     rw[pl]at hl
     have e:=hc l
     rw[if_pos hl]at e
     rw[z47 cr (by rw[cl,m.wl]) c l (by omega)]
     omega
   refine(z2L sq.rows).mpr ⟨c,fun i=>?_⟩
   by_cases hi:i<r
   · have e:=this i (by omega)
     rw[←pc]at e
     rw[z47 sq.rows (by simp) c i (by rw[sq.len];exact hi)]at e
     rw[if_pos hi]
     omega
   · rw[if_neg hi,show wts n (S.map (·.drop r)) b i=0 from z0O fun k _=>by rw[z10 (by simp[sl];omega)];simp]
     rw[z0O fun j _=>by rw[z10 (by rw[sq.len];omega)];simp];rfl
end St

end
section
set_option linter.all false
set_option maxRecDepth 100000
namespace St
open Lat
def pr(A:List Row):Nat→Int
 | 0=>1
 | k+1=>pr A k*ent A k k
theorem zie{T:List Vec}{R:Nat→Vec}(c:Nat→Int):∀ m,(∀ j,j<m→Span T (R j))→Span T (fun k=>sm m (fun j=>c j*R j k)):=by
 intro m
 induction m generalizing c R with
 | zero=>intro _;exact Span.zero
 | succ m ih=>intro h;exact((h 0 (by omega)).smul (c 0)).add (ih (R:=fun j=>R (j+1)) (fun j=>c (j+1)) fun j hj=>h (j+1) (by omega))
theorem zbq{D:List Row}(hl:∀ i j,i<j→ent D i j=0):∀ i,i≤D.length→∀ j,j<i→Span (vecs D) (pt j (pr D i)):=by
 intro i
 induction i with
 | zero=>intro _ j hj;omega
 | succ i ih =>
  intro hi j hj
  have ih:=ih (by omega)
  by_cases e:j<i
  · refine Span.congr (fun k=>?_) ((ih j e).smul (ent D i i))
    simp only[pt,pr];split
    · exact Int.mul_comm _ _
    · simp
  · have e:j=i:=by omega
    subst e
    refine Span.congr (fun k=>?_) (((z45 (A:=D) (i:=j) (by omega)).smul (pr D j)).sub (zie (R:=fun l=>pt l (pr D j)) (fun l=>ent D j l) j ih))
    by_cases h1:k<j
    · rw[z37 h1 fun l _ hn=>by simp only[pt];rw[if_neg (by omega)];simp]
      simp only[pt,if_true];rw[if_neg (by omega),Int.mul_comm];omega
    · rw[z0O fun l hl=>by simp only[pt];rw[if_neg (by omega)];simp]
      by_cases h2:k=j
      · subst h2;simp[pt,pr]
      · rw[hl j k (by omega)];simp[pt,h2]
theorem zbr{A B:List Row}:∀{k:Nat},(∀ i,i<k→ent A i i=ent B i i)→pr A k=pr B k
 | 0,_=>rfl
 | k+1,h=>by rw[pr,pr,zbr fun i hi=>h i (by omega),h k (by omega)]
theorem zif{A:List Row}:∀{k:Nat},(∀ i,i<k→0<ent A i i)→0<pr A k
 | 0,_=>by show(0:Int)<1;decide
 | k+1,h=>by rw[pr];exact Int.mul_pos (zif fun i hi=>h i (by omega)) (h k (by omega))
variable {r n:Nat}{w:Int}{G K A W T S:List Row}
theorem Sq.prod(q:Sq r A):z3D r (pr A r) (trn r A):=fun i hi=>by
 have:=zbq (D:=trn r A) (fun i j h=>by rw[z2t q.rows];exact q.low h) r (by rw[z2Y];exact Nat.le_refl _) i hi
 rw[zbr (B:=A) fun i _=>by rw[z2t q.rows]]at this
 exact this
theorem Sq.below(q:Sq r A)(h:z3D r w (trn r A)):Below r r w (trn r A) where
 len:=z2Y _ _
 wid:=Nat.le_refl _
 rows x hx:=by rw[z5H hx,q.len]
 pos i hi:=by rw[z2t q.rows];have:=q.pos hi;omega
 low i j h1 h2:=by rw[z2t q.rows];exact q.low h1
 whole i hi:=⟨_,h i hi,by simp[pt],fun k _ hn=>by simp[pt,hn]⟩
theorem zig:∀{R:List Row} {cs:List Int} (k:Nat),cs.length=R.length→mix R cs k=sm R.length (fun i=>at0 cs i*ent R i k)
 | [],[],_,_=>rfl
 | x::R,c::cs,k,h=>by
  rw[mix,List.length_cons,sm]
  show c*at0 x k+mix R cs k=_
  rw[zig k (by simpa using h)]
  rfl
theorem Below.ind{N:Nat}{P:List Row}(B:Below r N w P):Ind P:=fun cs hl hz c hc=>by
 have z:=z82 (m:=r) (a:=0) (c:=fun i=>at0 cs i) (D:=fun l j=>ent P l j) B.pos B.low fun j _ _=>by
  have:=hz j
  rw[zig j hl,B.len]at this;exact this
 obtain⟨i,hi,rfl⟩:=List.getElem_of_mem hc
 have e:=z (r-i) i (by rw[hl,B.len]at hi;omega) (by omega) (by rw[hl,B.len]at hi;exact hi)
 simpa[at0,List.getD,List.getElem?_eq_getElem hi]using e
theorem Below.full{N:Nat}{P:List Row}(B:Below r N w P)(As:Asc N 0 S)(ss:SameSpan (vecs S) (vecs P)):∀ x∈S,z00 x<r∧hd x∣w:=fun x hx =>
 B.heads (Nat.le_refl r) As (by rw[show P.take r=P by rw[←B.len];exact List.take_length];exact ss) hx
def units(n:Nat):List Row:=(List.range n).map (z5D n)
theorem z6q(n:Nat):(units n).length=n:=by simp[units]
theorem z9q{i k:Nat}(hi:i<n):ent (units n) i k=if k=i∧k<n then 1 else 0:=by
 unfold ent units
 rw[show((List.range n).map (z5D n)).getD i []=z5D n i by simp[List.getD,hi],zbi]
theorem zgX{f:Nat}(As:Asc r f T)(h:∀ i,i<r→∃ x∈T,z00 x=i):r≤T.length:=by
 have:=z36 (l:=List.range r) (m:=T.map z00) id List.nodup_range (fun x _ y _ e=>e) fun i hi=>by
  obtain⟨x,hx,e⟩:=h i (List.mem_range.mp hi)
  exact List.mem_map.mpr ⟨x,hx,e⟩
 simpa using this
theorem start(Ag:Asc n 0 G)(gl:G.length=r)(As:Asc (r+n) 0 S)(Fs:Form 0 (z0F S))(sl:S.length=n)(ss:SameSpan (vecs S) (vecs (pair (trn n G) (units n)))):
   ∃ W,S.filter (fun x=>decide (z00 x<r))=S.take r∧W=(S.take r).map (·.drop r)∧(bots r S).length=n-r∧Mst r n (pr (tops r S) r) G (bots r S) (tops r S) W∧tops r S=(S.take r).map (·.take r)∧r≤n:=by
 have gr:∀ x∈G,x.length=n:=fun x hx=>(Ag.mem hx).1
 have rn:r≤n:=by have:=z4D Ag (Nat.zero_le _);omega
 have cr:∀ x∈trn n G,x.length=r:=fun x hx=>by rw[z5H hx,gl]
 have cl:(trn n G).length=n:=z2Y _ _
 obtain⟨a1,a2⟩:=z5G As (show r≤r+n by omega)
 have hs:=z9o (r:=r) ss
 rw[z9p cr (by rw[cl,z6q])]at hs
 have cover:∀ i,i<r→∃ x∈tops r S,z00 x=i:=fun i hi=>by
   let D:List Row:=(List.range r).map fun i=>(trn n G).getD (z00 (G.getD i [])) []
   have dl:D.length=r:=by simp[D]
   have de:∀ i j,i<r→ent D i j=ent G j (z00 (G.getD i [])):=fun i j hi=>by
     have:D.getD i []=(trn n G).getD (z00 (G.getD i [])) []:=by simp[D,List.getD,hi]
     rw[←z2t gr]
     unfold ent
     rw[this]
   have low:∀ i j,i<j→ent D i j=0:=fun i j h=>by
     by_cases hi:i<r
     · rw[de i j hi]
       by_cases hj:j<r
       · exact z0m _ _ (zi3 Ag h (by rw[gl];exact hj))
       · exact z10 (by rw[gl];omega) _
     · exact z10 (by rw[dl];omega) _
   have sp:=zbq low r (by rw[dl];exact Nat.le_refl _) i hi
   have pos:0<pr D r:=zif fun i hi=>by
     rw[de i i hi]
     exact(zag Ag (k:=i) (by rw[gl];exact hi)).2.2.2
   have sp2:Span (vecs (trn n G)) (pt i (pr D r)):=Span.trans (fun v hv=>by
     obtain⟨x,hx,rfl⟩:=List.mem_map.mp hv
     obtain⟨j,hj,rfl⟩:=List.mem_map.mp hx
     have hj:=List.mem_range.mp hj
     exact z0h (z3B (by rw[cl];exact(zag Ag (k:=j) (by rw[gl];exact hj)).2.2.1))) sp
   have sp3:=hs.iff.mpr sp2
   have sp4:Span (vecs (tops r S)) (pt i (pr D r)):=by
     refine Span.trans (fun v hv=>?_) sp3
     obtain⟨x,hx,rfl⟩:=List.mem_map.mp hv
     obtain⟨y,hy,rfl⟩:=List.mem_map.mp hx
     exact Span.congr (fun k=>by simp only[vec];rw[z1J]) (z9l (n:=r) As (z0h hy))
   exact Asc.first a1 sp4 (fun k hk=>by simp[pt];omega) (by simp[pt];omega)
 have tl:(tops r S).length=r:=by
   have h1:=zgX a1 cover
   have h2:=z4D a1 (Nat.zero_le _)
   omega
 have fl:(S.filter fun x=>decide (z00 x<r)).length=r:=by rw[←a2];exact tl
 have sp:=z53 As (n:=r)
 have tk:S.filter (fun x=>decide (z00 x<r))=S.take r:=by
   have:=congrArg (List.take r) sp
   rw[List.take_left' fl]at this
   exact this.symm
 have dk:S.filter (fun x=>!decide (z00 x<r))=S.drop r:=by
   have:=congrArg (List.drop r) sp
   rw[List.drop_left' fl]at this
   exact this.symm
 have te:tops r S=(S.take r).map (·.take r):=by unfold tops;rw[tk]
 have be:bots r S=(S.drop r).map (·.drop r):=by unfold bots;rw[dk]
 have bl:(bots r S).length=n-r:=by rw[be,List.length_map,List.length_drop,sl]
 have sq:Sq r (tops r S):=⟨a1,z6p As Fs (by omega),tl⟩
 have hS:∀ i,i<r→∀ k,ent S i k=ent (pair (tops r S) ((S.take r).map (·.drop r))) i k:=fun i hi k=>by
   rw[te,zbp,z83 hi]
 have wl:((S.take r).map (·.drop r)).length=r:=by rw[List.length_map,List.length_take,sl];omega
 have zl:∀ j,j<n-r→∀ k,k<r→ent S (r+j) k=0:=fun j hj k hk=>by
   have m:S.getD (r+j) []∈S.filter (fun x=>!decide (z00 x<r)):=by
     rw[dk,show S.getD (r+j) []=(S.drop r).getD j [] by simp[List.getD,List.getElem?_drop]]
     exact z3B (by rw[List.length_drop,sl];exact hj)
   have:=(List.mem_filter.mp m).2
   rw[Bool.not_eq_true',decide_eq_false_iff_not]at this
   exact z0m _ _ (by omega)
 have bk:∀ j,j<n-r→∀ k,ent S (r+j) (r+k)=ent (bots r S) j k:=fun j hj k=>by
   rw[be]
   unfold ent
   rw[show((S.drop r).map (·.drop r)).getD j []=(S.getD (r+j) []).drop r by simp[List.getD,List.getElem?_drop,List.getElem?_eq_getElem (show r+j<S.length by omega)],z2n]
 have fb:∀(c b:Vec) (j:Nat),j<n-r→fun_ r n c b (fun k=>ent S (r+j) k)=wts n (bots r S) b j:=fun c b j hj=>by
   unfold fun_ wts
   rw[z0v (g:=fun k=>ent (bots r S) j k*b k) fun k _=>by show ent S (r+j) (r+k)*b k=_;rw[bk j hj],z0O (m:=r) fun k hk=>by show c k*ent S (r+j) k=0;rw[zl j hj k hk];simp]
   omega
 have fa:∀(c b:Vec) (i:Nat),i<r→fun_ r n c b (fun k=>ent S i k)=wts n ((S.take r).map (·.drop r)) b i-sm r (fun j=>c j*ent (tops r S) i j):=fun c b i hi=>by
   rw[show(fun k=>ent S i k)=fun k=>ent (pair (tops r S) ((S.take r).map (·.drop r))) i k from funext (hS i hi)]
   exact z47 sq.rows (by rw[tl,wl]) c i (by rw[tl];exact hi)
 have fp:∀(c b:Vec) (l:Nat),l<n→fun_ r n c b (fun k=>ent (pair (trn n G) (units n)) l k)=b l-sm r (fun j=>c j*ent G j l):=fun c b l hl=>by
   rw[z47 cr (by rw[cl,z6q]) c l (by rw[cl];exact hl)]
   congr 1
   · unfold wts
     rw[z37 hl fun k _ hn=>by rw[z9q hl,if_neg (by omega)];simp,z9q hl,if_pos ⟨rfl,hl⟩];simp
   · exact z0v fun j _=>by rw[z2t gr]
 have pl:(pair (trn n G) (units n)).length=n:=by rw[z46 (by rw[cl,z6q]),cl]
 refine⟨_,tk,rfl,bl,⟨sq,wl,fun x hx=>?_,sq.prod,fun b hb=>?_,fun ζ κ=>?_⟩,te,rn⟩
 · obtain⟨y,hy,rfl⟩:=List.mem_map.mp hx
   rw[List.length_drop,(As.mem (List.mem_of_mem_take hy)).1];omega
 · have e1:Span (vecs G) b↔EqP r n (pair (trn n G) (units n)) b:=by
     rw[z1x,gl]
     constructor
     · rintro⟨c,h⟩
       exact⟨c,fun l hl=>by rw[fp c b l (by omega),h l];omega⟩
     · rintro⟨c,h⟩
       refine⟨c,fun k=>?_⟩
       by_cases hk:k<n
       · have:=h k (by omega)
         rw[fp c b k hk]at this;omega
       · rw[hb k (by omega)]
         exact(z0O fun j _=>by rw[zai gr (by omega)];simp).symm
   rw[e1,EqP.same ss.symm,bl,z2L sq.rows]
   constructor
   · rintro⟨c,h⟩
     refine⟨fun j hj=>by rw[←fb c b j hj];exact h _ (by omega),c,fun k=>?_⟩
     by_cases hk:k<r
     · have:=h k (by omega)
       rw[fa c b k hk]at this;omega
     · rw[show wts n ((S.take r).map (·.drop r)) b k=0 from z0O fun j _=>by rw[z10 (by rw[wl];omega)];simp]
       exact(z0O fun j _=>by rw[z10 (by rw[tl];omega)];simp).symm
   · rintro⟨h1,c,h2⟩
     refine⟨c,fun l hl=>?_⟩
     by_cases hk:l<r
     · rw[fa c b l hk,h2 l];omega
     · have:=h1 (l-r) (by omega)
       rw[←fb c b (l-r) (by omega),show r+(l-r)=l by omega]at this
       exact this
 · obtain⟨z,hz⟩:=lift ss.symm As (fun i=>if i<r then ζ i else κ (i-r))
   have:=hz (fun_ r n (fun _=>0) (fun k=>if k<n then z k else 0)) (z7l _ _ _ _) fun l hl=>by
     rw[fp _ _ l (by omega),if_pos (by omega),z0O fun j _=>by simp];omega
   refine⟨fun k=>if k<n then z k else 0,fun k hk=>if_neg (by omega),fun j hj=>?_,?_⟩
   · have e:=this (r+j) (by omega)
     rw[fb _ _ j (by omega),if_neg (by omega),show r+j-r=j by omega]at e
     exact e
   · refine Span.congr (fun i=>?_) Span.zero
     by_cases hi:i<r
     · have e:=this i (by omega)
       rw[fa _ _ i hi,if_pos hi,z0O fun j _=>by simp]at e
       rw[if_pos hi];omega
     · rw[if_neg hi,show wts n ((S.take r).map (·.drop r)) _ i=0 from z0O fun j _=>by rw[z10 (by rw[wl];omega)];simp];rfl
end St

end
section
set_option linter.all false
set_option maxRecDepth 100000
namespace St
open Lat
abbrev Meas:=List (Row×Int)
def mw(M:Meas)(i:Nat):Row:=(M.getD i ([],0)).1
def mp(M:Meas)(i:Nat):Int:=(M.getD i ([],0)).2
def dt(n:Nat)(w:Row)(b:Vec):Int:=sm n (fun k=>at0 w k*b k)
structure Ms(n:Nat)(G:List Row)(M:Meas):Prop where
 rows:∀ x∈M,x.1.length=n
 ker:∀ b:Vec,(∀ k,n≤k→b k=0)→(Span (vecs G) b↔∀ i,i<M.length→mp M i∣dt n (mw M i) b)
 onto:∀ ζ:Vec,∃ b:Vec,(∀ k,n≤k→b k=0)∧∀ i,i<M.length→mp M i∣dt n (mw M i) b-ζ i
variable {n:Nat}{G:List Row}{M M':Meas}
theorem Ms.rest(m:Ms n G M)(hr:∀ x∈M',x.1.length=n)(hl:M'.length=M.length)(hp:∀ i,i<M.length→mp M' i=mp M i)(hd:∀ i,i<M.length→∀ b:Vec,mp M i∣dt n (mw M' i) b-dt n (mw M i) b):Ms n G M':=by
 refine⟨hr,fun b hb=>?_,fun ζ=>?_⟩
 · rw[m.ker b hb,hl]
   refine forall_congr' fun i=>forall_congr' fun hi=>?_
   rw[hp i hi]
   have:=hd i hi b
   constructor
   · intro h;have:=Int.dvd_add this h;rwa [Int.sub_add_cancel]at this
   · intro h;have:=Int.dvd_sub h this;rwa [show dt n (mw M' i) b-(dt n (mw M' i) b-dt n (mw M i) b)=dt n (mw M i) b by omega]at this
 · obtain⟨b,h1,h2⟩:=m.onto ζ
   refine⟨b,h1,fun i hi=>?_⟩
   rw[hl]at hi
   rw[hp i hi]
   have:=Int.dvd_add (hd i hi b) (h2 i hi)
   rwa [show dt n (mw M' i) b-dt n (mw M i) b+(dt n (mw M i) b-ζ i)=dt n (mw M' i) b-ζ i by omega]at this
end St

end
section
set_option linter.all false
set_option maxRecDepth 100000
namespace St
open Lat
variable {n:Nat}{G:List Row}{M:Meas}
end St

end
section
set_option linter.all false
set_option maxRecDepth 100000
namespace St
open Lat
variable {r:Nat}{A D:List Row}
end St

end
section
set_option linter.all false
set_option maxRecDepth 100000
namespace St
open Lat
variable {n:Nat}{G:List Row}{M K0:Meas}
structure Bz(g f1 f2 a b a' b':Int):Prop where
 gp:0<g
 ea:a=g*a'
 eb:b=g*b'
 one:f1*a'+f2*b'=1
theorem Bz.of{g f1 f2 a b:Int}(gp:0<g)(ga:g∣a)(gb:g∣b)(h:f1*a+f2*b=g):Bz g f1 f2 a b (a / g) (b / g):=by
 obtain⟨a',rfl⟩:=ga
 obtain⟨b',rfl⟩:=gb
 rw[Int.mul_ediv_cancel_left _ (by omega),Int.mul_ediv_cancel_left _ (by omega)]
 refine⟨gp,rfl,rfl,?_⟩
 have:g*(f1*a'+f2*b')=g*1:=by grind
 exact Int.eq_of_mul_eq_mul_left (by omega) this
structure Chn(w:Int)(t s:Nat)(M:Meas):Prop where
 pos:∀ i,i<M.length→0<mp M i
 whole:∀ i,i<M.length→mp M i∣w
 all:∀ i j,i<t→i<j→j<M.length→mp M i∣mp M j
 here:∀ j,t<j→j<s→j<M.length→mp M t∣mp M j
theorem Chn.next{w:Int}{t s:Nat}(c:Chn w t s M)(h:M.length≤s):Chn w (t+1) (t+2) M :=
 ⟨c.pos,c.whole,fun i j h1 h2 h3=>by
  by_cases e:i<t
  · exact c.all i j e h2 h3
  · have:i=t:=by omega
    subst this
    exact c.here j h2 (by omega) h3,fun j h1 h2=>by omega⟩
theorem Chn.first{w:Int}(hp:∀ i,i<M.length→0<mp M i)(hw:∀ i,i<M.length→mp M i∣w):Chn w 0 1 M:=⟨hp,hw,fun i j h=>by omega,fun j h1 h2=>by omega⟩
end St

end
section
set_option linter.all false
set_option maxRecDepth 100000
namespace St
open Lat
theorem Good.sq{r N B:Nat}{w:Int}{P S:List Row}(G:Good N B P S)(b:Below r N w P):S.length=r∧∀ x∈S,z00 x<r:=by
 refine⟨by rw[G.full b.ind,b.len],fun x hx=>(b.full G.asc G.span x hx).1⟩
end St

end
section
local macro_rules|`(tactic| omega)=>`(tactic| first|lia|omega +splitDisjunctions)
set_option linter.all false
set_option maxRecDepth 100000
namespace L2
open PySem
theorem zak{a b:List Int}(h:a.length=b.length)(k:Nat):St.at0 (addR a b) k=St.at0 a k+St.at0 b k:=by
 have e:addR a b=St.lin 1 a 1 b:=by unfold addR St.lin;congr 1;funext x y;omega
 rw[e,St.z7j h];omega
theorem z7m(q:Int)(a:List Int)(k:Nat):St.at0 (sclR q a) k=q*St.at0 a k:=by
 simp only[St.at0,sclR,List.getD,List.getElem?_map]
 cases a[k]?<;>simp
theorem zbs(n:Nat):z1B n=St.zfR n:=by unfold z1B St.zfR;simp
theorem z9r(n k:Nat):St.at0 (z1B n) k=0:=by rw[zbs];exact St.zgP n k
theorem zbt{n:Nat}:∀(rows:List (List Int)) (cs:List Int) (t:List Int),t.length=n→(∀ r∈rows,r.length=n)→∀ k,St.at0 ((rows.zip cs).foldl (fun t p=>addR t (sclR p.2 p.1)) t) k=St.at0 t k+St.mix rows cs k
 | [],cs,t,_,_,k=>by simp[St.mix]
 | r::rows,[],t,_,_,k=>by simp[St.mix]
 | r::rows,c::cs,t,ht,hw,k=>by
  have hr:=hw r List.mem_cons_self
  rw[List.zip_cons_cons,List.foldl_cons,zbt rows cs _ (by rw[z7Q (by rw[z1Y,ht,hr])];exact ht) (fun x hx=>hw x (List.mem_cons_of_mem _ hx)),zak (by rw[z1Y,ht,hr]),z7m]
  show St.at0 t k+c*St.at0 r k+St.mix rows cs k=St.at0 t k+(c*St.at0 r k+St.mix rows cs k)
  omega
theorem zih{n:Nat}{rows:List (List Int)}{cs:List Int}(hw:∀ r∈rows,r.length=n)(k:Nat):St.at0 (mixR n rows cs) k=St.mix rows cs k:=by
 unfold mixR
 rw[zbt rows cs (z1B n) z28 hw,z9r];omega
theorem zero_add{n:Nat}{v:List Int}(hv:v.length=n):addR (z1B n) v=v:=St.ext0 (by rw[z7Q (by rw[z28,hv]),z28,hv]) fun k=>by rw[zak (by rw[z28,hv]),z9r];omega
theorem zii{r:List Int}{x:Int}(h:x∈r):∃ k,St.at0 r k=x:=by
 obtain⟨k,hk,e⟩:=List.mem_iff_getElem.mp h
 exact⟨k,by simp[St.at0,List.getD,List.getElem?_eq_getElem hk,e]⟩
end L2
namespace L2
open PySem
theorem z0H{i j:Int}(h:0<j):z1d i j=true:=by unfold z1d;rw[decide_eq_true (show j≠0 by omega)]
end L2
namespace L2
open PySem
theorem us0{P:List Value→Prop}(h:P []):∀ us:List Value,us.length=0→P us:=fun us hl=>(List.length_eq_zero_iff.mp hl).symm ▸ h
theorem usS{P:List Value→Prop}{n:Nat}(h:∀ a us,us.length=n→P (a::us)):∀ us:List Value,us.length=n+1→P us:=fun us hl=>by
 cases us with
 | nil=>cases hl
 | cons a us=>exact h a us (Nat.succ.inj hl)
theorem us1{P:List Value→Prop}(h:∀ a,P [a]):∀ us:List Value,us.length=1→P us:=usS fun a=>us0 (h a)
theorem us2{P:List Value→Prop}(h:∀ a b,P [a,b]):∀ us:List Value,us.length=2→P us:=usS fun a=>(usS fun b=>us0 (h a b))
theorem us3{P:List Value→Prop}(h:∀ a b c,P [a,b,c]):∀ us:List Value,us.length=3→P us:=usS fun a=>(usS fun b=>(usS fun c=>us0 (h a b c)))
theorem us4{P:List Value→Prop}(h:∀ a b c d,P [a,b,c,d]):∀ us:List Value,us.length=4→P us:=usS fun a=>(usS fun b=>(usS fun c=>(usS fun d=>us0 (h a b c d))))
end L2

end
section
set_option Elab.async false
set_option linter.all false
set_option maxRecDepth 100000
set_option maxHeartbeats 1000000
namespace K31
open PySem L2
noncomputable section
def z54:FS:=(sRet (vAnd (fIsi "int" (fN 0)) (vNot (fIsi "bool" (fN 0)))))
def z29:FC:=cOf 1 1 true z54
def z84:FS:=(sSeq (sIf (fOr (fNot (fTru (fIsi "list" (fN 0)))) (z0e (fOp opNe (fBlt bLen (z02 (fN 0) fNil)) (fN 1)))) (sRet (fC (.bl false))) z0w)
 (sRet (fBlt bAll (z02 (z0k 1 [] (iSeq (fN 0)) (Tg.one 0) fYes (z08 true z29 (z02 (fN 0) fNil))) fNil))))
def z48:FC:=cOf 2 2 true z84
def zal:FS:=(sRet (z0k 2 [] (iZip (fN 0) (fN 1)) (Tg.many [0,1]) fYes (fOp z0n (fN 0) (fN 1))))
def z7n:FC:=cOf 2 2 true zal
def zam:FS:=(sRet (z0k 2 [] (iZip (fN 0) (fN 1)) (Tg.many [0,1]) fYes (fOp z1h (fN 0) (fN 1))))
def z4E:FC:=cOf 2 2 true zam
def z85:FS:=(sRet (z0k 1 [1] (iSeq (fN 0)) (Tg.one 0) fYes (fOp z0W (fN 1) (fN 0))))
def z1e:FC:=cOf 2 2 true z85
def z6r:FS:=(sSeq (sFor [] (z5s (fN 0)) (Tg.many [1,2])
 (sIf (z0e (fOp opNe (fN 2) (fC (.int 0)))) (sRet (fN 1)) z0w))
 (sRet (fBlt bLen (z02 (fN 0) fNil))))
def z0i:FC:=cOf 1 3 true z6r
def z49:FS:=(sRet (vAnd (z08 true z29 (z02 (fN 0) fNil)) (z7E opLe opLe (fC (.int 1)) (fN 0) (fC (.int 6)))))
def z2Z:FC:=cOf 1 1 true z49
def z6s:FS:=(sRet (vAnd (z08 true z48 (z02 (fN 0) (z02 (fN 1) fNil))) (fBlt bAll (z02 (z0k 1 [] (iSeq (fN 0)) (Tg.one 0) fYes (fOp opLt (fBlt bAbs (z02 (fN 0) fNil)) (fOp z92 (fC (.int 10)) (fC (.int 30))))) fNil))))
def z4F:FC:=cOf 2 2 true z6s
def z3E:FS:=(sIf (fNot (fTru (z08 true z2Z (z02 (fN 0) fNil)))) z6c z0w)
def z2u:FC:=cOf 1 1 true z3E
def z4a:FS:=(sIf (fNot (fTru (z08 true z4F (z02 (fN 0) (z02 (fN 1) fNil))))) z6c z0w)
def z1T:FC:=cOf 2 2 true z4a
def z6t:FS:=(sRet (fTup (z02 (fN 0) (z02 (fBlt bTup (z02 (z0k 1 [] (iSeq (fN 1)) (Tg.one 0) fYes (fBlt bTup (z02 (fN 0) fNil))) fNil)) fNil))))
def z4G:FC:=cOf 2 2 true z6t
def z6u:FS:=(sSeq (z4Q (z08 true z2u (z02 (fN 0) fNil)))
 (sSeq (sIf (fOr (fNot (fTru (fIsi "list" (fN 1)))) (z0e (fOp opGt (fBlt bLen (z02 (fN 1) fNil)) (fC (.int 8))))) z6c z0w)
 (sSeq (sFor [] (iSeq (fN 1)) (Tg.one 2)
 (z4Q (z08 true z1T (z02 (fN 2) (z02 (fN 0) fNil)))))
 (sRet (z08 true z4G (z02 (fN 0) (z02 (fN 1) fNil)))))))
def z2A:FC:=cOf 2 3 true z6u
def z2a:FS:=(sIf (fNot (fTru (z08 true z48 (z02 (fN 1) (z02 (fN 0) fNil))))) z6c z0w)
def z1y:FC:=cOf 2 2 true z2a
def z38:FS:=(z4Q (z08 true z1y (z02 (fAt (fN 0) (fC (.int 0))) (z02 (fN 1) fNil))))
def z1K:FC:=cOf 2 2 true z38
def z86:FS:=(sSeq (sSet [] 2 (fLst (z02 (fN 0) (z02 (fC (.int 1)) (z02 (fC (.int 0)) fNil)))))
 (sSeq (sSet [] 3 (fLst (z02 (fN 1) (z02 (fC (.int 0)) (z02 (fC (.int 1)) fNil)))))
 (sSeq (z1D (z0e (fOp opNe (fAt (fN 3) (fC (.int 0))) (fC (.int 0)))) (sSeq (sSet [] 4 (fOp z22 (fAt (fN 2) (fC (.int 0))) (fAt (fN 3) (fC (.int 0)))))
 (sSeq (sSet [] 5 (z0k 1 [2,4,3] (z0A (fC (.int 3))) (Tg.one 0) fYes (fOp z1h (fAt (fN 1) (fN 0)) (fOp z0W (fN 2) (fAt (fN 3) (fN 0))))))
 (sSeq (sSet [] 2 (fN 3))
 (sSet [] 3 (fN 5))))))
 (sSeq (sIf (z0e (fOp opLt (fAt (fN 2) (fC (.int 0))) (fC (.int 0)))) (sSet [] 2 (z0k 1 [] (iSeq (fN 2)) (Tg.one 0) fYes (fNeg (fN 0)))) z0w)
 (sRet (fBlt bTup (z02 (fN 2) fNil)))))))
def z5I:FC:=cOf 2 6 true z86
def z55:FS:=(sSeq (sSet [] 2 (fBlt bLst (z02 (fN 0) fNil)))
 (sSeq (sOwn 3 (fLst fNil))
 (sSeq (sFor [] (iSeq (fN 1)) (Tg.one 4)
 (sSeq (sSet [] 5 (z08 true z0i (z02 (fN 4) fNil)))
 (sSeq (sSet [] 6 (fOp z22 (fAt (fN 2) (fN 5)) (fAt (fN 4) (fN 5))))
 (sSeq (sIf (z0e (fOp opNe (fN 6) (fC (.int 0)))) (sSet [] 2 (z08 true z4E (z02 (fN 2) (z02 (z08 true z1e (z02 (fN 4) (z02 (fN 6) fNil))) fNil)))) z0w)
 (sWr wApp 3 (fN 6))))))
 (sRet (fTup (z02 (fN 3) (z02 (fN 2) fNil)))))))
def z3F:FC:=cOf 2 7 true z55
def z6v:FS:=(sRet (fAt (z08 true z3F (z02 (fN 0) (z02 (fN 1) fNil))) (fC (.int 1))))
def z0U:FC:=cOf 2 2 true z6v
def z6w:FS:=(sSeq (sSet [] 2 (z08 true z0i (z02 (fN 0) fNil)))
 (sSeq (sSet [] 3 (z08 true z5I (z02 (fAt (fN 0) (fN 2)) (z02 (fAt (fN 1) (fN 2)) fNil))))
 (sSeq (sSet [] 4 (z08 true z7n (z02 (z08 true z1e (z02 (fN 0) (z02 (fAt (fN 3) (fC (.int 1))) fNil))) (z02 (z08 true z1e (z02 (fN 1) (z02 (fAt (fN 3) (fC (.int 2))) fNil))) fNil))))
 (sSeq (sSet [] 5 (z08 true z4E (z02 (z08 true z1e (z02 (fN 1) (z02 (fOp z22 (fAt (fN 0) (fN 2)) (fAt (fN 3) (fC (.int 0)))) fNil))) (z02 (z08 true z1e (z02 (fN 0) (z02 (fOp z22 (fAt (fN 1) (fN 2)) (fAt (fN 3) (fC (.int 0)))) fNil))) fNil))))
 (sRet (fTup (z02 (fN 4) (z02 (fN 5) fNil))))))))
def z2B:FC:=cOf 2 6 true z6w
def z4b:FS:=(sRet (fIf (z0e (fOp opLt (fAt (fN 0) (z08 true z0i (z02 (fN 0) fNil))) (fC (.int 0)))) (z08 true z1e (z02 (fN 0) (z02 (fNeg (fC (.int 1))) fNil))) (fBlt bLst (z02 (fN 0) fNil))))
def z11:FC:=cOf 1 1 true z4b
def z2M:FS:=(sSeq (sOwn 2 (fBlt bLst (z02 (fN 0) fNil)))
 (sSeq (z2V 3 (z08 true z0U (z02 (fN 1) (z02 (fN 2) fNil))))
 (sSeq (z1D (z0e (fOp opLt (z08 true z0i (z02 (fN 3) fNil)) (fBlt bLen (z02 (fN 3) fNil)))) (sSeq (z2V 4 (z0k 2 [3] (z5s (fN 2)) (Tg.many [0,1]) (z0e (fOp opEq (z08 true z0i (z02 (fN 1) fNil)) (z08 true z0i (z02 (fN 2) fNil)))) (fN 0)))
 (sSeq (sIf (z0e (fOp opEq (fBlt bLen (z02 (fN 4) fNil)) (fC (.int 0)))) (sRet (z51 z0i (fOp z0n (fN 2) (fLst (z02 (z08 true z11 (z02 (fN 3) fNil)) fNil))))) z0w)
 (sSeq (z2V 5 (z08 true z2B (z02 (fAt (fN 2) (fAt (fN 4) (fC (.int 0)))) (z02 (fN 3) fNil))))
 (sSeq (sPut 2 (fAt (fN 4) (fC (.int 0))) (fAt (fN 5) (fC (.int 0))))
 (z2V 3 (z08 true z0U (z02 (fAt (fN 5) (fC (.int 1))) (z02 (fN 2) fNil)))))))))
 (sRet (fN 2)))))
def z2b:FC:=cOf 2 6 false z2M
def z87:FS:=(sSeq (sOwn 1 (fLst fNil))
 (sSeq (sFor [] (iRev (fN 0)) (Tg.one 2)
 (sWrA z7K 1 (z08 true z0U (z02 (fN 2) (z02 (fN 1) fNil)))))
 (sRet (fN 1))))
def z4c:FC:=cOf 1 3 true z87
def z6x:FS:=(sSeq (sSet [] 1 (fLst fNil))
 (sSeq (sFor [] (iSeq (fN 0)) (Tg.one 2)
 (sSet [] 1 (z08 true z4c (z02 (z08 false z2b (z02 (fN 1) (z02 (fN 2) fNil))) fNil))))
 (sRet (fN 1))))
def z2C:FC:=cOf 1 3 true z6x
def z2N:FS:=(sRet (z08 true z2C (z02 (z0k 2 [] (iZip (fN 0) (fN 1)) (Tg.many [0,1]) fYes (fOp z0n (fBlt bLst (z02 (fN 0) fNil)) (fBlt bLst (z02 (fN 1) fNil)))) fNil)))
def z1n:FC:=cOf 2 2 true z2N
def z2c:FS:=(sRet (z0k 1 [1] (iSeq (fN 0)) (Tg.one 0) (z0e (fOp opGe (z08 true z0i (z02 (fN 0) fNil)) (fN 1))) (fSl (fN 0) (zfG (fN 1)) z7h)))
def z18:FC:=cOf 2 2 true z2c
def zan:FS:=(sRet (z08 true z2C (z02 (fAt (fN 0) (fC (.int 1))) fNil)))
def z4H:FC:=cOf 1 1 true zan
def zfX:FS:=(sSeq (z4Q (z08 true z1K (z02 (fN 0) (z02 (fN 1) fNil))))
 (sSeq (sSet [] 2 (fOp z0n (fLst (z02 (fN 1) fNil)) (fBlt bLst (z02 (fAt (fN 0) (fC (.int 1))) fNil))))
 (sSeq (sSet [] 3 (z08 true z18 (z02 (z08 true z1n (z02 (fN 2) (z02 (fOp z0n (fLst (z02 (fLst (z02 (fC (.int 1)) fNil)) fNil)) (z0k 1 [] (iSeq (fAt (fN 0) (fC (.int 1)))) (Tg.one 0) fYes (fLst (z02 (fC (.int 0)) fNil)))) fNil))) (z02 (fAt (fN 0) (fC (.int 0))) fNil))))
 (sRet (fIf (z0e (fOp opGt (fBlt bLen (z02 (fN 3) fNil)) (fC (.int 0)))) (fAt (fAt (fN 3) (fC (.int 0))) (fC (.int 0))) (fC .non))))))
def z1N:FC:=cOf 2 4 true zfX
def z2O:FS:=(sSeq (sOwn 1 (fLst fNil))
 (sSeq (sSet [] 2 (fN 0))
 (sSeq (sSet [] 3 (fC (.int 2)))
 (sSeq (z1D (z0e (fOp opGt (fN 2) (fC (.int 1)))) (sSeq (sIf (z0e (fOp opGt (fOp z0W (fN 3) (fN 3)) (fN 2))) (sSet [] 3 (fN 2)) z0w)
 (sSeq (sSet [] 4 (fC (.int 1)))
 (sSeq (z1D (z0e (fOp opEq (fOp z0Q (fN 2) (fN 3)) (fC (.int 0)))) (sSeq (sSet [] 4 (fOp z0W (fN 4) (fN 3)))
 (sSet [] 2 (fOp z22 (fN 2) (fN 3)))))
 (sSeq (sIf (z0e (fOp opGt (fN 4) (fC (.int 1)))) (sWr wApp 1 (fTup (z02 (fN 3) (z02 (fN 4) fNil)))) z0w)
 (sSet [] 3 (fOp z0n (fN 3) (fC (.int 1)))))))))
 (sRet (fN 1))))))
def z20:FC:=cOf 1 5 true z2O
def z4d:FS:=(sSeq (sSet [] 2 (fOp z22 (fN 1) (fN 0)))
 (sRet (fOp z0Q (fOp z0W (fN 2) (fAt (z08 true z5I (z02 (fN 2) (z02 (fN 0) fNil))) (fC (.int 1)))) (fN 1))))
def z2o:FC:=cOf 2 3 true z4d
def z88:FS:=(sSeq (sSet [] 2 (z08 true z1N (z02 (fN 0) (z02 (fN 1) fNil))))
 (sSeq (sIf (fOr (z0e (fOp zfC (fN 2) (fC .non))) (z0e (fOp opGt (fN 2) (fC (.int 1000000))))) z6c z0w)
 (sRet (z0k 2 [1,2] (iSeq (z08 true z20 (z02 (fN 2) fNil))) (Tg.many [0,1]) fYes (fTup (z02 (fN 0) (z02 (z08 true z1e (z02 (fN 2) (z02 (z08 true z2o (z02 (fN 1) (z02 (fN 3) fNil))) fNil))) fNil)))))))
def z4e:FC:=cOf 2 3 true z88
def z4f:FS:=(sSeq (sIf (z0e (fOp opLt (fN 1) (fBlt bLen (z02 (fN 0) fNil)))) (sRet (fAt (fN 0) (fN 1))) z0w)
 (sSeq (sIf (z0e (fOp opEq (fN 0) (fLst fNil))) (sRet (fC (.int 0))) z0w)
 (sRet (fOp z0n (fOp z0W (fAt (fN 0) (fOp z0Q (fN 1) (fBlt bLen (z02 (fN 0) fNil)))) (fC (.int 31))) (fN 1)))))
def z0f:FC:=cOf 2 2 true z4f
def z6y:FS:=(sRet (vAnd (fIsi "int" (fN 0)) (vNot (fIsi "bool" (fN 0)))))
def z1U:FC:=cOf 1 1 true z6y
def z56:FS:=(sSeq (sIf (fOr (fNot (fTru (fIsi "list" (fN 0)))) (z0e (fOp opNe (fBlt bLen (z02 (fN 0) fNil)) (fN 1)))) (sRet (fC (.bl false))) z0w)
 (sSeq (sFor [] (iSeq (fN 0)) (Tg.one 2)
 (sIf (fNot (fTru (z08 true z1U (z02 (fN 2) fNil)))) (sRet (fC (.bl false))) z0w))
 (sRet (fC (.bl true)))))
def z3G:FC:=cOf 2 3 true z56
def z2P:FS:=(sSeq (sIf (z0e (fOp opEq (fN 1) (fC (.int 2)))) (sSeq (sSet [] 2 (fOp z0Q (fN 0) (fOp z92 (fC (.int 10)) (fC (.int 30)))))
 (sSeq (sIf (z0e (fOp opEq (fOp z0Q (fOp z22 (fN 0) (fOp z92 (fC (.int 10)) (fC (.int 30)))) (fC (.int 2))) (fC (.int 1)))) (sRet (fNeg (fN 2))) z0w)
 (sRet (fN 2)))) z0w)
 (sSeq (sSet [] 3 (fAt (fLst (z02 (fC (.int 9)) (z02 (fC (.int 61)) fNil))) (fN 1)))
 (sSeq (sSet [] 2 (fOp z0Q (fN 0) (fN 3)))
 (sSeq (sIf (z0e (fOp opGt (fN 2) (fOp z22 (fN 3) (fC (.int 2))))) (sRet (fOp z1h (fN 2) (fN 3))) z0w)
 (sRet (fN 2))))))
def z2d:FC:=cOf 2 4 true z2P
def zao:FS:=(sRet (z0k 1 [0,1,3] (z0A (fN 2)) (Tg.one 0) fYes (z08 true z2d (z02 (z08 true z0f (z02 (fN 1) (z02 (fOp z0n (fN 2) (fN 0)) fNil))) (z02 (fN 3) fNil)))))
def z30:FC:=cOf 4 4 true zao
def z89:FS:=(sRet (z0k 1 [0,2,1] (z0A (fBlt bLen (z02 (fN 0) fNil))) (Tg.one 0) fYes (fOp z0n (fAt (fN 1) (fN 0)) (fOp z0W (fN 2) (fAt (fN 3) (fN 0))))))
def z2Q:FC:=cOf 3 3 true z89
def z8a:FS:=(sSeq (sSet [] 1 (fC (.int 0)))
 (sSeq (z1D (fAnd (z0e (fOp opLt (fN 1) (fBlt bLen (z02 (fN 0) fNil)))) (z0e (fOp opEq (fAt (fN 0) (fN 1)) (fC (.int 0))))) (sSet [] 1 (fOp z0n (fN 1) (fC (.int 1)))))
 (sRet (fN 1))))
def z4g:FC:=cOf 1 2 true z8a
def z8b:FS:=(sSeq (sSet [] 2 (fBlt bLst (z02 (fN 1) fNil)))
 (sSeq (sFor [] (iSeq (fN 0)) (Tg.one 3)
 (sSeq (sSet [] 4 (z08 true z4g (z02 (fN 3) fNil)))
 (sSet [] 2 (z08 true z2Q (z02 (fN 2) (z02 (fN 3) (z02 (fNeg (fOp z22 (fAt (fN 2) (fN 4)) (fAt (fN 3) (fN 4)))) fNil)))))))
 (sRet (fN 2))))
def z2p:FC:=cOf 2 5 true z8b
def z57:FS:=(sRet (z0k 1 [] (iSeq (fN 0)) (Tg.one 0) fYes (fBlt bLst (z02 (fN 0) fNil))))
def z2R:FC:=cOf 1 1 true z57
def zfY:FS:=(sSeq (sSet [] 1 (fOp z0n (fC (.int 1)) (fOp z0Q (z08 true z0f (z02 (fN 0) (z02 (fC (.int 0)) fNil))) (fC (.int 3)))))
 (sSeq (sOwn 2 (fLst fNil))
 (sSeq (sFor [] (z0A (fN 1)) (Tg.one 3)
 (sSeq (sSet [] 4 (fOp z0n (fC (.int 1)) (fOp z0Q (z08 true z0f (z02 (fN 0) (z02 (fOp z0n (fC (.int 1)) (fN 3)) fNil))) (fC (.int 6)))))
 (sSeq (sIf (fAnd (z0e (fOp opGt (fN 4) (fC (.int 4)))) (z0e (fOp opEq (fN 1) (fC (.int 3))))) (sSet [] 4 (fC (.int 2))) z0w)
 (sSeq (sSet [] 5 (z0k 1 [0,3] (z0A (fOp z1h (fOp z1h (fN 1) (fN 3)) (fC (.int 1)))) (Tg.one 0) fYes (fOp z1h (fOp z0Q (z08 true z0f (z02 (fN 1) (z02 (fOp z0n (fOp z0n (fC (.int 8)) (fOp z0W (fC (.int 3)) (fN 2))) (fN 0)) fNil))) (fC (.int 7))) (fC (.int 3)))))
 (sWr wApp 2 (fOp z0n (fOp z0n (z0k 1 [] (z0A (fN 3)) (Tg.one 0) fYes (fC (.int 0))) (fLst (z02 (fN 4) fNil))) (fN 5)))))))
 (sSeq (sIf (z0e (fOp opEq (fOp z0Q (z08 true z0f (z02 (fN 0) (z02 (fC (.int 4)) fNil))) (fC (.int 3))) (fC (.int 1)))) (sWr wApp 2 (z08 true z30 (z02 (fN 0) (z02 (fC (.int 20)) (z02 (fN 1) (z02 (fC (.int 0)) fNil)))))) z0w)
 (sRet (fTup (z02 (fN 1) (z02 (fN 2) fNil))))))))
def zap:FC:=cOf 1 6 true zfY
def z3H:FS:=(sSeq (sIf (z0e (fOp opLt (fN 0) (fC (.int 2)))) (sRet (fC (.bl false))) z0w)
 (sSeq (sSet [] 1 (fC (.int 2)))
 (sSeq (z1D (z0e (fOp opLe (fOp z0W (fN 1) (fN 1)) (fN 0))) (sSeq (sIf (z0e (fOp opEq (fOp z0Q (fN 0) (fN 1)) (fC (.int 0)))) (sRet (fC (.bl false))) z0w)
 (sSet [] 1 (fOp z0n (fN 1) (fC (.int 1))))))
 (sRet (fC (.bl true))))))
def z3I:FC:=cOf 1 2 true z3H
def z3J:FS:=(sSeq (z1D (z0e (fOp opEq (fOp z0Q (fN 0) (fN 1)) (fC (.int 0)))) (sSet [] 0 (fOp z22 (fN 0) (fN 1))))
 (sRet (fOp opEq (fN 0) (fC (.int 1)))))
def z3K:FC:=cOf 2 2 true z3J
def z4h:FS:=(sSeq (sIf (fOr (fNot (fTru (fIsi "tuple" (fN 0)))) (z0e (fOp opNe (fBlt bLen (z02 (fN 0) fNil)) (fC (.int 2))))) (sRet (fC (.bl false))) z0w)
 (sSeq (sIf (fOr (fNot (fTru (z08 true z1U (z02 (fAt (fN 0) (fC (.int 0))) fNil)))) (fOr (fNot (fTru (z08 true z3G (z02 (fAt (fN 0) (fC (.int 1))) (z02 (fAt (fN 1) (fC (.int 0))) fNil))))) (z0e (fOp opLe (fAt (fN 0) (fC (.int 0))) (fN 2))))) (sRet (fC (.bl false))) z0w)
 (sSeq (sIf (fNot (fTru (z08 true z3I (z02 (fAt (fN 0) (fC (.int 0))) fNil)))) (sRet (fC (.bl false))) z0w)
 (sSeq (sSet [] 3 (z08 true z1N (z02 (fN 1) (z02 (fBlt bLst (z02 (fAt (fN 0) (fC (.int 1))) fNil)) fNil))))
 (sRet (vAnd (z08 true z1U (z02 (fN 3) fNil)) (vAnd (fOp opGt (fN 3) (fC (.int 1))) (z08 true z3K (z02 (fN 3) (z02 (fAt (fN 0) (fC (.int 0))) fNil))))))))))
def z31:FC:=cOf 3 4 true z4h
def zij:FS:=(sSeq (sSet [] 1 (z08 true zap (z02 (fN 0) fNil)))
 (sSeq (sSet [] 2 (fOp z0Q (z08 true z0f (z02 (fN 0) (z02 (fC (.int 6)) fNil))) (fC (.int 5))))
 (sSeq (sIf (z0e (fOp opEq (fN 2) (fC (.int 1)))) (sSet [] 1 (fTup (z02 (fC (.int 1)) (z02 (fLst (z02 (fLst (z02 (fOp z0n (fC (.int 1)) (fOp z0Q (z08 true z0f (z02 (fN 0) (z02 (fC (.int 7)) fNil))) (fC (.int 3000)))) fNil)) fNil)) fNil)))) z0w)
 (sSeq (sIf (z0e (fOp opEq (fN 2) (fC (.int 2)))) (sSet [] 1 (fTup (z02 (fC (.int 1)) (z02 (fLst (z02 (fLst (z02 (fOp z0W (fOp z0n (fC (.int 101)) (fOp z0Q (z08 true z0f (z02 (fN 0) (z02 (fC (.int 7)) fNil))) (fC (.int 890)))) (fOp z0n (fC (.int 101)) (fOp z0Q (z08 true z0f (z02 (fN 0) (z02 (fC (.int 8)) fNil))) (fC (.int 890))))) fNil)) fNil)) fNil)))) z0w)
 (sSeq (sSet [] 3 (z08 true z30 (z02 (fN 0) (z02 (fC (.int 40)) (z02 (fAt (fN 1) (fC (.int 0))) (z02 (fOp z0Q (z08 true z0f (z02 (fN 0) (z02 (fC (.int 5)) fNil))) (fC (.int 2))) fNil))))))
 (sSeq (sIf (z0e (fOp opEq (fN 2) (fC (.int 3)))) (sSeq (sSet [] 4 (fLst (z02 (fOp z0n (fC (.int 1)) (fOp z0Q (z08 true z0f (z02 (fN 0) (z02 (fC (.int 8)) fNil))) (fC (.int 4)))) (z02 (fOp z1h (fOp z0Q (z08 true z0f (z02 (fN 0) (z02 (fC (.int 9)) fNil))) (fC (.int 7))) (fC (.int 3))) fNil))))
 (sSeq (sSet [] 5 (fOp z0n (fC (.int 2)) (fOp z0Q (z08 true z0f (z02 (fN 0) (z02 (fC (.int 7)) fNil))) (fC (.int 3000)))))
 (sSeq (sSet [] 1 (fTup (z02 (fC (.int 2)) (z02 (fLst (z02 (z0k 1 [5] (iSeq (fN 4)) (Tg.one 0) fYes (fOp z0W (fN 1) (fN 0))) fNil)) fNil))))
 (sSet [] 3 (z0k 1 [0] (iSeq (fN 4)) (Tg.one 0) fYes (fOp z0W (fOp z1h (fOp z0Q (z08 true z0f (z02 (fN 1) (z02 (fC (.int 40)) fNil))) (fC (.int 61))) (fC (.int 30))) (fN 0))))))) z0w)
 (sSeq (sSet [] 6 (z08 true z2A (z02 (fAt (fN 1) (fC (.int 0))) (z02 (z08 true z2R (z02 (fAt (fN 1) (fC (.int 1))) fNil)) fNil))))
 (sSeq (sSet [] 7 (fBlt bLst (z02 (fN 3) fNil)))
 (sSeq (sSet [] 8 (z08 true z4e (z02 (fN 6) (z02 (fN 7) fNil))))
 (sSeq (sIf (fOr (z0e (fOp opNe (fN 7) (fN 3))) (fNot (fTru (fIsi "list" (fN 8))))) (sRet (fC (.bl false))) z0w)
 (sSeq (sSet [] 9 (fC (.int 0)))
 (sSeq (sSet [] 10 (z0k 1 [] (z0A (fAt (fN 1) (fC (.int 0)))) (Tg.one 0) fYes (fC (.int 0))))
 (sSeq (sSet [] 11 (fC (.int 1)))
 (sSeq (sFor [] (iSeq (fN 8)) (Tg.one 12)
 (sSeq (sIf (fNot (fTru (z08 true z31 (z02 (fN 12) (z02 (fN 6) (z02 (fN 9) fNil)))))) (sRet (fC (.bl false))) z0w)
 (sSeq (sSet [] 9 (fAt (fN 12) (fC (.int 0))))
 (sSeq (sSet [] 10 (z08 true z2Q (z02 (fN 10) (z02 (fAt (fN 12) (fC (.int 1))) (z02 (fC (.int 1)) fNil)))))
 (sSet [] 11 (fOp z0W (fN 11) (z08 true z1N (z02 (fN 6) (z02 (fBlt bLst (z02 (fAt (fN 12) (fC (.int 1))) fNil)) fNil)))))))))
 (sSeq (sSet [] 13 (z08 true z4H (z02 (fN 6) fNil)))
 (sRet (vAnd (fOp opEq (fN 11) (z08 true z1N (z02 (fN 6) (z02 (fBlt bLst (z02 (fN 3) fNil)) fNil)))) (fOp opEq (z08 true z2p (z02 (fN 13) (z02 (fN 10) fNil))) (z08 true z2p (z02 (fN 13) (z02 (fN 3) fNil)))))))))))))))))))))
def zfZ:FC:=cOf 1 14 true zij
theorem z0P(ns:List Int)(k:Int)(h0:0≤k):z0f [.scr ns,.int k]=some (.int (z0g ns k)):=by
 unfold z0f z4f z0g
 by_cases h:k<ns.length
 · have e:atI ns k=some (ns.getD k.toNat 0):=by
     rw[zfM h0,List.getElem?_eq_getElem (by omega)];simp[List.getD,List.getElem?_eq_getElem (show k.toNat<ns.length by omega)]
   simp[cOf,h,e]
 · by_cases h2:ns=[]
   · subst h2
     simp[cOf,h,zb7 [] [],show ¬k<0 by omega]
     rfl
   · have hp:0<ns.length:=List.length_pos_iff.mpr h2
     obtain⟨f1,f2⟩:=zcy k (show(0:Int)<ns.length by omega)
     have e:atI ns (k.fmod ns.length)=some (ns.getD (k.fmod ns.length).toNat 0):=by
      rw[zfM f1,List.getElem?_eq_getElem (by omega)];simp[List.getD,List.getElem?_eq_getElem (show(k.fmod ns.length).toNat<ns.length by omega)]
     have e2:opEq (.scr ns) (.lst [])=some (.nw,.bl false):=by have:=zb7 ns [];rw[decide_eq_false h2]at this;exact this
     simp[cOf,h,h2,e,e2,zb8,z1d,show ¬((ns.length:Int)=0) by omega]
theorem zbu(c m:Int)(h0:0≤m)(h3:m<3):z2d [.int c,.int m]=some (.int (z9b c m)):=by
 unfold z2d z9b
 have hm:m=0∨m=1∨m=2:=by omega
 have d30:z1F c 1000000000000000000000000000000=true:=by unfold z1F;decide
 have d9:z1F 9 2=true:=by unfold z1F;decide
 have d61:z1F 61 2=true:=by unfold z1F;decide
 have p30:z7A 10 30=true:=by unfold z7A;decide
 have two:∀(m w v:Int),m≠2→atI [Dt.int 9,Dt.int 61] m=some (.int w)→0<w→z1F w 2=true→w.fdiv 2=v→cOf 2 4 true z2P [.int c,.int m]=some (.int (if v<c.fmod w then c.fmod w-w else c.fmod w)):=fun m w v hm2 ha hw hd hv=>by
   refine z1b (f := .nw) rfl (run (ρ':=[.sh false (.int c),.sh false (.int m),.no,.no]) (by simp[cOf,z0q,hm2]) (run (ρ':=[.sh false (.int c),.sh false (.int m),.no,.sh true (.int w)]) (by simp[cOf,ha]) (run (ρ':=[.sh false (.int c),.sh false (.int m),.sh true (.int (c.fmod w)),.sh true (.int w)]) (by simp[cOf,z1d,show ¬w=0 by omega]) ?_))) rfl
   by_cases h:v<c.fmod w
   · simp[cOf,hd,hv,h]
   · simp[cOf,hd,hv,h]
 rcases hm with rfl|rfl|rfl
 · exact(two 0 9 4 (by decide) rfl (by decide) d9 rfl).trans (by simp)
 · exact(two 1 61 30 (by decide) rfl (by decide) d61 rfl).trans (by simp)
 · by_cases h:(c.fdiv 1000000000000000000000000000000).fmod 2=1
   · simp[cOf,z2P,z0q,z1d,p30,d30,h]
   · simp[cOf,z2P,z0q,z1d,p30,d30,h]
theorem zbv(ns:List Int)(a:Int)(n:Nat)(m:Int)(ha:0≤a)(hn:n≤1000)(h0:0≤m)(h3:m<3):z30 [.scr ns,.int a,.int n,.int m]=some (L (z3V ns a n m)):=by
 unfold z30 zao
 have q:z0k 1 [0,1,3] (z0A (fN 2)) (Tg.one 0) fYes (z08 true z2d (z02 (z08 true z0f (z02 (fN 1) (z02 (fOp z0n (fN 2) (fN 0)) fNil))) (z02 (fN 3) fNil))) (rho0 4 [.scr ns,.int a,.int n,.int m])=some (.nw,L (z3V ns a n m)):=by
  have:=z0C (nt:=1) (js:=[0,1,3]) (Fi:=z0A (fN 2)) (g:=Tg.one 0) (Fe:=z08 true z2d (z02 (z08 true z0f (z02 (fN 1) (z02 (fOp z0n (fN 2) (fN 0)) fNil))) (z02 (fN 3) fNil))) (ρ:=rho0 4 [.scr ns,.int a,.int n,.int m]) (e:=fun(k:Nat) => .int (0+(k:Int))) (h:=fun(k:Nat) => .int (z9b (z0g ns (a+(k:Int))) m)) (xs:=List.range n)
   (by simp[cOf,z0A,intD,z4P,z27,show(n:Int)≤1000000 by omega,show -1000000≤(n:Int) by omega])
   (fun k hk=>by simp[cOf,Tg.put,sigD,z5o,z0P ns (a+(k:Int)) (by omega),zbu _ m h0 h3])
  rw[this];simp[L,z3V]
 exact z1b rfl (f := .nw) (by unfold sRet;rw[q];rfl) rfl
theorem z6P(d:Dt):z29 [d]=some (.bl (isWh d)):=by
 unfold z29 z54
 cases d<;>simp[cOf,isWh,Dt.flat,nrm]
theorem z9s(a:List Int)(n:Int):z48 [L a,.int n]=some (.bl (decide ((a.length:Int)=n))):=by
 unfold z48 z84
 have q:z0k 1 [] (iSeq (fN 0)) (Tg.one 0) fYes (z08 true z29 (z02 (fN 0) fNil)) [.sh false (L a),.sh false (.int n)]=some (.nw,.lst (a.map fun _ => .bl true)) :=
   z0C (e:=Dt.int) (h:=fun _ => .bl true) (xs:=a) (by simp[cOf]) (fun x _=>by simp[cOf,Tg.put,sigD,z6P,isWh])
 by_cases h:(a.length:Int)=n
 · simp[cOf,z1I,h,q,bAll,z6k (fun _=>true) a]
 · simp[cOf,z1I,h]
theorem zik(a b:List Int)(h:a.length=b.length):z7n [L a,L b]=some (L (addR a b)):=by
 unfold z7n zal
 have q:z0k 2 [] (iZip (fN 0) (fN 1)) (Tg.many [0,1]) fYes (fOp z0n (fN 0) (fN 1)) [.sh false (L a),.sh false (L b)]=some (.nw,L (addR a b)):=by
  rw[z0C (e:=fun p:Int×Int => .tup [.int p.1,.int p.2]) (h:=fun p => .int (p.1+p.2)) (xs:=a.zip b) (by simp[cOf,iZip,h,z7P]) (fun p _=>by simp[cOf,Tg.put,z24,sigD]),zhW]
 simp[cOf,q]
theorem zbw(a b:List Int)(h:a.length=b.length):z4E [L a,L b]=some (L (subR a b)):=by
 unfold z4E zam
 have q:z0k 2 [] (iZip (fN 0) (fN 1)) (Tg.many [0,1]) fYes (fOp z1h (fN 0) (fN 1)) [.sh false (L a),.sh false (L b)]=some (.nw,L (subR a b)):=by
  rw[z0C (e:=fun p:Int×Int => .tup [.int p.1,.int p.2]) (h:=fun p => .int (p.1-p.2)) (xs:=a.zip b) (by simp[cOf,iZip,h,z7P]) (fun p _=>by simp[cOf,Tg.put,z24,sigD]),zgM]
 simp[cOf,q]
theorem z2e(a:List Int)(k:Int)(h:∀ x∈a,z15 k x=true):z1e [L a,.int k]=some (L (sclR k a)):=by
 unfold z1e z85
 have q:z0k 1 [1] (iSeq (fN 0)) (Tg.one 0) fYes (fOp z0W (fN 1) (fN 0)) [.sh false (L a),.sh false (.int k)]=some (.nw,L (sclR k a)):=by
  rw[z0C (e:=Dt.int) (h:=fun x => .int (k*x)) (xs:=a) (by simp[cOf]) (fun x hx=>by simp[cOf,Tg.put,sigD,z5o,h x hx])]
  simp[L,sclR]
 simp[cOf,q]
theorem zaq(n:Nat)(h1:1≤n)(h2:n≤6):z2Z [.int n]=some (.bl true):=by
 unfold z2Z z49
 have e:=z6P (.int n)
 simp[cOf,e,isWh,z7E,show(1:Int)≤n by omega,show(n:Int)≤6 by omega]
theorem z8O(n:Nat)(h1:1≤n)(h2:n≤6):z2u [.int n]=some .non:=by
 unfold z2u z3E
 simp[cOf,zaq n h1 h2]
theorem zcH(a:List Int)(n:Nat)(hl:a.length=n)(h:∀ x∈a,x.natAbs<10 ^ 30):z4F [L a,.int n]=some (.bl true):=by
 unfold z4F z6s
 have e:=z9s a n
 have p30:z7A 10 30=true:=by unfold z7A;decide
 have q:z0k 1 [] (iSeq (fN 0)) (Tg.one 0) fYes (fOp opLt (fBlt bAbs (z02 (fN 0) fNil)) (fOp z92 (fC (.int 10)) (fC (.int 30)))) [.sh false (L a),.sh false (.int n)]=some (.nw,.lst (a.map fun _ => .bl true)) :=
  z0C (e:=Dt.int) (h:=fun _ => .bl true) (xs:=a) (by simp[cOf]) (fun x hx=>by
   have:=h x hx
   have:(if x<0 then -x else x)<1000000000000000000000000000000:=by split<;>omega
   simp[cOf,Tg.put,sigD,bAbs,p30,this])
 simp[cOf,e,hl,q,bAll,z6k (fun _=>true) a]
theorem zar(a:List Int)(n:Nat)(hl:a.length=n)(h:∀ x∈a,x.natAbs<10 ^ 30):z1T [L a,.int n]=some .non:=by
 unfold z1T z4a
 simp[cOf,zcH a n hl h]
theorem zcI(k:Int)(rows:List (List Int)):z4G [.int k,LL rows]=some (z0N k rows):=by
 unfold z4G z6t
 have q:z0k 1 [] (iSeq (fN 1)) (Tg.one 0) fYes (fBlt bTup (z02 (fN 0) fNil)) [.sh false (.int k),.sh false (LL rows)]=some (.nw,.lst (rows.map T)) :=
  z0C (e:=L) (h:=T) (xs:=rows) (by simp[cOf]) (fun x hx=>by simp[cOf,Tg.put,sigD,bTup,z2I])
 simp[cOf,q,bTup,z6j]
theorem zcJ(n:Nat)(bills:List (List Int))(h1:1≤n)(h2:n≤6)(hm:bills.length≤8)(hw:Wide n bills)(hb:∀ r∈bills,∀ x∈r,x.natAbs<10 ^ 30):z2A [.int n,LL bills]=some (z0N n bills):=by
 unfold z2A z6u
 obtain⟨j,q⟩:=z6i (g:=Tg.one 2) (F:=z4Q (z08 true z1T (z02 (fN 2) (z02 (fN 0) fNil)))) (e:=L) (R:=fun(_:Unit) (c:Cell)=>[.sh false (.int n),.sh false (LL bills),c]) (step:=fun _ _=>()) bills () .no
  (fun b x j hx=>⟨.sh false (L x),by simp[cOf,Tg.put,zar x n (hw x hx) (hb x hx)]⟩)
 have q:forF (Tg.one 2) (z4Q (z08 true z1T (z02 (fN 2) (z02 (fN 0) fNil)))) (bills.map L) [.sh false (.int n),.sh false (LL bills),.no]=some (.nx [.sh false (.int n),.sh false (LL bills),j]):=q
 simp[cOf,z8O n h1 h2,show ¬(8<(bills.length:Int)) by omega,q,zcI]
theorem z8c(n:Nat)(bills:List (List Int))(b:List Int)(h:b.length=n):z1K [z0N n bills,L b]=some .non:=by
 have e:z1y [.int n,L b]=some .non:=by
  unfold z1y z2a
  simp[cOf,z9s,h]
 unfold z1K z38
 simp[cOf,atI,ixN,e]
abbrev HF:FS:=sIf (z0e (fOp opNe (fN 2) (fC (.int 0)))) (sRet (fN 1)) z0w
theorem z9t(c0:Cell):∀(r:List Int) (j:Nat) (c1 c2:Cell),(St.z00 r<r.length→forF (Tg.many [1,2]) HF (z2s j (r.map .int)) [c0,c1,c2]=some (.rt .nw (.int ((j+St.z00 r:Nat):Int)))) ∧
  (¬St.z00 r<r.length→∃ c1' c2',forF (Tg.many [1,2]) HF (z2s j (r.map .int)) [c0,c1,c2]=some (.nx [c0,c1',c2']))
 | [],j,c1,c2=>⟨fun h=>by simp[St.z00]at h,fun _=>⟨c1,c2,rfl⟩⟩
 | x::r,j,c1,c2=>by
  obtain⟨i1,i2⟩:=z9t c0 r (j+1) (.sh false (.int j)) (.sh false (.int x))
  rw[List.map_cons,z2s,z1P]
  by_cases hx:x=0
  · have e:(Tg.put (Tg.many [1,2]) (.tup [.int j,.int x]) [c0,c1,c2]).bind HF=some (.nx [c0,.sh false (.int j),.sh false (.int x)]):=by simp[cOf,z1I,hx]
    have eh:St.z00 (x::r)=St.z00 r+1:=by simp[St.z00,hx]
    rw[e,eh,List.length_cons]
    refine⟨fun h=>?_,fun h=>i2 (by omega)⟩
    have:=i1 (by omega)
    rw[show j+(St.z00 r+1)=j+1+St.z00 r by omega]
    exact this
  · have e:(Tg.put (Tg.many [1,2]) (.tup [.int j,.int x]) [c0,c1,c2]).bind HF=some (.rt .nw (.int j)):=by simp[cOf,z1I,hx]
    have eh:St.z00 (x::r)=0:=by simp[St.z00,hx]
    rw[e,eh,List.length_cons]
    exact⟨fun _=>rfl,fun h=>absurd (Nat.succ_pos _) h⟩
theorem z1c(r:List Int):z0i [L r]=some (.int (St.z00 r)):=by
 unfold z0i z6r
 obtain⟨h1,h2⟩:=z9t (.sh false (L r)) r 0 .no .no
 have hl:=St.z4C r
 by_cases h:St.z00 r<r.length
 · have h1:=h1 h
   simp only[Nat.zero_add]at h1
   simp[cOf,h1]
 · obtain⟨c1,c2,h2⟩:=h2 h
   simp[cOf,h2,show St.z00 r=r.length by omega]
theorem z8d{r:List Int}{k:Nat}(h:k<r.length):atI (r.map Dt.int) (k:Int)=some (.int (St.at0 r k)):=by
 rw[z5w,zcz h];simp[St.at0,List.getD,List.getElem?_eq_getElem h]
theorem zln(a b:List Int)(q:Int):subR a (sclR q b)=St.sub a q b:=by
 unfold subR sclR St.sub
 rw[List.zipWith_map_right]
theorem zg0{r:List Int}{x:Int}(h:x∈r):∃ k,St.at0 r k=x:=by
 obtain⟨k,hk,e⟩:=List.mem_iff_getElem.mp h
 exact⟨k,by simp[St.at0,List.getD,List.getElem?_eq_getElem hk,e]⟩
theorem zg1{x:Int}{m:Nat}(h:x.natAbs<2 ^ m):Builtin.Int.intBits x≤m:=zkZ h
theorem z2D{i j:Int}{m k:Nat}(h1:i.natAbs<2 ^ m)(h2:j.natAbs<2 ^ k)(h:m+k≤134217728):z15 i j=true:=by
 unfold z15
 rw[decide_eq_true (show Builtin.Int.intBits i+Builtin.Int.intBits j≤134217728 from by have:=zg1 h1;have:=zg1 h2;omega)]
 rfl
theorem z4I{i j:Int}(h0:0<j)(h:j<2 ^ 9000):z1F i j=true:=by
 unfold z1F
 rw[decide_eq_true (show j≠0 by omega),decide_eq_true (show j.natAbs.log2<9000 from ?_)]
 · rfl
 · rw[Nat.log2_lt (by omega)]
   have:((2 ^ 9000:Nat):Int)=(2:Int) ^ 9000:=by norm_cast
   omega
abbrev LF:FS:=(sSeq (sSet [] 5 (z08 true z0i (z02 (fN 4) fNil)))
 (sSeq (sSet [] 6 (fOp z22 (fAt (fN 2) (fN 5)) (fAt (fN 4) (fN 5))))
 (sSeq (sIf (z0e (fOp opNe (fN 6) (fC (.int 0)))) (sSet [] 2 (z08 true z4E (z02 (fN 2) (z02 (z08 true z1e (z02 (fN 4) (z02 (fN 6) fNil))) fNil)))) z0w)
 (sWr wApp 3 (fN 6)))))
theorem z8e{n m:Nat}(hm:2*m≤134217728)(c0 c1:Cell):∀(S:List (List Int)) (left:List Int) (cs:List Int) (c4 c5 c6:Cell),(∀ r∈S,r.length=n∧St.z00 r<n∧0<St.hd r∧St.hd r<2 ^ 9000)→left.length=n→St.LowB m left S→cs.length+S.length≤1000 →
  ∃ c4' c5' c6',forF (Tg.one 4) LF (S.map L) [c0,c1,.sh true (L left),.ow true (cs.map .int),c4,c5,c6]=some (.nx [c0,c1,.sh true (L (St.z0c left S)),.ow true ((cs++St.z7T left S).map .int),c4',c5',c6'])
 | [],left,cs,c4,c5,c6,_,_,_,_=>⟨c4,c5,c6,by simp[zhS,St.z0c,St.z7T]⟩
 | r::S,left,cs,c4,c5,c6,hr,hl,hb,hc=>by
  obtain⟨r1,r2,r3,r4⟩:=hr r List.mem_cons_self
  have hs:(St.sub left (St.z0B left r) r).length=n:=by rw[St.z2j (by omega)];exact hl
  obtain⟨d4,d5,d6,ih⟩:=z8e hm c0 c1 S (St.sub left (St.z0B left r) r) (cs++[St.z0B left r]) (.sh false (L r)) (.sh true (.int (St.z00 r))) (.sh true (.int (St.z0B left r))) (fun x hx=>hr x (List.mem_cons_of_mem _ hx)) hs hb.2 (by simp at hc ⊢;omega)
  refine⟨d4,d5,d6,?_⟩
  rw[List.map_cons,z1P]
  have a1:=z8d (r:=left) (k:=St.z00 r) (by omega)
  have a2:=z8d (r:=r) (k:=St.z00 r) (by omega)
  have dv:z1F (St.at0 left (St.z00 r)) (St.at0 r (St.z00 r))=true:=z4I r3 r4
  have ef:(St.at0 left (St.z00 r)).fdiv (St.at0 r (St.z00 r))=St.z0B left r:=rfl
  have hcs:cs.length<1000000:=by simp at hc;omega
  have e:(Tg.put (Tg.one 4) (L r) [c0,c1,.sh true (L left),.ow true (cs.map .int),c4,c5,c6]).bind LF=some (.nx [c0,c1,.sh true (L (St.sub left (St.z0B left r) r)),.ow true ((cs++[St.z0B left r]).map .int),.sh false (L r),.sh true (.int (St.z00 r)),.sh true (.int (St.z0B left r))]):=by
   refine(show LF [c0,c1,.sh true (L left),.ow true (cs.map .int),.sh false (L r),c5,c6]=_ from run (ρ':=[c0,c1,.sh true (L left),.ow true (cs.map .int),.sh false (L r),.sh true (.int (St.z00 r)),c6]) (by simp[cOf,z1c]) (run (ρ':=[c0,c1,.sh true (L left),.ow true (cs.map .int),.sh false (L r),.sh true (.int (St.z00 r)),.sh true (.int (St.z0B left r))]) (by simp[cOf,a1,a2,dv,ef]) (run (ρ':=[c0,c1,.sh true (L (St.sub left (St.z0B left r) r)),.ow true (cs.map .int),.sh false (L r),.sh true (.int (St.z00 r)),.sh true (.int (St.z0B left r))]) ?_ (by simp[cOf,hcs]))))
   by_cases ho:St.z0B left r=0
   · have es:St.sub left (St.z0B left r) r=left:=by rw[ho];exact St.zbd (by omega)
     rw[es]
     simp[cOf,ho,z1I]
   · have mo:∀ x∈r,z15 (St.z0B left r) x=true:=fun x hx=>by
      obtain⟨k,rfl⟩:=zg0 hx
      rcases hb.1 with h|⟨h1,h2⟩
      · exact absurd h ho
      · exact z2D h1 (h2 k) (by omega)
     have e1:=z2e r (St.z0B left r) mo
     have e2:=zbw left (sclR (St.z0B left r) r) (by rw[z1Y];omega)
     rw[zln]at e2
     simp[cOf,ho,z1I,e1,e2]
  rw[e]
  show forF (Tg.one 4) LF (S.map L) _=_
  rw[ih,St.z0c,St.z7T]
  simp
def RowD(d:Dt)(v:List Int):Prop:=d=L v∨d=T v
theorem zbx{n m:Nat}(d:Dt)(v:List Int)(S:List (List Int))(hd:RowD d v)(hm:2*m≤134217728)(hr:∀ r∈S,r.length=n∧St.z00 r<n∧0<St.hd r∧St.hd r<2 ^ 9000)(hl:v.length=n)(hb:St.LowB m v S)(hc:S.length≤1000):
   z3F [d,LL S]=some (.tup [L (St.z7T v S),L (St.z0c v S)]):=by
 unfold z3F z55
 rcases hd with rfl|rfl
 · obtain⟨d4,d5,d6,q⟩:=z8e hm (.sh false (L v)) (.sh false (LL S)) S v [] .no .no .no hr hl hb (by simpa using hc)
   simp[cOf]at q ⊢;simp[q]
 · obtain⟨d4,d5,d6,q⟩:=z8e hm (.sh false (T v)) (.sh false (LL S)) S v [] .no .no .no hr hl hb (by simpa using hc)
   simp[cOf]at q ⊢;simp[q]
theorem z58{n m:Nat}(d:Dt)(v:List Int)(S:List (List Int))(hd:RowD d v)(hm:2*m≤134217728)(hr:∀ r∈S,r.length=n∧St.z00 r<n∧0<St.hd r∧St.hd r<2 ^ 9000)(hl:v.length=n)(hb:St.LowB m v S)(hc:S.length≤1000):
  z0U [d,LL S]=some (L (St.z0c v S)):=by
 have e:=zbx d v S hd hm hr hl hb hc
 have hn:nrm (flOf false) d=(if d.flat then .nw else .sh,d):=rfl
 unfold z0U z6v
 rcases hd with rfl|rfl<;>simp[cOf,e,zhY]
theorem z4J{i j:Int}(h0:j≠0)(h:j.natAbs<2 ^ 9000):z1F i j=true:=by
 unfold z1F
 rw[decide_eq_true h0,decide_eq_true (show j.natAbs.log2<9000 from(Nat.log2_lt (by omega)).mpr h)]
 rfl
abbrev BC:FT:=z0e (fOp opNe (fAt (fN 3) (fC (.int 0))) (fC (.int 0)))
abbrev BF:FS:=(sSeq (sSet [] 4 (fOp z22 (fAt (fN 2) (fC (.int 0))) (fAt (fN 3) (fC (.int 0)))))
 (sSeq (sSet [] 5 (z0k 1 [2,4,3] (z0A (fC (.int 3))) (Tg.one 0) fYes (fOp z1h (fAt (fN 1) (fN 0)) (fOp z0W (fN 2) (fAt (fN 3) (fN 0))))))
 (sSeq (sSet [] 2 (fN 3))
 (sSet [] 3 (fN 5)))))
theorem zby(c0 c1 c4 c5:Cell)(u0 u1 u2 l0 l1 l2:Int)(hl:l0≠0)(h:l0.natAbs<2 ^ 9000)(m0:z15 (u0.fdiv l0) l0=true)(m1:z15 (u0.fdiv l0) l1=true)(m2:z15 (u0.fdiv l0) l2=true):
  BF [c0,c1,.sh true (L [u0,u1,u2]),.sh true (L [l0,l1,l2]),c4,c5]=some (.nx [c0,c1,.sh true (L [l0,l1,l2]),.sh true (L [u0-u0.fdiv l0*l0,u1-u0.fdiv l0*l1,u2-u0.fdiv l0*l2]),.sh true (.int (u0.fdiv l0)),.sh true (L [u0-u0.fdiv l0*l0,u1-u0.fdiv l0*l1,u2-u0.fdiv l0*l2])]):=by
 have dv:=z4J (i:=u0) hl h
 have q:z0k 1 [2,4,3] (z0A (fC (.int 3))) (Tg.one 0) fYes (fOp z1h (fAt (fN 1) (fN 0)) (fOp z0W (fN 2) (fAt (fN 3) (fN 0)))) [z2H c0,z2H c1,.sh true (L [u0,u1,u2]),.sh true (L [l0,l1,l2]),.sh true (.int (u0.fdiv l0)),z2H c5]=some (.nw,L [u0-u0.fdiv l0*l0,u1-u0.fdiv l0*l1,u2-u0.fdiv l0*l2]):=by
  rw[z0C (e:=fun(k:Nat) => .int (0+(k:Int))) (h:=fun(k:Nat) => .int ([u0,u1,u2].getD k 0-u0.fdiv l0*[l0,l1,l2].getD k 0)) (xs:=List.range 3) (by simp[cOf,show z4P 3=true from zcA (n:=3) (by decide),z27]) (fun k hk=>by
   have hk:k<3:=List.mem_range.mp hk
   have a1:=z5x (xs:=[u0,u1,u2]) (i:=k) 0 hk
   have a2:=z5x (xs:=[l0,l1,l2]) (i:=k) 0 hk
   have mk:z15 (u0.fdiv l0) ([l0,l1,l2].getD k 0)=true:=by
    have:k=0∨k=1∨k=2:=by omega
    rcases this with rfl|rfl|rfl
    · exact m0
    · exact m1
    · exact m2
   generalize [u0,u1,u2].getD k 0=uk at *
   generalize [l0,l1,l2].getD k 0=lk at *
   generalize [u0,u1,u2]=us at *
   generalize [l0,l1,l2]=ls at *
   simp[cOf,z5w,a1,a2,mk])]
  rfl
 exact run (ρ':=[c0,c1,.sh true (L [u0,u1,u2]),.sh true (L [l0,l1,l2]),.sh true (.int (u0.fdiv l0)),c5]) (by simp[cOf,dv]) (run (ρ':=[c0,c1,.sh true (L [u0,u1,u2]),.sh true (L [l0,l1,l2]),.sh true (.int (u0.fdiv l0)),.sh true (L [u0-u0.fdiv l0*l0,u1-u0.fdiv l0*l1,u2-u0.fdiv l0*l2])]) (by simp[cOf,q]) (run (ρ':=[c0,c1,.sh true (L [l0,l1,l2]),.sh true (L [l0,l1,l2]),.sh true (.int (u0.fdiv l0)),.sh true (L [u0-u0.fdiv l0*l0,u1-u0.fdiv l0*l1,u2-u0.fdiv l0*l2])]) (by simp[cOf]) (by simp[cOf])))
theorem zbz{a b:Int}{e:Nat}(he:e≤9000)(ha:a.natAbs<2 ^ e)(hb:b.natAbs<2 ^ e)(c0 c1:Cell):∀(k:Nat) (u0 u1 u2 l0 l1 l2:Int) (c4 c5:Cell),Br.BI a b u0 u1 u2 l0 l1 l2→l0.natAbs≤k →
 ∃ v0 v1 v2 w1 w2 d4 d5,z0z BC BF (k+1) [c0,c1,.sh true (L [u0,u1,u2]),.sh true (L [l0,l1,l2]),c4,c5]=some (.nx [c0,c1,.sh true (L [v0,v1,v2]),.sh true (L [0,w1,w2]),d4,d5])∧Br.BI a b v0 v1 v2 0 w1 w2:=by
 intro k
 induction k using Nat.strongRecOn with
 | _ k IH =>
 intro u0 u1 u2 l0 l1 l2 c4 c5 B hk
 have hc:BC [c0,c1,.sh true (L [u0,u1,u2]),.sh true (L [l0,l1,l2]),c4,c5]=some (!decide (l0=0)):=by simp[cOf,z1I]
 rw[z0z,hc,z0j]
 by_cases hl:l0=0
 · subst hl
   exact⟨u0,u1,u2,l1,l2,c4,c5,by simp,B⟩
 · have p3:2 ^ (e+3)=8*2 ^ e:=by rw[Nat.pow_add];omega
   obtain⟨z1,z2,z3,z4⟩:=Br.zfN u0 l0 hl
   have c1':=B.c1
   have c2':=B.c2
   have b3:=B.b3
   have b4:=B.b4
   have hq:(u0.fdiv l0).natAbs<2 ^ (e+3):=by
    have:1*(u0.fdiv l0).natAbs≤l0.natAbs*(u0.fdiv l0).natAbs:=Nat.mul_le_mul_right _ (by omega)
    rw[Nat.mul_comm l0.natAbs]at this
    omega
   have h9:(2:Nat) ^ e≤2 ^ 9000:=Nat.pow_le_pow_right (by decide) he
   have st:=zby c0 c1 c4 c5 u0 u1 u2 l0 l1 l2 hl (by omega) (z2D hq (show l0.natAbs<2 ^ (e+3) by omega) (by omega)) (z2D hq (show l1.natAbs<2 ^ (e+3) by omega) (by omega)) (z2D hq (show l2.natAbs<2 ^ (e+3) by omega) (by omega))
   cases k with
   | zero=>omega
   | succ k =>
    obtain⟨v0,v1,v2,w1,w2,d4,d5,ih,B'⟩:=IH k (Nat.lt_succ_self k) _ _ _ _ _ _ (.sh true (.int (u0.fdiv l0))) (.sh true (L [u0-u0.fdiv l0*l0,u1-u0.fdiv l0*l1,u2-u0.fdiv l0*l2])) (B.turn hl) (by omega)
    refine⟨v0,v1,v2,w1,w2,d4,d5,?_,B'⟩
    rw[st]
    simp only[hl,decide_false,Bool.not_false,if_true,z0j]
    exact ih
theorem z9u(a b:Int)(e:Nat)(he:e≤9000)(ha:a.natAbs<2 ^ e)(hb:b.natAbs<2 ^ e):∃ x y,z5I [.int a,.int b]=some (T [(Int.gcd a b:Int),x,y])∧a*x+b*y=Int.gcd a b∧x.natAbs≤a.natAbs+2*b.natAbs+1∧y.natAbs≤a.natAbs+2*b.natAbs+1:=by
 obtain⟨v0,v1,v2,w1,w2,d4,d5,lp,B⟩:=zbz he ha hb (.sh false (.int a)) (.sh false (.int b)) b.natAbs a 1 0 b 0 1 .no .no (Br.BI.start a b) (Nat.le_refl _)
 have lp:=z1u lp
 have fin:=B.fin
 have up:=B.up
 have b1:=B.b1
 have b2:=B.b2
 have pre:∀{r:Option Oc},(sSeq (sIf (z0e (fOp opLt (fAt (fN 2) (fC (.int 0))) (fC (.int 0)))) (sSet [] 2 (z0k 1 [] (iSeq (fN 2)) (Tg.one 0) fYes (fNeg (fN 0)))) z0w) (sRet (fBlt bTup (z02 (fN 2) fNil)))) [.sh false (.int a),.sh false (.int b),.sh true (L [v0,v1,v2]),.sh true (L [0,w1,w2]),d4,d5]=r→z86 (rho0 6 [.int a,.int b])=r:=fun h=>run (ρ':=[.sh false (.int a),.sh false (.int b),.sh true (L [a,1,0]),.no,.no,.no]) (by simp[cOf,L]) (run (ρ':=[.sh false (.int a),.sh false (.int b),.sh true (L [a,1,0]),.sh true (L [b,0,1]),.no,.no]) (by simp[cOf,L]) (run lp h))
 have at0:atI ([v0,v1,v2].map Dt.int) 0=some (.int v0):=rfl
 by_cases h0:v0<0
 · refine⟨-v1,-v2,?_,by rw[Int.mul_neg,Int.mul_neg];omega,by omega,by omega⟩
   have q:z0k 1 [] (iSeq (fN 2)) (Tg.one 0) fYes (fNeg (fN 0)) [.sh false (.int a),.sh false (.int b),.sh true (L [v0,v1,v2]),.sh true (L [0,w1,w2]),z2H d4,z2H d5]=some (.nw,L [-v0,-v1,-v2]):=by
    rw[z0C (e:=Dt.int) (h:=fun x => .int (-x)) (xs:=[v0,v1,v2]) (by simp[cOf,L]) (fun x hx=>by simp[cOf])]
    rfl
   have e0:(Int.gcd a b:Int) = -v0:=by omega
   rw[e0]
   refine z1b (f := .nw) rfl (pre (run (ρ':=[.sh false (.int a),.sh false (.int b),.sh true (L [-v0,-v1,-v2]),.sh true (L [0,w1,w2]),d4,d5]) ?_ (by simp[cOf,T]))) rfl
   generalize [v0,v1,v2]=vs at *
   simp[cOf,at0,h0,q]
 · refine⟨v1,v2,?_,by omega,by omega,by omega⟩
   have e0:(Int.gcd a b:Int)=v0:=by omega
   rw[e0]
   refine z1b (f := .nw) rfl (pre (run (ρ':=[.sh false (.int a),.sh false (.int b),.sh true (L [v0,v1,v2]),.sh true (L [0,w1,w2]),d4,d5]) ?_ (by simp[cOf,T]))) rfl
   generalize [v0,v1,v2]=vs at *
   simp[cOf,at0,h0]
theorem zlo(a b:List Int)(x y:Int):addR (sclR x a) (sclR y b)=St.lin x a y b:=by
 unfold addR sclR St.lin
 rw[List.zipWith_map]
theorem zil(a b:List Int)(x y:Int):subR (sclR x a) (sclR y b)=St.lin x a (-y) b:=by
 unfold subR sclR St.lin
 rw[List.zipWith_map]
 congr 1
 funext p q
 rw[Int.neg_mul];omega
theorem z7o{q:Int}{r:List Int}{m k:Nat}(h1:q.natAbs<2 ^ m)(h2:St.Lt (2 ^ k) r)(h:m+k≤134217728):∀ x∈r,z15 q x=true:=fun x hx=>by
 obtain⟨i,rfl⟩:=zg0 hx
 exact z2D h1 (h2 i) h
theorem zcK{n e q:Nat}(r left:List Int)(hr:r.length=n)(hl:left.length=n)(hh:St.z00 r<n)(hp:0<St.hd r)(h1:St.hd r<2 ^ e)(h2:0≤St.at0 left (St.z00 r))(h3:St.at0 left (St.z00 r)<St.hd r)(he:e≤8990)(s1:St.Lt (2 ^ q) r)(s2:St.Lt (2 ^ q) left)(hq:q≤100000000):
  ∃ g x y,z2B [L r,L left]=some (.tup [L (St.z0J r left x y),L (St.z16 r left g)])∧0<g∧g∣St.hd r∧g∣St.at0 left (St.z00 r)∧St.hd r*x+St.at0 left (St.z00 r)*y=g∧x.natAbs<2 ^ (e+2)∧y.natAbs<2 ^ (e+2):=by
 have cast:((2 ^ e:Nat):Int)=(2:Int) ^ e:=by norm_cast
 have a1:(St.hd r).natAbs<2 ^ e:=by omega
 have a2:(St.at0 left (St.z00 r)).natAbs<2 ^ e:=by omega
 obtain⟨x,y,eb,exy,bx,bY⟩:=z9u (St.hd r) (St.at0 left (St.z00 r)) e (by omega) a1 a2
 have g0:0<Int.gcd (St.hd r) (St.at0 left (St.z00 r)):=Int.gcd_pos_of_ne_zero_left _ (by omega)
 have d1:(Int.gcd (St.hd r) (St.at0 left (St.z00 r)):Int)∣St.hd r:=Int.gcd_dvd_left _ _
 have d2:(Int.gcd (St.hd r) (St.at0 left (St.z00 r)):Int)∣St.at0 left (St.z00 r):=Int.gcd_dvd_right _ _
 generalize eg:(Int.gcd (St.hd r) (St.at0 left (St.z00 r)):Int)=g at *
 have g0:0<g:=by omega
 have p2:2 ^ (e+2)=4*2 ^ e:=by rw[Nat.pow_add];omega
 have x1:x.natAbs<2 ^ (e+2):=by omega
 have y1:y.natAbs<2 ^ (e+2):=by omega
 refine⟨g,x,y,?_,g0,d1,d2,exy,x1,y1⟩
 have gle:g≤St.hd r:=Int.le_of_dvd hp d1
 have g9:g<2 ^ 9000:=by
  have h9:(2:Nat) ^ e≤2 ^ 9000:=Nat.pow_le_pow_right (by decide) (by omega)
  have:((2 ^ 9000:Nat):Int)=(2:Int) ^ 9000:=by norm_cast
  omega
 have dv1:z1F (St.hd r) g=true:=z4I g0 g9
 have dv2:z1F (St.at0 left (St.z00 r)) g=true:=z4I g0 g9
 have k1:((St.hd r).fdiv g).natAbs<2 ^ (e+2):=by have:=St.z5z (St.hd r) g0;omega
 have k2:((St.at0 left (St.z00 r)).fdiv g).natAbs<2 ^ (e+2):=by have:=St.z5z (St.at0 left (St.z00 r)) g0;omega
 have t1:=z8d (r:=r) (k:=St.z00 r) (by omega)
 have t2:=z8d (r:=left) (k:=St.z00 r) (by omega)
 have t1:atI (r.map Dt.int) (St.z00 r:Int)=some (.int (St.hd r)):=t1
 have e1:=z2e r x (z7o x1 s1 (by omega))
 have e2:=z2e left y (z7o y1 s2 (by omega))
 have e3:=z2e left ((St.hd r).fdiv g) (z7o k1 s2 (by omega))
 have e4:=z2e r ((St.at0 left (St.z00 r)).fdiv g) (z7o k2 s1 (by omega))
 have e5:=zik (sclR x r) (sclR y left) (by rw[z1Y,z1Y];omega)
 have e6:=zbw (sclR ((St.hd r).fdiv g) left) (sclR ((St.at0 left (St.z00 r)).fdiv g) r) (by rw[z1Y,z1Y];omega)
 rw[zlo]at e5
 rw[zil]at e6
 have hT:T [g,x,y] = .tup [.int g,.int x,.int y]:=rfl
 have nT:∀ f,nrm f (.tup [.int g,.int x,.int y])=(.nw,.tup [.int g,.int x,.int y]):=fun f=>nrm_T f [g,x,y]
 rw[hT]at eb
 unfold z2B z6w
 have eL:St.z16 r left g=St.lin ((St.hd r).fdiv g) left (-((St.at0 left (St.z00 r)).fdiv g)) r:=rfl
 simp[cOf,z1c,t1,t2,eb,nT,dv1,dv2,e1,e2,e3,e4,e5,e6,St.z0J,eL]
theorem zas{n q:Nat}(left:List Int)(hl:left.length=n)(hh:St.z00 left<n):z11 [L left]=some (L (if St.at0 left (St.z00 left)<0 then sclR (-1) left else left)):=by
 have t2:=z8d (r:=left) (k:=St.z00 left) (by omega)
 have e1:=z2e left (-1) (fun x _=>z0M (by decide))
 unfold z11 z4b
 by_cases h:St.at0 left (St.z00 left)<0
 · simp[cOf,z1c,t2,h,e1]
 · simp[cOf,z1c,t2,h,z1v]
def z1z(S:List (List Int)):List (List Int):=(z2m (S.map fun r=>((St.z00 r:Int),r))).map (·.2)
theorem z5J(S:List (List Int)):(z1z S).Perm S:=by
 have:=(z1O (S.map fun r=>((St.z00 r:Int),r))).map (·.2)
 rw[List.map_map]at this
 have e:S.map ((fun x:Int×List Int=>x.2)∘fun r=>((St.z00 r:Int),r))=S:=by
  have:((fun x:Int×List Int=>x.2)∘fun r:List Int=>((St.z00 r:Int),r))=id:=rfl
  rw[this,List.map_id]
 rw[e]at this
 exact this
theorem z8f(S:List (List Int))(hn:(S.map St.z00).Nodup):((z1z S).map St.z00).Pairwise (·<·):=by
 have h1:((z1z S).map St.z00).Pairwise (·≤·):=by
  have q:=z3x (S.map fun r=>((St.z00 r:Int),r))
  have mem:∀ p∈z2m (S.map fun r=>((St.z00 r:Int),r)),p.1=(St.z00 p.2:Int):=fun p hp=>by
   obtain⟨r,_,rfl⟩:=List.mem_map.mp ((z1O _).mem_iff.mp hp)
   rfl
  unfold z1z
  rw[List.map_map,List.pairwise_map]
  refine List.Pairwise.imp_of_mem (fun{a b} ha hb hab=>?_) q
  have e1:=mem a ha
  have e2:=mem b hb
  show St.z00 a.2≤St.z00 b.2
  have hab:a.1≤b.1:=hab
  omega
 have h2:((z1z S).map St.z00).Nodup:=((z5J S).map St.z00).nodup_iff.mpr hn
 exact(List.pairwise_and_iff.mpr ⟨h1,h2⟩).imp fun{a b} ⟨p,q⟩=>by omega
theorem z8g:∀ S:List (List Int),z26 z0i (S.map L)=some (S.map fun r=>(St.z00 r:Int))
 | []=>rfl
 | r::S=>by rw[List.map_cons,z26,z1c,z8g S];rfl
theorem zgY(S:List (List Int)):(z2m ((S.map fun r=>(St.z00 r:Int)).zip (S.map L))).map (·.2)=(z1z S).map L:=by
 have e:(S.map fun r=>(St.z00 r:Int)).zip (S.map L)=(S.map fun r=>((St.z00 r:Int),r)).map fun q=>(q.1,L q.2):=by
  rw[List.zip_map,List.map_map]
  have:S.zip S=S.map fun r=>(r,r):=by
   induction S with
   | nil=>rfl
   | cons r S ih=>rw[List.zip_cons_cons,ih];rfl
  rw[this,List.map_map]
  rfl
 rw[e,z4A]
 unfold z1z
 rw[List.map_map,List.map_map]
 rfl
def z4S:Nat→List (List Int)→List (Nat×List Int)
 | _,[]=>[]
 | j,r::S=>(j,r)::z4S (j+1) S
theorem z9v:∀(j:Nat) (S:List (List Int)),z2s j (S.map L)=(z4S j S).map fun p => .tup [.int p.1,L p.2]
 | j,[]=>rfl
 | j,r::S=>by rw[List.map_cons,z2s,z4S,List.map_cons,z9v (j+1) S]
theorem z59(h:Nat):∀(j:Nat) (S:List (List Int)),(∀ r∈S,St.z00 r≠h)→(z4S j S).filter (fun p=>decide (St.z00 p.2=h))=[]
 | j,[],_=>rfl
 | j,r::S,q=>by
  rw[z4S,List.filter_cons,z59 h (j+1) S fun x hx=>q x (List.mem_cons_of_mem _ hx)]
  simp[q r List.mem_cons_self]
theorem z9w(h:Nat):∀(j:Nat) (S1:List (List Int)) (r:List Int) (S2:List (List Int)),St.z00 r=h→((S1++r::S2).map St.z00).Pairwise (·<·)→(z4S j (S1++r::S2)).filter (fun p=>decide (St.z00 p.2=h))=[(j+S1.length,r)]
 | j,[],r,S2,hr,pw=>by
  rw[List.nil_append]at pw ⊢
  rw[List.map_cons,List.pairwise_cons]at pw
  rw[z4S,List.filter_cons,z59 h (j+1) S2 fun x hx=>by have:=pw.1 _ (List.mem_map.mpr ⟨x,hx,rfl⟩);omega]
  simp[hr]
 | j,x::S1,r,S2,hr,pw=>by
  rw[List.cons_append]at pw ⊢
  rw[List.map_cons,List.pairwise_cons]at pw
  have hx:=pw.1 (St.z00 r) (List.mem_map.mpr ⟨r,by simp,rfl⟩)
  rw[z4S,List.filter_cons,z9w h (j+1) S1 r S2 hr pw.2]
  simp[show St.z00 x≠h by omega]
  omega
theorem z9x(S:List (List Int))(left:List Int)(c0 c1 c4 c5:Cell)(f:Bool):z0k 2 [3] (z5s (fN 2)) (Tg.many [0,1]) (z0e (fOp opEq (z08 true z0i (z02 (fN 1) fNil)) (z08 true z0i (z02 (fN 2) fNil)))) (fN 0) [c0,c1,.ow f (S.map L),.sh true (L left),c4,c5] =
   some (.nw,.lst (((z4S 0 S).filter fun p=>decide (St.z00 p.2=St.z00 left)).map fun p => .int (p.1:Int))):=by
 refine z5v (e:=fun p:Nat×List Int => .tup [.int p.1,L p.2]) (h:=fun p => .int (p.1:Int)) (p:=fun p=>decide (St.z00 p.2=St.z00 left)) (xs:=z4S 0 S) ?_ (fun x hx=>?_) (fun x hx _=>?_)
 · cases f<;>simp[cOf,z9v]
 · simp[cOf,z1c,z0q]
   omega
 · simp[cOf]
abbrev WC:FT:=z0e (fOp opLt (z08 true z0i (z02 (fN 3) fNil)) (fBlt bLen (z02 (fN 3) fNil)))
abbrev WF:FS:=(sSeq (z2V 4 (z0k 2 [3] (z5s (fN 2)) (Tg.many [0,1]) (z0e (fOp opEq (z08 true z0i (z02 (fN 1) fNil)) (z08 true z0i (z02 (fN 2) fNil)))) (fN 0)))
 (sSeq (sIf (z0e (fOp opEq (fBlt bLen (z02 (fN 4) fNil)) (fC (.int 0)))) (sRet (z51 z0i (fOp z0n (fN 2) (fLst (z02 (z08 true z11 (z02 (fN 3) fNil)) fNil))))) z0w)
 (sSeq (z2V 5 (z08 true z2B (z02 (fAt (fN 2) (fAt (fN 4) (fC (.int 0)))) (z02 (fN 3) fNil))))
 (sSeq (sPut 2 (fAt (fN 4) (fC (.int 0))) (fAt (fN 5) (fC (.int 0))))
 (z2V 3 (z08 true z0U (z02 (fAt (fN 5) (fC (.int 1))) (z02 (fN 2) fNil))))))))
theorem zim(S:List (List Int))(t:List Int)(h:S.length<60):z0n (.lst (S.map L)) (.lst [L t])=some (newL ((S++[t]).map L)):=by
 have:z0n (.lst (S.map L)) (.lst [L t])=z7B (.lst (S.map L)) (.lst [L t]):=rfl
 rw[this,z7B,if_pos (by simp;omega)]
 simp
theorem zin(S:List (List Int))(left t:List Int)(c0 c1 c4 c5:Cell)(f:Bool)(hn:∀ r∈S,St.z00 r≠St.z00 left)(ht:z11 [L left]=some (L t))(hh:((S++[t]).map St.z00).Nodup)(h60:S.length<60):
  ∃ fl,WF [c0,c1,.ow f (S.map L),.sh true (L left),c4,c5]=some (.rt fl (LL (z1z (S++[t])))):=by
 have pl:=z9x S left c0 c1 c4 c5 f
 rw[z59 _ 0 S hn]at pl
 have st:z51 z0i (fOp z0n (fN 2) (fLst (z02 (z08 true z11 (z02 (fN 3) fNil)) fNil))) [c0,c1,.ow f (S.map L),.sh true (L left),.sh true (.lst []),c5]=some (newL ((z1z (S++[t])).map L)):=by
  have e1:fOp z0n (fN 2) (fLst (z02 (z08 true z11 (z02 (fN 3) fNil)) fNil)) [c0,c1,.ow f (S.map L),.sh true (L left),.sh true (.lst []),c5]=some (newL ((S++[t]).map L)):=by
   have:=zim S t h60
   simp[cOf,ht,this]
  unfold z51
  rw[e1]
  have k1:=z8g (S++[t])
  have nd:((S++[t]).map fun r=>(St.z00 r:Int)).Nodup:=by
   have:((S++[t]).map fun r=>(St.z00 r:Int))=((S++[t]).map St.z00).map (fun n:Nat=>(n:Int)):=by rw[List.map_map];rfl
   rw[this]
   exact List.Pairwise.map _ (fun a b hab e=>hab (by omega)) hh
  show(z26 z0i ((S++[t]).map L)).bind _=_
  rw[k1,z0j,if_pos ⟨by simp;omega,nd⟩,zgY]
 refine⟨lfl ((z1z (S++[t])).map L),?_⟩
 have e1:z2V 4 (z0k 2 [3] (z5s (fN 2)) (Tg.many [0,1]) (z0e (fOp opEq (z08 true z0i (z02 (fN 1) fNil)) (z08 true z0i (z02 (fN 2) fNil)))) (fN 0)) [c0,c1,.ow f (S.map L),.sh true (L left),c4,c5]=some (.nx [c0,c1,.ow f (S.map L),.sh true (L left),.sh true (.lst []),c5]):=by
  unfold z2V
  rw[pl]
  rfl
 refine run e1 ?_
 have e2:sIf (z0e (fOp opEq (fBlt bLen (z02 (fN 4) fNil)) (fC (.int 0)))) (sRet (z51 z0i (fOp z0n (fN 2) (fLst (z02 (z08 true z11 (z02 (fN 3) fNil)) fNil))))) z0w [c0,c1,.ow f (S.map L),.sh true (L left),.sh true (.lst []),c5]=some (.rt (lfl ((z1z (S++[t])).map L)) (LL (z1z (S++[t])))):=by
  have c:z0e (fOp opEq (fBlt bLen (z02 (fN 4) fNil)) (fC (.int 0))) [c0,c1,.ow f (S.map L),.sh true (L left),.sh true (.lst []),c5]=some true:=by simp[cOf,z0q]
  unfold sIf
  rw[c,z0j,if_pos rfl,sRet,st]
  rfl
 unfold sSeq
 rw[e2]
 rfl
theorem zcL(S1 S2:List (List Int))(r left up lo:List Int)(c0 c1 c4 c5:Cell)(f:Bool)(hh:St.z00 r=St.z00 left)(pw:((S1++r::S2).map St.z00).Pairwise (·<·))(hc:z2B [L r,L left]=some (.tup [L up,L lo]))(res:List Int)(hl:z0U [L lo,LL (S1++up::S2)]=some (L res)):
   ∃ d4 d5,WF [c0,c1,.ow f ((S1++r::S2).map L),.sh true (L left),c4,c5]=some (.nx [c0,c1,.ow f ((S1++up::S2).map L),.sh true (L res),d4,d5]):=by
 have pl:=z9x (S1++r::S2) left c0 c1 c4 c5 f
 rw[z9w _ 0 S1 r S2 hh pw]at pl
 have pl:z0k 2 [3] (z5s (fN 2)) (Tg.many [0,1]) (z0e (fOp opEq (z08 true z0i (z02 (fN 1) fNil)) (z08 true z0i (z02 (fN 2) fNil)))) (fN 0) [c0,c1,.ow f ((S1++r::S2).map L),.sh true (L left),c4,c5]=some (.nw,.lst [.int (S1.length:Int)]):=by rw[pl];simp
 refine⟨.sh true (.lst [.int (S1.length:Int)]),.sh true (.tup [L up,L lo]),?_⟩
 have at1:atI ((S1++r::S2).map L) (S1.length:Int)=some (L r):=z5j (by simp)
 have ix:ixN ((S1++r::S2).map L).length (S1.length:Int)=some S1.length:=by
   unfold ixN
   rw[if_pos (by omega),if_pos (by simp;omega)];simp
 have set1:((S1++r::S2).map L).set S1.length (L up)=(S1++up::S2).map L:=by
   rw[List.map_append,List.map_append,List.set_append]
   simp
 have hl:z0U [L lo,.lst ((S1++up::S2).map L)]=some (L res):=hl
 generalize (S1++r::S2).map L=D at *
 generalize (S1++up::S2).map L=D' at *
 have e1:z2V 4 (z0k 2 [3] (z5s (fN 2)) (Tg.many [0,1]) (z0e (fOp opEq (z08 true z0i (z02 (fN 1) fNil)) (z08 true z0i (z02 (fN 2) fNil)))) (fN 0)) [c0,c1,.ow f D,.sh true (L left),c4,c5]=some (.nx [c0,c1,.ow f D,.sh true (L left),.sh true (.lst [.int (S1.length:Int)]),c5]):=by
   unfold z2V
   rw[pl]
   rfl
 refine run e1 (run (ρ':=[c0,c1,.ow f D,.sh true (L left),.sh true (.lst [.int (S1.length:Int)]),c5]) ?_ (run (ρ':=[c0,c1,.ow f D,.sh true (L left),.sh true (.lst [.int (S1.length:Int)]),.sh true (.tup [L up,L lo])]) ?_ (run (ρ':=[c0,c1,.ow f D',.sh true (L left),.sh true (.lst [.int (S1.length:Int)]),.sh true (.tup [L up,L lo])]) ?_ ?_)))
 · simp[cOf,z0q]
 · simp[cOf,at1,hc]
 · simp[cOf,ix,set1]
 · simp[cOf,hl]
theorem zgZ(S:List (List Int))(h:Nat):(∀ r∈S,St.z00 r≠h)∨∃ S1 r S2,S=S1++r::S2∧St.z00 r=h:=by
 by_cases q:∃ r∈S,St.z00 r=h
 · obtain⟨r,hr,e⟩:=q
   obtain⟨S1,S2,rfl⟩:=List.append_of_mem hr
   exact .inr ⟨S1,r,S2,rfl,e⟩
 · exact .inl fun r hr e=>q ⟨r,hr,e⟩
theorem z5K{n e:Nat}{S:List (List Int)}(A:St.Asc n 0 S)(hd:∀ r∈S,St.hd r<2 ^ e)(he:e≤8990):∀ r∈S,r.length=n∧St.z00 r<n∧0<St.hd r∧St.hd r<2 ^ 9000:=fun r hr=>by
 have q:=A.mem hr
 refine⟨q.1,q.2.2.1,q.2.2.2,?_⟩
 have h1:=hd r hr
 have h9:(2:Nat) ^ e≤2 ^ 9000:=Nat.pow_le_pow_right (by decide) (by omega)
 have c1:((2 ^ 9000:Nat):Int)=(2:Int) ^ 9000:=by norm_cast
 have c2:((2 ^ e:Nat):Int)=(2:Int) ^ e:=by norm_cast
 omega
structure Sz(n e eh m0 kk:Nat):Prop where
 n20:n≤20
 e90:eh≤8990
 ehe:eh≤e
 e33:e≤33000
 m0e:m0=e+20*(e+1)
 kke:kk=2*e+3+20*(e+1)
theorem Sz.lim{n e eh m0 kk:Nat}(z:Sz n e eh m0 kk):m0+n*kk≤16000000:=by
 have h1:=z.n20
 have h2:=z.e33
 have h3:=z.m0e
 have h4:=z.kke
 have:n*kk≤20*kk:=Nat.mul_le_mul_right _ h1
 omega
theorem zlp{n e eh m0 kk:Nat}(z:Sz n e eh m0 kk)(S0:List (List Int))(v:List Int)(h20:S0.length≤20)(c0 c1:Cell)(f:Bool):∀(k:Nat) (S:List (List Int)) (left:List Int) (c4 c5:Cell),St.Wi n e eh m0 kk S0 v S left→n-St.z00 left≤k →
 (∃ S' left' c4' c5',z0z WC WF (k+1) [c0,c1,.ow f (S.map L),.sh true (L left),c4,c5]=some (.nx [c0,c1,.ow f (S'.map L),.sh true (L left'),c4',c5'])∧St.Post n (e+3+(m0+n*kk)) S0 v S') ∨
 (∃ S' fl,z0z WC WF (k+1) [c0,c1,.ow f (S.map L),.sh true (L left),c4,c5]=some (.rt fl (LL S'))∧St.Post n (e+3+(m0+n*kk)) S0 v S'):=by
 intro k
 induction k using Nat.strongRecOn with
 | _ k IH =>
 intro S left c4 c5 I hk
 have lim:=z.lim
 have hlen:S.length=S0.length:=by have:=congrArg List.length I.heads;simpa using this
 have hc:WC [c0,c1,.ow f (S.map L),.sh true (L left),c4,c5]=some (decide (St.z00 left<n)):=by
   have:(decide ((St.z00 left:Int)<(left.length:Int)))=decide (St.z00 left<n):=by
     have:=I.len
     by_cases h:St.z00 left<n
     · rw[decide_eq_true h,decide_eq_true (by omega)]
     · rw[decide_eq_false h,decide_eq_false (by omega)]
   simp[cOf,z1c,this]
   have:=I.len
   omega
 rw[z0z,hc,z0j]
 by_cases hn:St.z00 left<n
 · rw[decide_eq_true hn,if_pos rfl]
   rcases zgZ S (St.z00 left)with no|⟨S1,r,S2,rfl,hr⟩
   · right
     have ht:=zas (n:=n) (q:=0) left I.len hn
     generalize et:(if St.at0 left (St.z00 left)<0 then sclR (-1) left else left)=t at ht
     have hne:St.at0 left (St.z00 left)≠0:=St.z3h left (by rw[I.len];exact hn)
     have tc:∃ c:Int,(c=1∨c = -1)∧(∀ k,St.at0 t k=c*St.at0 left k)∧0<St.at0 t (St.z00 left)∧t.length=n:=by
       by_cases h:St.at0 left (St.z00 left)<0
       · rw[if_pos h]at et
         subst et
         have e1:∀ k,St.at0 (sclR (-1) left) k = -1*St.at0 left k:=fun k=>by
          simp only[St.at0,sclR,List.getD,List.getElem?_map]
          cases left[k]?<;>simp
         exact⟨-1,.inr rfl,e1,by rw[e1];omega,by rw[z1Y];exact I.len⟩
       · rw[if_neg h]at et
         subst et
         exact⟨1,.inl rfl,fun k=>by omega,by omega,I.len⟩
     obtain⟨c,hc1,hc2,hc3,hc4⟩:=tc
     have th:St.z00 t=St.z00 left:=St.z1w _ _ (fun k hk=>by rw[hc2,St.z0m left k hk];simp) (by omega)
     have nd:((S++[t]).map St.z00).Nodup:=by
       rw[List.map_append,List.nodup_append]
       refine⟨(St.Asc.iff.mp I.asc).2.imp fun{a b} h=>by omega,by simp,fun a ha b hb=>?_⟩
       obtain⟨x,hx,rfl⟩:=List.mem_map.mp ha
       have:=no x hx
       have hb:b=St.z00 t:=by simpa using hb
       omega
     obtain⟨fl,ew⟩:=zin S left t c0 c1 c4 c5 f no ht nd (by omega)
     refine⟨z1z (S++[t]),fl,by rw[ew];rfl,?_⟩
     refine I.new hn no hc4 c hc1 hc2 hc3 ?_ (z8f _ nd)
     exact(z5J _).trans (List.perm_append_comm)
   · have hm:r∈S1++r::S2:=by simp
     have q:=I.asc.mem hm
     have hcast:((2 ^ e:Nat):Int)=(2:Int) ^ e:=by norm_cast
     have hle:m0+St.z00 left*kk≤m0+n*kk:=by have:=Nat.mul_le_mul_right kk (Nat.le_of_lt hn);omega
     obtain⟨g,x,y,ec,hg,ga,gb,hxy,hx,hy⟩:=zcK (n:=n) (e:=eh) (q:=e+3+(m0+St.z00 left*kk)) r left q.1 I.len q.2.2.1 q.2.2.2 (I.hds r hm) (I.low r hm).1 (I.low r hm).2 z.e90 (I.all r hm) (I.size.mono (Nat.pow_le_pow_right (by decide) (by omega))) (by have:=z.e33;omega)
     have hl2:S1.length+S2.length+1≤20:=by simp at hlen;omega
     obtain⟨I',hlt,lb,hds'⟩:=I.step hr hn hg ga gb hxy (Nat.lt_of_lt_of_le hx (Nat.pow_le_pow_right (by decide) (by have:=z.ehe;omega))) (Nat.lt_of_lt_of_le hy (Nat.pow_le_pow_right (by decide) (by have:=z.ehe;omega))) (by have:=z.m0e;omega) (by
       have:=z.kke
       have:(S1.length+S2.length+1)*(e+1)≤20*(e+1):=Nat.mul_le_mul_right _ hl2
       omega)
     have el:=z58 (n:=n) (m:=m0+n*kk) (L (St.z16 r left g)) (St.z16 r left g) (S1++St.z0J r left x y::S2) (.inl rfl) (by omega) (z5K I'.asc hds' z.e90) (by
       unfold St.z16;rw[St.z7i (by rw[I.len,q.1])];exact I.len) lb (by simp;omega)
     obtain⟨d4,d5,ew⟩:=zcL S1 S2 r left _ _ c0 c1 c4 c5 f hr (St.Asc.iff.mp I.asc).2 ec _ el
     cases k with
     | zero=>omega
     | succ k =>
       rcases IH k (Nat.lt_succ_self k) _ _ d4 d5 I' (by omega) with⟨S',l',d4',d5',h1,h2⟩|⟨S',fl,h1,h2⟩
       · exact .inl ⟨S',l',d4',d5',by rw[ew];exact h1,h2⟩
       · exact .inr ⟨S',fl,by rw[ew];exact h1,h2⟩
 · rw[decide_eq_false hn]
   exact .inl ⟨S,left,c4,c5,rfl,I.done hn⟩
theorem zbA{n e eh m0 kk:Nat}(z:Sz n e eh m0 kk)(S:List (List Int))(d:Dt)(v:List Int)(hd:RowD d v)(A:St.Asc n 0 S)(hv:v.length=n)(h0:∀ r∈S,St.Lt (2 ^ e) r)(hh:∀ r∈S,St.hd r<2 ^ eh)(hs:St.Lt (2 ^ e) v)(h20:S.length≤20):
   ∃ S',z2b [LL S,d]=some (LL S')∧St.Post n (e+3+(m0+n*kk)) S v S':=by
 have lim:=z.lim
 have hm0:=z.m0e
 have hml:e+S.length*(e+1)≤m0:=by have:S.length*(e+1)≤20*(e+1):=Nat.mul_le_mul_right _ h20;omega
 obtain⟨I,lb⟩:=St.Wi.start (n:=n) (e:=e) (eh:=eh) (s:=e) (m0:=m0) (kk:=kk) A hv h0 hh hs hml (by omega)
 have el:=z58 (n:=n) (m:=m0) d v S hd (by omega) (z5K A I.hds z.e90) hv lb (by omega)
 have el:z0U [d,.lst (S.map L)]=some (L (St.z0c v S)):=el
 have fl:∃ f:Bool,∀ d0:Dt,sOwn 2 (fBlt bLst (z02 (fN 0) fNil)) [.sh false (LL S),.sh false d0,.no,.no,.no,.no]=some (.nx [.sh false (LL S),.sh false d0,.ow f (S.map L),.no,.no,.no]):=by
   cases S with
   | nil=>exact⟨true,fun d0=>by simp[cOf]⟩
   | cons r S=>exact⟨false,fun d0=>by simp[cOf,newL,lfl]⟩
 obtain⟨f,hf⟩:=fl
 have hb:∀ o,z1D WC WF [.sh false (LL S),.sh false d,.ow f (S.map L),.sh true (L (St.z0c v S)),.no,.no]=some o→(∃ S' fl,seqO (sRet (fN 2)) o=some (.rt fl (LL S'))∧St.Post n (e+3+(m0+n*kk)) S v S')→∃ S',z2b [LL S,d]=some (LL S')∧St.Post n (e+3+(m0+n*kk)) S v S':=by
   rintro o ho ⟨S',fl,h1,h2⟩
   refine⟨S',?_,h2⟩
   have e2:z2V 3 (z08 true z0U (z02 (fN 1) (z02 (fN 2) fNil))) [.sh false (LL S),.sh false d,.ow f (S.map L),.no,.no,.no]=some (.nx [.sh false (LL S),.sh false d,.ow f (S.map L),.sh true (L (St.z0c v S)),.no,.no]):=by
    rcases hd with rfl|rfl<;>simp[cOf,el]
   have q:z2M [.sh false (LL S),.sh false d,.no,.no,.no,.no]=some (.rt fl (LL S')):=by
    unfold z2M
    refine run (hf d) (run e2 ?_)
    show(z1D WC WF _).bind (seqO (sRet (fN 2)))=_
    rw[ho]
    exact h1
   unfold z2b cOf
   rw[if_pos (show[LL S,d].length=2 from rfl)]
   show(z2M [.sh false (LL S),.sh false d,.no,.no,.no,.no]).bind _=_
   rw[q]
   rfl
 rcases zlp z S v h20 (.sh false (LL S)) (.sh false d) f (n-St.z00 (St.z0c v S)) S (St.z0c v S) .no .no I (Nat.le_refl _) with⟨S',l',d4',d5',h1,h2⟩|⟨S',fl,h1,h2⟩
 · exact hb _ (z1u h1) ⟨S',flOf f,rfl,h2⟩
 · exact hb _ (z1u h1) ⟨S',fl,rfl,h2⟩
theorem z6Q:∀(A T:List (List Int)),∃ A',St.even (A++T)=A'++St.even T
 | [],T=>⟨[],rfl⟩
 | r::A,T=>by
  obtain⟨A',e⟩:=z6Q A T
  exact⟨St.z0c r (St.even (A++T))::A',by rw[List.cons_append,St.even,e];rfl⟩
theorem z8h{n:Nat}:∀{f:Nat} {A T:List (List Int)},St.Asc n f (A++T)→St.Asc n 0 T
 | f,[],T,h=>h.weak (Nat.zero_le _)
 | f,r::A,T,h=>z8h (A:=A) h.2.2.2.2
abbrev EF:FS:=sWrA z7K 1 (z08 true z0U (z02 (fN 2) (z02 (fN 1) fNil)))
theorem zg2{n e eh u:Nat}(he:eh≤8990)(he3:e≤33000)(hu:u≤17000000)(c0:Cell)(S:List (List Int))(A:St.Asc n 0 S)(hs:∀ r∈S,St.Lt (2 ^ u) r)(hE:∀ r∈St.even S,St.Lt (2 ^ e) r)(hH:∀ r∈St.even S,St.hd r<2 ^ eh)(h20:S.length≤21)(heu:e≤u):
  ∀(R T:List (List Int)) (c2:Cell),S=R.reverse++T→∃ c2',forF (Tg.one 2) EF (R.map L) [c0,.ow true ((St.even T).map L),c2]=some (.nx [c0,.ow true ((St.even S).map L),c2'])
 | [],T,c2,h=>⟨c2,by rw[h];rfl⟩
 | r::R,T,c2,h=>by
  have h':S=R.reverse++(r::T):=by rw[h];simp
  obtain⟨c2',ih⟩:=zg2 he he3 hu c0 S A hs hE hH h20 heu R (r::T) (.sh false (L r)) h'
  refine⟨c2',?_⟩
  rw[List.map_cons,z1P]
  have hlen:T.length+1≤21:=by have:=congrArg List.length h';simp at this;omega
  have rm:r∈S:=by rw[h'];simp
  have AT:St.Asc n 0 T:=z8h (A:=R.reverse++[r]) (by rw[List.append_assoc];show St.Asc n 0 (R.reverse++(r::T));rw[←h'];exact A)
  have AE:=(St.z2z AT).1
  obtain⟨A',ea⟩:=z6Q (R.reverse++[r]) T
  have sub:∀ x∈St.even T,x∈St.even S:=fun x hx=>by
   rw[h',show R.reverse++(r::T)=(R.reverse++[r])++T by simp,ea]
   exact List.mem_append.mpr (.inr hx)
  have hE':∀ x∈St.even T,St.Lt (2 ^ e) x:=fun x hx=>hE x (sub x hx)
  have hel:(St.even T).length≤20:=by rw[St.z2K];omega
  have hmul:(St.even T).length*(e+1)≤20*(e+1):=Nat.mul_le_mul_right _ hel
  obtain⟨_,lb⟩:=St.z1R (n:=n) (t:=0) (s:=u) (e:=e) (m:=u+20*(e+1)) (S:=St.even T) (left:=r) (fun x hx=>⟨(AE.mem hx).1,(AE.mem hx).2.2.2⟩) (A.mem rm).1 (fun k hk=>by omega) (fun x hx _=>hE' x hx) (hs r rm) (by omega) (by omega)
  have el:=z58 (n:=n) (m:=u+20*(e+1)) (L r) r (St.even T) (.inl rfl) (by omega) (z5K AE (fun x hx=>hH x (sub x hx)) he) (A.mem rm).1 lb (by omega)
  have el:z0U [L r,.lst ((St.even T).map L)]=some (L (St.z0c r (St.even T))):=el
  have e1:(Tg.put (Tg.one 2) (L r) [c0,.ow true ((St.even T).map L),c2]).bind EF=some (.nx [c0,.ow true (L (St.z0c r (St.even T))::(St.even T).map L),.sh false (L r)]):=by
   simp[cOf,el,show(St.even T).length<1000000 by omega]
  rw[e1]
  exact ih
theorem zh{n e eh u:Nat}(S:List (List Int))(he:eh≤8990)(he3:e≤33000)(hu:u≤17000000)(A:St.Asc n 0 S)(hs:∀ r∈S,St.Lt (2 ^ u) r)(hE:∀ r∈St.even S,St.Lt (2 ^ e) r)(hH:∀ r∈St.even S,St.hd r<2 ^ eh)(h20:S.length≤21)(heu:e≤u):z4c [LL S]=some (LL (St.even S)):=by
 obtain⟨c2,q⟩:=zg2 he he3 hu (.sh false (LL S)) S A hs hE hH h20 heu S.reverse [] .no (by simp)
 have q:forF (Tg.one 2) EF (S.map L).reverse [.sh false (LL S),.ow true [],.no]=some (.nx [.sh false (LL S),.ow true ((St.even S).map L),c2]):=by rw[←List.map_reverse];exact q
 unfold z4c z87
 simp[cOf,q]
abbrev CF:FS:=sSet [] 1 (z08 true z4c (z02 (z08 false z2b (z02 (fN 1) (z02 (fN 2) fNil))) fNil))
theorem z8i{n e eh B:Nat}(ed:List Int→Dt)(hed:∀ r,RowD (ed r) r)(hn:n≤20)(he:eh≤8990)(hee:eh≤e)(he3:e≤33000)(all:List (List Int))(hl:∀ r∈all,r.length=n)(hb:∀ r∈all,St.Lt B r)(hB:0<B)(hBe:B≤2 ^ e)(hbn:∀ k,k≤all.length→St.bnd k B+1≤2 ^ e)(hH:∀ k S,k≤all.length→St.Good n B (all.take k) S→∀ r∈S,St.hd r<2 ^ eh)(h20:all.length≤20)(c0:Cell):
  ∀(todo done:List (List Int)) (S:List (List Int)) (c2:Cell),all=done++todo→St.Good n B done S→∃ S' c2',forF (Tg.one 2) CF (todo.map ed) [c0,.sh true (LL S),c2]=some (.nx [c0,.sh true (LL S'),c2'])∧St.Good n B all S'
 | [],done,S,c2,h,G=>⟨S,c2,rfl,by rw[h,List.append_nil];exact G⟩
 | v::todo,done,S,c2,h,G=>by
  have z:Sz n e eh (e+20*(e+1)) (2*e+3+20*(e+1)):=⟨hn,he,hee,he3,rfl,rfl⟩
  have hdn:all.take done.length=done:=by rw[h];simp
  have hdv:all.take (done.length+1)=done++[v]:=by rw[h,List.take_append,List.take_of_length_le (by omega)];simp
  have hld:done.length+1+todo.length=all.length:=by rw[h];simp;omega
  have hv:v∈all:=by rw[h];simp
  have sub:∀ r∈done,r∈all:=fun r hr=>by rw[h];exact List.mem_append.mpr (.inl hr)
  have small:=G.small (fun r hr=>hb r (sub r hr)) hB
  have len:=G.len
  have small:∀ r∈S,St.Lt (2 ^ e) r:=fun r hr=>(small r hr).mono (hbn _ (by omega))
  obtain⟨S1,e1,P⟩:=zbA z S (ed v) v (hed v) G.asc (hl v hv) small (hH done.length S (by omega) (by rw[hdn];exact G)) ((hb v hv).mono hBe) (by omega)
  have G':=G.step P
  have small':=G'.small (fun r hr=>by
   rcases List.mem_append.mp hr with hr|hr
   · exact hb r (sub r hr)
   · rw[List.mem_singleton.mp hr];exact hb v hv) hB
  have len':=G'.len
  have len2:(done++[v]).length=done.length+1:=by simp
  have small':∀ r∈St.even S1,St.Lt (2 ^ e) r:=fun r hr=>(small' r hr).mono (hbn _ (by omega))
  have lim:=z.lim
  have e2:=zh (n:=n) (e:=e) (u:=e+3+(e+20*(e+1)+n*(2*e+3+20*(e+1)))) S1 he he3 (by omega) P.asc P.size small' (hH (done.length+1) _ (by omega) (by rw[hdv];exact G')) (by rw[←St.z2K];omega) (by omega)
  obtain⟨S',c2',ih,GG⟩:=z8i ed hed hn he hee he3 all hl hb hB hBe hbn hH h20 c0 todo (done++[v]) (St.even S1) (.sh false (ed v)) (by rw[h];simp) G'
  refine⟨S',c2',?_,GG⟩
  rw[List.map_cons,z1P]
  have st:(Tg.put (Tg.one 2) (ed v) [c0,.sh true (LL S),c2]).bind CF=some (.nx [c0,.sh true (LL (St.even S1)),.sh false (ed v)]):=by
   have sn:∀ f,(nrm f (ed v)).2=ed v:=fun f=>rfl
   simp[cOf,sn,e1,e2]
  rw[st]
  exact ih
theorem zbB{n e eh B:Nat}(ed:List Int→Dt)(hed:∀ r,RowD (ed r) r)(hn:n≤20)(he:eh≤8990)(hee:eh≤e)(he3:e≤33000)(rows:List (List Int))(d:Dt)(hd:d = .lst (rows.map ed)∨d = .tup (rows.map ed))(hl:∀ r∈rows,r.length=n)(hb:∀ r∈rows,St.Lt B r)(hB:0<B)(hBe:B≤2 ^ e)(hbn:∀ k,k≤rows.length→St.bnd k B+1≤2 ^ e)(hH:∀ k S,k≤rows.length→St.Good n B (rows.take k) S→∀ r∈S,St.hd r<2 ^ eh)(h20:rows.length≤20):
   ∃ S,z2C [d]=some (LL S)∧St.Good n B rows S:=by
 obtain⟨S,c2,q,G⟩:=z8i ed hed hn he hee he3 rows hl hb hB hBe hbn hH h20 (.sh false d) rows [] [] .no rfl St.Good.nil
 refine⟨S,?_,G⟩
 have q:forF (Tg.one 2) CF (rows.map ed) [.sh false d,.sh true (.lst []),.no]=some (.nx [.sh false d,.sh true (LL S),c2]):=q
 unfold z2C z6x
 rcases hd with rfl|rfl
 · simp[cOf,q]
 · simp[cOf,q]
theorem z8j{n e B:Nat}(ed:List Int→Dt)(hed:∀ r,RowD (ed r) r)(hn:n≤20)(he:e≤8990)(rows:List (List Int))(d:Dt)(hd:d = .lst (rows.map ed)∨d = .tup (rows.map ed))(hl:∀ r∈rows,r.length=n)(hb:∀ r∈rows,St.Lt B r)(hB:0<B)(hBe:B≤2 ^ e)(hbn:∀ k,k≤rows.length→St.bnd k B+1≤2 ^ e)(h20:rows.length≤20):
 ∃ S,z2C [d]=some (LL S)∧St.Good n B rows S:=zbB (eh:=e) ed hed hn he (Nat.le_refl _) (by omega) rows d hd hl hb hB hBe hbn (fun k S hk G r hr=>by
 have q:=G.small (fun r hr=>hb r (List.mem_of_mem_take hr)) hB r hr (St.z00 r)
 have l:=G.len
 have b:=hbn S.length (by rw[List.length_take]at l;omega)
 have q:(St.hd r).natAbs<St.bnd S.length B+1:=q
 have c2:((2 ^ e:Nat):Int)=(2:Int) ^ e:=by norm_cast
 omega) h20
theorem zio{n e B:Nat}(k:Int)(bills:List (List Int))(hn:n≤20)(he:e≤8990)(hl:∀ r∈bills,r.length=n)(hb:∀ r∈bills,St.Lt B r)(hB:0<B)(hBe:B≤2 ^ e)(hbn:∀ k,k≤bills.length→St.bnd k B+1≤2 ^ e)(h20:bills.length≤20):
  ∃ S,z4H [z0N k bills]=some (LL S)∧St.Good n B bills S:=by
 obtain⟨S,q,G⟩:=z8j (n:=n) (e:=e) (B:=B) T (fun r => .inr rfl) hn he bills (TTu bills) (.inr rfl) hl hb hB hBe hbn h20
 refine⟨S,?_,G⟩
 unfold z4H zan
 simp[cOf,q]
theorem z5a(d:Dt):z1U [d]=some (.bl (isWh d)):=by
 unfold z1U z6y
 cases d<;>simp[cOf,isWh,Dt.flat,nrm]
theorem zbC(a:List Int)(n:Int):z3G [L a,.int n]=some (.bl (decide ((a.length:Int)=n))):=by
 unfold z3G z56
 obtain⟨j,q⟩:=z6i (g:=Tg.one 2) (F:=sIf (fNot (fTru (z08 true z1U (z02 (fN 2) fNil)))) (sRet (fC (.bl false))) z0w) (e:=Dt.int) (R:=fun(_:Unit) (c:Cell)=>[.sh false (L a),.sh false (.int n),c]) (step:=fun _ _=>()) a () .no
   (fun b x j hx=>⟨.sh false (.int x),by simp[cOf,Tg.put,z5a,isWh]⟩)
 have q:forF (Tg.one 2) (sIf (fNot (fTru (z08 true z1U (z02 (fN 2) fNil)))) (sRet (fC (.bl false))) z0w) (a.map Dt.int) [.sh false (L a),.sh false (.int n),.no]=some (.nx [.sh false (L a),.sh false (.int n),j]):=q
 by_cases h:(a.length:Int)=n
 · simp[cOf,z1I,h,q]
 · simp[cOf,z1I,h]
theorem zat{r:List Int}{k:Nat}(h:k<r.length):atI (r.map Dt.int) (k:Int)=some (.int (St.at0 r k)):=by
 rw[z5w,zcz h];simp[St.at0,List.getD,List.getElem?_eq_getElem h]
theorem zbD(r:List Int):∀(m k:Nat),r.length-k≤m→k≤St.z00 r→(∀ j,j<k→St.at0 r j=0)→z0z (fAnd (z0e (fOp opLt (fN 1) (fBlt bLen (z02 (fN 0) fNil)))) (z0e (fOp opEq (fAt (fN 0) (fN 1)) (fC (.int 0))))) (sSet [] 1 (fOp z0n (fN 1) (fC (.int 1)))) (m+1) [.sh false (L r),.sh true (.int k)]=some (.nx [.sh false (L r),.sh true (.int (St.z00 r))]):=by
 intro m
 induction m using Nat.strongRecOn with
 | _ m IH =>
 intro k hm hk hz
 have hl:=St.z4C r
 rw[z0z]
 by_cases h:k<r.length
 · have a:=zat h
   by_cases h0:St.at0 r k=0
   · have ne:k≠St.z00 r:=fun e=>St.z3h r (by omega) (by rw[←e];exact h0)
     cases m with
     | zero=>omega
     | succ m =>
      have ih:=IH m (Nat.lt_succ_self m) (k+1) (by omega) (by omega) (fun j hj=>by
       by_cases q:j=k
       · rw[q];exact h0
       · exact hz j (by omega))
      rw[show((k+1:Nat):Int)=(k:Int)+1 by omega]at ih
      simp[cOf,a,h,h0,z0q]
      exact ih
   · have e:k=St.z00 r:=(St.z1w r k hz h0).symm
     simp[cOf,a,h,h0,z0q]
     omega
 · simp[cOf,h]
   omega
theorem zh0(r:List Int):z4g [L r]=some (.int (St.z00 r)):=by
 have q:=z1u (zbD r r.length 0 (by omega) (Nat.zero_le _) (fun j hj=>by omega))
 have q:z1D _ _ [.sh false (L r),.sh true (.int 0)]=_:=q
 unfold z4g z8a
 simp[cOf,q]
theorem z9y(a b:List Int)(k:Int)(hl:a.length=b.length)(hs:a.length≤1000)(h:∀ x∈b,z15 k x=true):z2Q [L a,L b,.int k]=some (L (addR a (sclR k b))):=by
 unfold z2Q z89
 have q:z0k 1 [0,2,1] (z0A (fBlt bLen (z02 (fN 0) fNil))) (Tg.one 0) fYes (fOp z0n (fAt (fN 1) (fN 0)) (fOp z0W (fN 2) (fAt (fN 3) (fN 0)))) [.sh false (L a),.sh false (L b),.sh false (.int k)]=some (.nw,L (addR a (sclR k b))):=by
  rw[z0C (e:=fun(j:Nat) => .int (0+(j:Int))) (h:=fun(j:Nat) => .int (a.getD j 0+k*b.getD j 0)) (xs:=List.range a.length) (by simp[cOf,z0A,intD,zcA (show a.length≤1000000 by omega),z27]) (fun j hj=>by
   have hj:=List.mem_range.mp hj
   have e1:=z5x (xs:=a) 0 hj
   have e2:=z5x (xs:=b) (i:=j) 0 (by omega)
   have e3:=h _ (zhZ 0 (show j<b.length by omega))
   simp[cOf,Tg.put,sigD,z5o,z5w,e1,e2,e3,-List.getD_eq_getElem?_getD]),L_map (fun j=>a.getD j 0+k*b.getD j 0),addscl a b k hl]
 simp[cOf,q]
theorem z5L(S:List (List Int))(n:Nat):z18 [LL S,.int n]=some (LL (St.bots n S)):=by
 have q:z0k 1 [1] (iSeq (fN 0)) (Tg.one 0) (z0e (fOp opGe (z08 true z0i (z02 (fN 0) fNil)) (fN 1))) (fSl (fN 0) (zfG (fN 1)) z7h) [.sh false (LL S),.sh false (.int n)]=some (.nw,.lst ((S.filter fun r=>!decide (St.z00 r<n)).map fun r=>L (r.drop n))) :=
  z5v (e:=L) (h:=fun r=>L (r.drop n)) (p:=fun r=>!decide (St.z00 r<n)) (xs:=S) (by simp[cOf]) (fun r hr=>by
   by_cases h:St.z00 r<n
   · simp[cOf,z1c,h]
   · simp[cOf,z1c,h];omega) (fun r hr _=>by
   simp[cOf,zi,z7R])
 unfold z18 z2c
 simp[cOf,q,St.bots]
structure Hall(n:Nat)(bills:List (List Int)):Prop where
 n1:1≤n
 n6:n≤6
 m8:bills.length≤8
 wide:∀ r∈bills,r.length=n
 small:∀ r∈bills,∀ x∈r,x.natAbs<10 ^ 30
theorem Hall.lt{n:Nat}{bills:List (List Int)}(H:Hall n bills):∀ r∈bills,St.Lt (10 ^ 30) r:=fun r hr=>St.z6m (by decide) (H.small r hr)
theorem zcM{n:Nat}{bills:List (List Int)}(H:Hall n bills):∃ S,z4H [z0N n bills]=some (LL S)∧St.Good n (10 ^ 30) bills S∧∀ r∈S,St.Lt (2 ^ 900) r:=by
 have m8:=H.m8
 have n6:=H.n6
 obtain⟨S,es,G⟩:=zio (n:=n) (e:=900) (B:=10 ^ 30) n bills (by omega) (by omega) H.wide H.lt (by decide) (by decide) (fun k hk=>St.bnd30 k (by omega)) (by omega)
 have:=G.len
 exact⟨S,es,G,fun r hr=>(G.small H.lt (by decide) r hr).mono (St.bnd30 _ (by omega))⟩
theorem hd_lt{n e:Nat}{S:List (List Int)}(A:St.Asc n 0 S)(h:∀ r∈S,St.Lt (2 ^ e) r):∀ r∈S,St.hd r<2 ^ e:=fun r hr=>by
 have h1:=h r hr (St.z00 r)
 have h3:(St.hd r).natAbs<2 ^ e:=h1
 have:((2 ^ e:Nat):Int)=(2:Int) ^ e:=by norm_cast
 omega
theorem low_ok{n e s:Nat}{S:List (List Int)}{v:List Int}(A:St.Asc n 0 S)(h:∀ r∈S,St.Lt (2 ^ e) r)(he:e≤8990)(hv:v.length=n)(hs:St.Lt (2 ^ s) v)(h20:S.length≤20)(hsl:s≤1000000):
  (∀ r∈S,r.length=n∧St.z00 r<n∧0<St.hd r∧St.hd r<2 ^ 9000)∧St.LowB (s+20*(e+1)) v S∧2*(s+20*(e+1))≤134217728∧S.length≤1000∧St.Lt (2 ^ (s+20*(e+1))) (St.z0c v S):=by
 have hm:S.length*(e+1)≤20*(e+1):=Nat.mul_le_mul_right _ h20
 obtain⟨z1,z2⟩:=St.z1R (n:=n) (t:=0) (s:=s) (e:=e) (m:=s+20*(e+1)) (S:=S) (left:=v) (fun r hr=>⟨(A.mem hr).1,(A.mem hr).2.2.2⟩) hv (fun k hk=>by omega) (fun r hr _=>h r hr) hs (by omega) (by omega)
 exact⟨z5K A (hd_lt A h) he,z2,by omega,by omega,z1.mono (Nat.pow_le_pow_right (by decide) (by omega))⟩
theorem copies(bills:List (List Int))(ρ:Rho)(F:FE)(f:Fl)(h:F ρ=some (f,LL bills)):z0k 1 [] (iSeq F) (Tg.one 0) fYes (fBlt bLst (z02 (fN 0) fNil)) ρ=some (.nw,LL bills) :=
 z0C (e:=L) (h:=L) (xs:=bills) (by unfold iSeq;rw[h];rfl) (fun x hx=>by simp[cOf])
theorem ziq(n:Nat)(hn:n≤1000)(ρ:Rho)(F:FE)(f:Fl)(h:F ρ=some (f,.int n)):z0k 1 [] (z0A F) (Tg.one 0) fYes (fC (.int 0)) ρ=some (.nw,L (z1B n)):=by
 rw[z0C (e:=fun(k:Nat) => .int (0+(k:Int))) (h:=fun _ => .int 0) (xs:=List.range n) (by unfold z0A;rw[h];simp[cOf,y13 n (by omega),z27]) (fun x _=>by simp[cOf])]
 simp[L,z1B,List.map_const']
theorem Hall.made{n:Nat}{bills:List (List Int)}(H:Hall n bills):z2A [.int n,LL bills]=some (z0N n bills):=zcJ n bills H.n1 H.n6 H.m8 H.wide H.small
structure Bask(n:Nat)(bills:List (List Int))(one other:List Int)(b:Bool):Prop where
 l1:one.length=n
 l2:other.length=n
 s1:St.Lt (2 ^ 100) one
 s2:St.Lt (2 ^ 210) other
 sp:b=true→∃ uses:List Int,uses.length=bills.length∧(∀ x∈uses,x.natAbs<10 ^ 30)∧other=addR one (mixR n bills uses)
theorem Bask.span{n:Nat}{bills:List (List Int)}{one other:List Int}{b:Bool}(q:Bask n bills one other b)(H:Hall n bills)(hb:b=true):Lat.Span (St.vecs bills) (fun k=>St.at0 other k-St.at0 one k):=by
 obtain⟨uses,h1,_,h2⟩:=q.sp hb
 refine Lat.Span.congr (fun k=>?_) (St.zcD (R:=bills) uses)
 have hml:(mixR n bills uses).length=n:=zhX H.wide
 rw[h2,zak (by rw[hml];exact q.l1),zih H.wide]
 omega
theorem zbE(a b:List Int)(q:Int):addR a (sclR (-q) b)=St.sub a q b:=by
 unfold addR sclR St.sub
 rw[List.zipWith_map_right]
 congr 1
 funext x y
 rw[Int.neg_mul];omega
abbrev LfF:FS:=(sSeq (sSet [] 4 (z08 true z4g (z02 (fN 3) fNil)))
 (sSet [] 2 (z08 true z2Q (z02 (fN 2) (z02 (fN 3) (z02 (fNeg (fOp z22 (fAt (fN 2) (fN 4)) (fAt (fN 3) (fN 4)))) fNil))))))
theorem z9z{n m:Nat}(hn:n≤1000)(hm:2*m≤134217728)(c0 c1:Cell):∀(S:List (List Int)) (left:List Int) (c3 c4:Cell),(∀ r∈S,r.length=n∧St.z00 r<n∧0<St.hd r∧St.hd r<2 ^ 9000)→left.length=n→St.LowB m left S →
  ∃ c3' c4',forF (Tg.one 3) LfF (S.map L) [c0,c1,.sh true (L left),c3,c4]=some (.nx [c0,c1,.sh true (L (St.z0c left S)),c3',c4'])
 | [],left,c3,c4,_,_,_=>⟨c3,c4,rfl⟩
 | r::S,left,c3,c4,hr,hl,hb=>by
  obtain⟨r1,r2,r3,r4⟩:=hr r List.mem_cons_self
  have hs:(St.sub left (St.z0B left r) r).length=n:=by rw[St.z2j (by omega)];exact hl
  obtain⟨d3,d4,ih⟩:=z9z hn hm c0 c1 S (St.sub left (St.z0B left r) r) (.sh false (L r)) (.sh true (.int (St.z00 r))) (fun x hx=>hr x (List.mem_cons_of_mem _ hx)) hs hb.2
  refine⟨d3,d4,?_⟩
  rw[List.map_cons,z1P]
  have a1:=zat (r:=left) (k:=St.z00 r) (by omega)
  have a2:=zat (r:=r) (k:=St.z00 r) (by omega)
  have dv:z1F (St.at0 left (St.z00 r)) (St.at0 r (St.z00 r))=true:=z4I r3 r4
  have ef:(St.at0 left (St.z00 r)).fdiv (St.at0 r (St.z00 r))=St.z0B left r:=rfl
  have mo:∀ x∈r,z15 (-(St.z0B left r)) x=true:=fun x hx=>by
   obtain⟨k,rfl⟩:=zii hx
   rcases hb.1 with h|⟨h1,h2⟩
   · rw[h];exact z0M (by decide)
   · exact z2D (m:=m) (by omega) (h2 k) (by omega)
  have pl:=z9y left r (-(St.z0B left r)) (by omega) (by omega) mo
  rw[zbE]at pl
  have e:(Tg.put (Tg.one 3) (L r) [c0,c1,.sh true (L left),c3,c4]).bind LfF=some (.nx [c0,c1,.sh true (L (St.sub left (St.z0B left r) r)),.sh false (L r),.sh true (.int (St.z00 r))]):=by
   simp[cOf,zh0,a1,a2,dv,ef,pl]
  rw[e]
  exact ih
theorem zh1{n m:Nat}(v:List Int)(S:List (List Int))(hn:n≤1000)(hm:2*m≤134217728)(hr:∀ r∈S,r.length=n∧St.z00 r<n∧0<St.hd r∧St.hd r<2 ^ 9000)(hl:v.length=n)(hb:St.LowB m v S):z2p [LL S,L v]=some (L (St.z0c v S)):=by
 obtain⟨d3,d4,q⟩:=z9z hn hm (.sh false (LL S)) (.sh false (L v)) S v .no .no hr hl hb
 unfold z2p z8b
 simp[cOf,q]
def ordD:Option Int→Dt
 | none => .non
 | some m => .int m
theorem bnd40(k:Nat)(h:k≤9):St.bnd k (10 ^ 40)+1≤2 ^ 1500:=by
 have:=St.zbh (B:=10 ^ 40) h (by decide) (by decide)
 have e:St.bnd 9 (10 ^ 40)+1≤2 ^ 1500:=by unfold St.bnd;decide
 omega
theorem zbF:∀ bills:List (List Int),zipD (bills.map T) (bills.map fun _=>L [0])=bills.map fun r => .tup [T r,L [0]]
 | []=>rfl
 | r::bills=>by rw[List.map_cons,List.map_cons,List.map_cons,zipD,zbF bills]
theorem zir(x:Int)(k:Nat)(h:x.natAbs<10 ^ 40):(St.at0 [x] k).natAbs<10 ^ 40:=by
 cases k with
 | zero=>exact h
 | succ k=>rw[St.z0I (by simp)];decide
theorem zg3(xs ys:List Dt)(h:xs.length+ys.length≤1000000):z0n (.lst xs) (.lst ys)=some (newL (xs++ys)):=by
 show(if xs.length+ys.length≤1000000 then some (newL (xs++ys)) else none)=_
 rw[if_pos h]
theorem zis(r:List Int)(xs:List Dt):newL (L r::xs)=(.tn,.lst (L r::xs)):=by
 unfold newL lfl
 rw[if_neg (by rw[y9];show ¬(false&&_)=true;exact Bool.false_ne_true)]
theorem zcN{n:Nat}{bills:List (List Int)}{b:List Int}(H:Hall n bills)(hb:b.length=n)(sb:St.Lt (10 ^ 40) b):
  ∃ S,z1n [.lst (L b::bills.map T),.lst (L [1]::bills.map fun _=>L [0])]=some (LL S)∧St.Good (n+1) (10 ^ 40) (St.ordR b bills) S:=by
 have n6:=H.n6
 have m8:=H.m8
 have wd:∀ r∈St.ordR b bills,r.length=n+1∧St.Lt (10 ^ 40) r:=fun r hr=>by
  rcases List.mem_cons.mp hr with rfl|hr
  · refine⟨by rw[List.length_append,hb];rfl,fun k=>?_⟩
    rw[St.z1M hb]
    split
    · exact sb k
    · exact zir _ _ (by decide)
  · obtain⟨x,hx,rfl⟩:=List.mem_map.mp hr
    refine⟨by rw[List.length_append,H.wide x hx];rfl,fun k=>?_⟩
    rw[St.z1M (H.wide x hx)]
    split
    · exact Nat.lt_of_lt_of_le (H.lt x hx k) (by decide)
    · exact zir _ _ (by decide)
 have ln:(St.ordR b bills).length=bills.length+1:=by unfold St.ordR;rw[List.length_cons,List.length_map]
 obtain⟨S,q,G⟩:=z8j (n:=n+1) (e:=1500) (B:=10 ^ 40) L (fun r => .inl rfl) (by omega) (by decide) (St.ordR b bills) (LL (St.ordR b bills)) (.inl rfl) (fun r hr=>(wd r hr).1) (fun r hr=>(wd r hr).2) (by decide) (by decide) (fun k hk=>bnd40 k (by omega)) (by omega)
 refine⟨S,?_,G⟩
 have c1:=z5y b [1] (by rw[hb,List.length_singleton];omega)
 have c0:∀ r∈bills,z0n (.lst (r.map Dt.int)) (.lst [Dt.int 0])=some (.nw,L (r++[0])):=fun r hr=>z5y r [0] (by rw[H.wide r hr,List.length_singleton];omega)
 have z:z0k 2 [] (iZip (fN 0) (fN 1)) (Tg.many [0,1]) fYes (fOp z0n (fBlt bLst (z02 (fN 0) fNil)) (fBlt bLst (z02 (fN 1) fNil))) [.sh false (.lst (L b::bills.map T)),.sh false (.lst (L [1]::bills.map fun _=>L [0]))]=some (.nw,LL (St.ordR b bills)):=by
  rw[z0C (e:=fun o:Option (List Int)=>match o with|none => .tup [L b,L [1]]|some r => .tup [T r,L [0]]) (h:=fun o=>match o with|none=>L (b++[1])|some r=>L (r++[0])) (xs:=none::bills.map some) (by
    have zz:zipD (L b::bills.map T) (L [1]::bills.map fun _=>L [0]) = .tup [L b,L [1]]::bills.map fun r => .tup [T r,L [0]]:=by rw[zipD,zbF]
    have ll:(L b::bills.map T).length=(L [1]::bills.map fun _=>L [0]).length:=by simp
    unfold iZip
    show(if(L b::bills.map T).length=(L [1]::bills.map fun _=>L [0]).length then some (zipD (L b::bills.map T) (L [1]::bills.map fun _=>L [0])) else none)=_
    rw[if_pos ll,zz,List.map_cons,List.map_map]
    rfl) (fun o ho=>by
    rcases List.mem_cons.mp ho with rfl|ho
    · have c1:z0n (.lst (b.map Dt.int)) (.lst [Dt.int 1])=some (.nw,L (b++[1])):=c1
      have n1:newL [Dt.int 1]=(.nw,.lst [.int 1]):=z1v [1]
      simp[cOf,n1,c1]
    · obtain⟨r,hr,rfl⟩:=List.mem_map.mp ho
      have c:=c0 r hr
      have n0:newL [Dt.int 0]=(.nw,.lst [.int 0]):=z1v [0]
      simp[cOf,n0,c])]
  unfold LL St.ordR
  rw[List.map_cons,List.map_map,List.map_cons,List.map_map]
  rfl
 unfold z1n z2N
 generalize St.ordR b bills=R at *
 simp[cOf,z,q]
theorem zbG{n:Nat}{bills:List (List Int)}{b:List Int}(H:Hall n bills)(hb:b.length=n)(sb:St.Lt (10 ^ 40) b):∃ o,z1N [z0N n bills,L b]=some (ordD o)∧St.IsOrd bills b o:=by
 have n6:=H.n6
 have m8:=H.m8
 obtain⟨S,es,G⟩:=zcN H hb sb
 have tn:=z5L S n
 have nb:=z8c n bills b hb
 have tg:z0k 1 [] (iSeq (fAt (fN 0) (fC (.int 1)))) (Tg.one 0) fYes (fLst (z02 (fC (.int 0)) fNil)) [.sh false (z0N n bills),.sh false (L b),.sh false (.lst (L b::bills.map T)),.no]=some (.nw,.lst (bills.map fun _=>L [0])) :=
   z0C (e:=T) (h:=fun _=>L [0]) (xs:=bills) (by simp[cOf]) (fun r _=>by simp[cOf])
 have ca:z0n (.lst [.lst (b.map Dt.int)]) (.lst (bills.map T))=some (.tn,.lst (L b::bills.map T)):=by
   rw[zg3 _ _ (by rw[List.length_map,List.length_singleton];omega)]
   exact congrArg some (zis b _)
 have cb:z0n (.lst [.lst [Dt.int 1]]) (.lst (bills.map fun _=>L [0]))=some (.tn,.lst (L [1]::bills.map fun _=>L [0])):=by
   rw[zg3 _ _ (by rw[List.length_map,List.length_singleton];omega)]
   exact congrArg some (zis [1] _)
 have nt:newL (bills.map T)=(.nw,.lst (bills.map T)):=by unfold newL lfl;rw[z6j,if_pos rfl]
 have start:∀{G:FS} {r:Option Oc},G [.sh false (z0N n bills),.sh false (L b),.sh false (.lst (L b::bills.map T)),.sh true (LL (St.bots n S))]=r→(sSeq (z4Q (z08 true z1K (z02 (fN 0) (z02 (fN 1) fNil)))) (sSeq (sSet [] 2 (fOp z0n (fLst (z02 (fN 1) fNil)) (fBlt bLst (z02 (fAt (fN 0) (fC (.int 1))) fNil)))) (sSeq (sSet [] 3 (z08 true z18 (z02 (z08 true z1n (z02 (fN 2) (z02 (fOp z0n (fLst (z02 (fLst (z02 (fC (.int 1)) fNil)) fNil)) (z0k 1 [] (iSeq (fAt (fN 0) (fC (.int 1)))) (Tg.one 0) fYes (fLst (z02 (fC (.int 0)) fNil)))) fNil))) (z02 (fAt (fN 0) (fC (.int 0))) fNil)))) G))) [.sh false (z0N n bills),.sh false (L b),.no,.no]=r:=fun{G r} hG=>by
   refine run (ρ':=[.sh false (z0N n bills),.sh false (L b),.no,.no]) (by simp[cOf,nb]) ?_
   refine run (ρ':=[.sh false (z0N n bills),.sh false (L b),.sh false (.lst (L b::bills.map T)),.no]) (by simp[cOf,nt,ca];rfl) ?_
   refine run (ρ':=[.sh false (z0N n bills),.sh false (L b),.sh false (.lst (L b::bills.map T)),.sh true (LL (St.bots n S))]) (by
    generalize z0k 1 [] (iSeq (fAt (fN 0) (fC (.int 1)))) (Tg.one 0) fYes (fLst (z02 (fC (.int 0)) fNil))=F at *
    generalize (L b::bills.map T)=Y at *
    simp[cOf,tg,cb,es,tn]) ?_
   exact hG
 rcases St.zi9 hb H.wide G.asc G.span with⟨h,o⟩|⟨m,h,o⟩
 · refine⟨none,z1b (f := .nw) rfl (start ?_) rfl,o⟩
   rw[h]
   simp[cOf,ordD]
 · refine⟨some m,z1b (f := .nw) rfl (start ?_) rfl,o⟩
   rw[h]
   simp[cOf,ordD]
theorem zg4{x:Int}{n:Nat}(h:0<n):∃ k:Nat,k<n∧x.fmod (n:Int)=(k:Int):=by
 have a:=Int.fmod_nonneg_of_pos x (show(0:Int)<n by omega)
 have b:=Int.fmod_lt_of_pos x (show(0:Int)<n by omega)
 obtain⟨k,hk⟩:=Int.eq_ofNat_of_zero_le a
 exact⟨k,by omega,hk⟩
def ppD(x:Nat×Nat):Dt := .tup [.int (x.1:Int),.int (x.2:Int)]
theorem zbH(l p:Nat):(l:Int).fmod (p:Int)=((l % p:Nat):Int):=by cases l<;>rfl
theorem zit(l p:Nat):(l:Int).fdiv (p:Int)=((l / p:Nat):Int):=by
 cases l with
 | zero=>simp
 | succ l=>rfl
theorem zlq{p:Nat}(hp:2≤p):∀(n l:Nat),l≤n→0<l→∃ k l',l=p ^ k*l'∧¬p∣l':=by
 intro n
 induction n with
 | zero=>intro l h1 h2;omega
 | succ n ih =>
  intro l h1 h2
  by_cases h:p∣l
  · obtain⟨m,rfl⟩:=h
    have m0:0<m:=Nat.pos_of_ne_zero fun z=>by rw[z]at h2;simp at h2
    have:m<p*m:=by
     have:2*m≤p*m:=Nat.mul_le_mul_right m hp
     omega
    obtain⟨k,l',e,hn⟩:=ih m (by omega) m0
    exact⟨k+1,l',by rw[Nat.pow_succ,Nat.mul_comm (p ^ k) p,Nat.mul_assoc,←e],hn⟩
  · exact⟨0,l,by rw[Nat.pow_zero,Nat.one_mul],h⟩
abbrev PIC:FT:=(z0e (fOp opEq (fOp z0Q (fN 2) (fN 3)) (fC (.int 0))))
abbrev PIF:FS:=(sSeq (sSet [] 4 (fOp z0W (fN 4) (fN 3))) (sSet [] 2 (fOp z22 (fN 2) (fN 3))))
theorem zbI{p:Nat}(hp:2≤p)(h6:p≤1000000)(c0 c1:Cell)(f3:Bool):∀(k l l' w:Nat) (f2 f4:Bool),l=p ^ k*l'→¬p∣l'→w*p ^ k≤1000000→∃ f2' f4',z0z PIC PIF (k+1) [c0,c1,.sh f2 (.int l),.sh f3 (.int p),.sh f4 (.int w)]=some (.nx [c0,c1,.sh f2' (.int l'),.sh f3 (.int p),.sh f4' (.int ((w*p ^ k:Nat):Int))]):=by
 have mo:∀ l:Nat,z1d (l:Int) (p:Int)=true:=fun l=>z0H (by omega)
 have dv:∀ l:Nat,z1F (l:Int) (p:Int)=true:=fun l=>z4J (by omega) (by rw[Int.natAbs_natCast];exact Nat.lt_of_le_of_lt h6 (Nat.lt_of_lt_of_le (show 1000000<2 ^ 20 by decide) (Nat.pow_le_pow_right (by decide) (by decide))))
 intro k
 induction k with
 | zero =>
  intro l l' w f2 f4 e hn hw
  rw[Nat.pow_zero,Nat.one_mul]at e
  subst e
  have m0:¬l % p=0:=fun z=>hn (Nat.dvd_of_mod_eq_zero z)
  refine⟨f2,f4,?_⟩
  have t:PIC [c0,c1,.sh f2 (.int l),.sh f3 (.int p),.sh f4 (.int w)]=some false:=by
   have q:¬(l:Int).fmod (p:Int)=0:=by rw[zbH];omega
   have m:=mo l
   cases f2<;>cases f3<;>simp[cOf,m,z0q,q]
  unfold z0z
  rw[t,z0j,if_neg Bool.false_ne_true,Nat.pow_zero,Nat.mul_one]
 | succ k ih =>
  intro l l' w f2 f4 e hn hw
  have hd:l % p=0:=Nat.mod_eq_zero_of_dvd ⟨p ^ k*l',by rw[e,Nat.pow_succ,Nat.mul_comm (p ^ k) p,Nat.mul_assoc]⟩
  have hq:l / p=p ^ k*l':=by rw[e,Nat.pow_succ,Nat.mul_comm (p ^ k) p,Nat.mul_assoc,Nat.mul_div_cancel_left _ (by omega)]
  have ew:w*p*p ^ k=w*p ^ (k+1):=by rw[Nat.pow_succ,Nat.mul_assoc,Nat.mul_comm p]
  obtain⟨f2',f4',q⟩:=ih (l / p) l' (w*p) true true hq hn (by rw[ew];exact hw)
  have w6:w≤1000000:=Nat.le_trans (Nat.le_mul_of_pos_right w (Nat.pow_pos (by omega))) hw
  have t:PIC [c0,c1,.sh f2 (.int l),.sh f3 (.int p),.sh f4 (.int w)]=some true:=by
   have qz:(l:Int).fmod (p:Int)=0:=by rw[zbH,hd];rfl
   have m:=mo l
   cases f2<;>cases f3<;>simp[cOf,m,z0q,qz]
  have st:PIF [c0,c1,.sh f2 (.int l),.sh f3 (.int p),.sh f4 (.int w)]=some (.nx [c0,c1,.sh true (.int ((l / p:Nat):Int)),.sh f3 (.int p),.sh true (.int ((w*p:Nat):Int))]):=by
   have mk:z15 (w:Int) (p:Int)=true:=z0M (by rw[Int.natAbs_natCast];exact Nat.lt_of_le_of_lt w6 (by decide))
   have d:=dv l
   have e1:=zit l p
   rw[←e1,Int.natCast_mul]
   cases f2<;>cases f3<;>cases f4<;>simp[cOf,mk,d]
  refine⟨f2',f4',?_⟩
  unfold z0z
  rw[t,z0j,if_pos rfl,st,z0j,←ew]
  exact q
abbrev POC:FT:=(z0e (fOp opGt (fN 2) (fC (.int 1))))
abbrev POF:FS:=(sSeq (sIf (z0e (fOp opGt (fOp z0W (fN 3) (fN 3)) (fN 2))) (sSet [] 3 (fN 2)) z0w)
 (sSeq (sSet [] 4 (fC (.int 1)))
 (sSeq (z1D PIC PIF)
 (sSeq (sIf (z0e (fOp opGt (fN 4) (fC (.int 1)))) (sWr wApp 1 (fTup (z02 (fN 3) (z02 (fN 4) fNil)))) z0w)
 (sSet [] 3 (fOp z0n (fN 3) (fC (.int 1))))))))
theorem zlr{N p0 p l l' k:Nat}{fs:List (Nat×Nat)}(h6:N≤1000000)(hlN:l≤N)(c0:Cell)(f2 f3:Bool)(c4:Cell)(hp0:p0≤l)(hsel:p=if l<p0*p0 then l else p0)(hp:2≤p)(hpl:p≤l)(e:l=p ^ k*l')(hn:¬p∣l')(l0:0<l)(hf:fs.length≤1000):
  ∃ f2' f3' c4',POF [c0,.ow true (fs.map ppD),.sh f2 (.int l),.sh f3 (.int p0),c4]=some (.nx [c0,.ow true ((fs++if 1<p ^ k then[(p,p ^ k)] else[]).map ppD),.sh f2' (.int l'),.sh f3' (.int ((p+1:Nat):Int)),c4']):=by
 have mk:z15 (p0:Int) (p0:Int)=true:=z0M (by rw[Int.natAbs_natCast];exact Nat.lt_of_le_of_lt (Nat.le_trans hp0 (Nat.le_trans hlN h6)) (by decide))
 have hpk:p ^ k≤1000000:=by
  have l'0:0<l':=Nat.pos_of_ne_zero fun z=>by rw[z,Nat.mul_zero]at e;omega
  exact Nat.le_trans (Nat.le_mul_of_pos_right _ l'0) (by rw[←e];omega)
 obtain⟨f2',f4',q⟩:=zbI hp (by omega) c0 (.ow true (fs.map ppD)) true k l l' 1 f2 true e hn (by rw[Nat.one_mul];exact hpk)
 rw[Nat.one_mul]at q
 have q1:=z1u q
 have s1:∃ f,(sIf (z0e (fOp opGt (fOp z0W (fN 3) (fN 3)) (fN 2))) (sSet [] 3 (fN 2)) z0w) [c0,.ow true (fs.map ppD),.sh f2 (.int l),.sh f3 (.int p0),c4]=some (.nx [c0,.ow true (fs.map ppD),.sh f2 (.int l),.sh f (.int p),c4]):=by
  have ec:((p0*p0:Nat):Int)=(p0:Int)*(p0:Int):=Int.natCast_mul _ _
  by_cases z:l<p0*p0
  · rw[if_pos z]at hsel
    refine⟨true,?_⟩
    subst hsel
    have z':(p:Int)<(p0:Int)*(p0:Int):=by omega
    cases f2<;>cases f3<;>simp[cOf,mk,z']
  · rw[if_neg z]at hsel
    refine⟨f3,?_⟩
    subst hsel
    have z':¬((l:Int)<(p:Int)*(p:Int)):=by omega
    cases f2<;>cases f3<;>simp[cOf,mk,z']
 obtain⟨f,s1⟩:=s1
 obtain⟨f2',f4',q⟩:=zbI hp (by omega) c0 (.ow true (fs.map ppD)) f k l l' 1 f2 true e hn (by rw[Nat.one_mul];exact hpk)
 rw[Nat.one_mul]at q
 have q1:=z1u q
 have s4:(sIf (z0e (fOp opGt (fN 4) (fC (.int 1)))) (sWr wApp 1 (fTup (z02 (fN 3) (z02 (fN 4) fNil)))) z0w) [c0,.ow true (fs.map ppD),.sh f2' (.int l'),.sh f (.int p),.sh f4' (.int ((p ^ k:Nat):Int))]=some (.nx [c0,.ow true ((fs++if 1<p ^ k then[(p,p ^ k)] else[]).map ppD),.sh f2' (.int l'),.sh f (.int p),.sh f4' (.int ((p ^ k:Nat):Int))]):=by
  generalize p ^ k=w at *
  by_cases z:1<w
  · rw[if_pos z,List.map_append]
    have z':(1:Int)<(w:Int):=by omega
    have le:(fs.map ppD).length<1000000:=by rw[List.length_map];omega
    generalize fs.map ppD=Y at *
    cases f<;>cases f4'<;>simp[cOf,z',wApp,le,ppD,z]
  · rw[if_neg z,List.append_nil]
    have z':¬(1:Int)<(w:Int):=by omega
    generalize fs.map ppD=Y at *
    cases f<;>cases f4'<;>simp[cOf,z',z]
 refine⟨f2',true,.sh f4' (.int ((p ^ k:Nat):Int)),?_⟩
 unfold POF
 refine run s1 ?_
 refine run (ρ':=[c0,.ow true (fs.map ppD),.sh f2 (.int l),.sh f (.int p),.sh true (.int 1)]) (by simp[cOf]) ?_
 refine run q1 ?_
 refine run s4 ?_
 generalize p ^ k=w at *
 generalize (fs++if 1<w then[(p,w)] else[]).map ppD=Y at *
 cases f<;>simp[cOf]
theorem zls{N:Nat}(h6:N≤1000000)(h0:0<N)(c0:Cell):∀(j p l:Nat) (fs:List (Nat×Nat)) (f2 f3:Bool) (c4:Cell),St.PPs N p l fs→N<p+j→∃ fs' c2 c3 c4',z0z POC POF (j+1) [c0,.ow true (fs.map ppD),.sh f2 (.int l),.sh f3 (.int p),c4]=some (.nx [c0,.ow true (fs'.map ppD),c2,c3,c4'])∧St.PPd N fs':=by
 intro j
 induction j with
 | zero =>
  intro p l fs f2 f3 c4 P h
  have hl:¬1<l:=fun z=>by have:=P.le z;have:=P.leN h0;omega
  have t:POC [c0,.ow true (fs.map ppD),.sh f2 (.int l),.sh f3 (.int p),c4]=some false:=by
    have z:¬((1:Int)<(l:Int)):=by omega
    cases f2<;>simp[cOf,z,hl]
  refine⟨fs,.sh f2 (.int l),.sh f3 (.int p),c4,?_,P.done hl⟩
  unfold z0z
  rw[t,z0j,if_neg Bool.false_ne_true]
 | succ j ih =>
  intro p l fs f2 f3 c4 P h
  by_cases hl:1<l
  · have t:POC [c0,.ow true (fs.map ppD),.sh f2 (.int l),.sh f3 (.int p),c4]=some true:=by
      have z:((1:Int)<(l:Int)):=by omega
      cases f2<;>simp[cOf,z,hl]
    have hpl:=P.le hl
    have hlN:=P.leN h0
    have hfl:fs.length≤1000:=P.few h6 h0
    have go:∀{p1 l1 k:Nat},p1=(if l<p*p then l else p)→2≤p1→p1≤l→p≤p1→l=p1 ^ k*l1→¬p1∣l1→St.PPs N (p1+1) l1 (fs++if 1<p1 ^ k then[(p1,p1 ^ k)] else[])→∃ fs' c2 c3 c4',z0z POC POF (j+1+1) [c0,.ow true (fs.map ppD),.sh f2 (.int l),.sh f3 (.int p),c4]=some (.nx [c0,.ow true (fs'.map ppD),c2,c3,c4'])∧St.PPd N fs':=fun{p1 l1 k} g1 g2 g3 g4 g5 g6 P'=>by
      obtain⟨f2',f3',c4',q⟩:=zlr h6 hlN c0 f2 f3 c4 hpl g1 g2 g3 g5 g6 P.lpos hfl
      obtain⟨fs',c2,c3,c4'',q2,D⟩:=ih (p1+1) l1 _ f2' f3' c4' P' (by omega)
      refine⟨fs',c2,c3,c4'',?_,D⟩
      unfold z0z
      rw[t,z0j,if_pos rfl,q,z0j]
      exact q2
    by_cases z:l<p*p
    · have pr:=P.last hl z
      refine go (k:=1) (l1:=1) (p1:=l) (by rw[if_pos z]) (by omega) (Nat.le_refl l) hpl (by rw[Nat.pow_one,Nat.mul_one]) (fun d=>by have:=Nat.le_of_dvd (by decide) d;omega) ?_
      rw[Nat.pow_one,if_pos hl]
      exact P.skipTo hl pr
    · obtain⟨k,l1,e,hn⟩:=zlq P.p2 l l (Nat.le_refl l) P.lpos
      refine go (k:=k) (l1:=l1) (p1:=p) (by rw[if_neg z]) P.p2 hpl (Nat.le_refl p) e hn ?_
      cases k with
      | zero =>
       rw[Nat.pow_zero,Nat.one_mul]at e
       subst e
       rw[Nat.pow_zero,if_neg (by decide),List.append_nil]
       exact P.skip hn
      | succ k =>
       have w2:1<p ^ (k+1):=Nat.one_lt_pow (by omega) (by have:=P.p2;omega)
       rw[if_pos w2]
       exact P.take (P.first ⟨p ^ k*l1,by rw[e,Nat.pow_succ,Nat.mul_comm (p ^ k) p,Nat.mul_assoc]⟩) e hn
  · have t:POC [c0,.ow true (fs.map ppD),.sh f2 (.int l),.sh f3 (.int p),c4]=some false:=by
      have z:¬((1:Int)<(l:Int)):=by omega
      cases f2<;>simp[cOf,z,hl]
    refine⟨fs,.sh f2 (.int l),.sh f3 (.int p),c4,?_,P.done hl⟩
    unfold z0z
    rw[t,z0j,if_neg Bool.false_ne_true]
theorem z7c{N:Nat}(h6:N≤1000000)(h0:0<N):∃ fs,z20 [.int N]=some (.lst (fs.map ppD))∧St.PPd N fs:=by
 obtain⟨fs,c2,c3,c4,q,D⟩:=zls h6 h0 (.sh false (.int N)) N 2 N [] true true .no (St.PPs.start h0) (by omega)
 have q:=z1u q
 refine⟨fs,z1b (f := .fr) rfl ?_ rfl,D⟩
 unfold z2O
 refine run (ρ':=[.sh false (.int N),.ow true [],.no,.no,.no]) (by show sOwn _ _ [.sh false (.int N),.no,.no,.no,.no]=_;simp[cOf]) ?_
 refine run (ρ':=[.sh false (.int N),.ow true [],.sh true (.int N),.no,.no]) (by simp[cOf]) ?_
 refine run (ρ':=[.sh false (.int N),.ow true [],.sh true (.int N),.sh true (.int 2),.no]) (by simp[cOf]) ?_
 refine run q ?_
 simp[cOf]
structure Oft(N w:Nat)(c:Int):Prop where
 one:(w:Int)∣c-1
 zero:∀ o,N=w*o→(o:Int)∣c
 lo:0≤c
 hi:c<N
theorem zau{N:Nat}{fs:List (Nat×Nat)}(h6:N≤1000000)(h0:0<N)(P:St.PPd N fs){x:Nat×Nat}(hx:x∈fs):∃ c,z2o [.int (x.2:Int),.int (N:Int)]=some (.int c)∧Oft N x.2 c:=by
 obtain⟨o,e,cp,_⟩:=P.cop hx
 obtain⟨w2,wd⟩:=P.w2 hx
 have wN:x.2≤N:=Nat.le_of_dvd h0 wd
 have o0:0<o:=Nat.pos_of_ne_zero fun z=>by rw[z,Nat.mul_zero]at e;omega
 have oN:o≤N:=Nat.le_of_dvd h0 ⟨x.2,by rw[Nat.mul_comm];exact e⟩
 have p20:∀ a:Nat,a≤1000000→((a:Int)).natAbs<2 ^ 21:=fun a ha=>by rw[Int.natAbs_natCast];exact Nat.lt_of_le_of_lt ha (by decide)
 obtain⟨u,v,eb,bz,bu,bv⟩:=z9u (o:Int) (x.2:Int) 21 (by decide) (p20 o (by omega)) (p20 x.2 (by omega))
 have g1:(Int.gcd (o:Int) (x.2:Int):Int)=1:=by
   have:Int.gcd (o:Int) (x.2:Int)=1:=cp
   rw[this];rfl
 rw[g1]at eb bz
 have ed:(N:Int).fdiv (x.2:Int)=(o:Int):=by rw[zit,e,Nat.mul_div_cancel_left _ (by omega)]
 have dv:z1F (N:Int) (x.2:Int)=true:=z4J (by omega) (Nat.lt_of_lt_of_le (p20 x.2 (by omega)) (Nat.pow_le_pow_right (by decide) (by decide)))
 have mk:z15 (o:Int) u=true:=z0M (Nat.lt_of_lt_of_le (p20 o (by omega)) (by decide))
 have mo:z1d ((o:Int)*u) (N:Int)=true:=z0H (by omega)
 refine⟨((o:Int)*u).fmod (N:Int),?_,?_⟩
 · refine z1b (f := .nw) rfl ?_ rfl
   unfold z4d
   have t1:atI [Dt.int 1,.int u,.int v] 1=some (.int u):=rfl
   simp[cOf,dv,ed,eb,mk,mo,t1]
 · have key:∃ k,((o:Int)*u).fmod (N:Int)=(o:Int)*u-(N:Int)*k:=⟨((o:Int)*u).fdiv (N:Int),by have:=Int.mul_fdiv_add_fmod ((o:Int)*u) (N:Int);omega⟩
   obtain⟨k,hk⟩:=key
   have en:(N:Int)=(x.2:Int)*(o:Int):=by rw[e,Int.natCast_mul]
   refine⟨?_,fun o' e'=>?_,Int.fmod_nonneg_of_pos _ (by omega),Int.fmod_lt_of_pos _ (by omega)⟩
   · rw[hk,en]
     refine⟨-v-(o:Int)*k,?_⟩
     rw[Int.mul_sub,Int.mul_neg,Int.mul_assoc]
     omega
   · have:o'=o:=Nat.eq_of_mul_eq_mul_left (show 0<x.2 by omega) (by rw[←e',←e])
     subst this
     rw[hk,en]
     exact⟨u-(x.2:Int)*k,by rw[Int.mul_sub,Int.mul_left_comm,←Int.mul_assoc (x.2:Int),Int.mul_comm (x.2:Int) (o':Int),Int.mul_assoc]⟩
theorem Oft.dvd{N w:Nat}{c:Int}(h:Oft N w c){o:Nat}(e:N=w*o)(cp:Nat.Coprime o w)(t:Int):(N:Int)∣t*c↔(w:Int)∣t:=by
 obtain⟨k,hk⟩:=h.one
 obtain⟨m,hm⟩:=h.zero o e
 have en:(N:Int)=(w:Int)*(o:Int):=by rw[e,Int.natCast_mul]
 constructor
 · intro hd
   have h1:(w:Int)∣t*c:=Int.dvd_trans ⟨(o:Int),en⟩ hd
   have e2:t=t*c-(w:Int)*(k*t):=by
    have:c=(w:Int)*k+1:=by omega
    rw[this,Int.mul_add,Int.mul_one,Int.mul_left_comm,Int.mul_comm t k];omega
   rw[e2]
   exact Int.dvd_sub h1 ⟨k*t,rfl⟩
 · rintro⟨s,rfl⟩
   rw[hm,en]
   exact⟨s*m,by rw[Int.mul_assoc,Int.mul_assoc,Int.mul_left_comm s]⟩
def ptD(b:List Int)(x:(Nat×Nat)×Int):Dt := .tup [.int (x.1.1:Int),L (sclR x.2 b)]
theorem z9A{N:Nat}{fs:List (Nat×Nat)}(h6:N≤1000000)(h0:0<N)(P:St.PPd N fs):∀ gs:List (Nat×Nat),(∀ x∈gs,x∈fs)→∃ cs:List ((Nat×Nat)×Int),cs.map (·.1)=gs∧∀ y∈cs,z2o [.int (y.1.2:Int),.int (N:Int)]=some (.int y.2)∧Oft N y.1.2 y.2
 | [],_=>⟨[],rfl,fun y hy=>by cases hy⟩
 | x::gs,h=>by
  obtain⟨c,h1,h2⟩:=zau h6 h0 P (h x List.mem_cons_self)
  obtain⟨cs,e,q⟩:=z9A h6 h0 P gs fun y hy=>h y (List.mem_cons_of_mem _ hy)
  refine⟨(x,c)::cs,by rw[List.map_cons,e],fun y hy=>?_⟩
  rcases List.mem_cons.mp hy with rfl|hy
  · exact⟨h1,h2⟩
  · exact q y hy
structure Parted(n:Nat)(bills:List (List Int))(b:List Int)(N:Nat)(cs:List ((Nat×Nat)×Int)):Prop where
 pp:St.PPd N (cs.map (·.1))
 oft:∀ y∈cs,Oft N y.1.2 y.2
theorem zh2{n N:Nat}{bills:List (List Int)}{b:List Int}(h6:N≤1000000)(h0:0<N)(eo:z1N [z0N n bills,L b]=some (.int (N:Int))):∃ cs,z4e [z0N n bills,L b]=some (.lst (cs.map (ptD b)))∧Parted n bills b N cs:=by
 obtain⟨fs,ef,P⟩:=z7c h6 h0
 obtain⟨cs,e,q⟩:=z9A h6 h0 P fs fun x hx=>hx
 refine⟨cs,?_,by rw[e];exact P,fun y hy=>(q y hy).2⟩
 have key:z0k 2 [1,2] (iSeq (z08 true z20 (z02 (fN 2) fNil))) (Tg.many [0,1]) fYes (fTup (z02 (fN 0) (z02 (z08 true z1e (z02 (fN 2) (z02 (z08 true z2o (z02 (fN 1) (z02 (fN 3) fNil))) fNil))) fNil))) [.sh false (z0N n bills),.sh false (L b),.sh true (.int (N:Int))]=some (.nw,.lst (cs.map (ptD b))):=by
  rw[z0C (e:=fun y:(Nat×Nat)×Int=>ppD y.1) (h:=ptD b) (xs:=cs) (by
   have e2:fs.map ppD=cs.map fun y=>ppD y.1:=by rw[←e,List.map_map];rfl
   rw[←e2]
   generalize fs.map ppD=Y at *
   simp[cOf,ef]) (fun y hy=>by
   obtain⟨h1,h2⟩:=q y hy
   have yl:y.2.natAbs≤1000000:=by have:=h2.lo;have:=h2.hi;omega
   have sc:=z2e b y.2 (fun x _=>z0M (Nat.lt_of_le_of_lt yl (by decide)))
   obtain⟨⟨p,w⟩,c⟩:=y
   unfold ptD ppD
   dsimp only at *
   simp[cOf,h1,sc])]
 have le:¬((1000000:Int)<(N:Int)):=by omega
 refine z1b (f := .nw) rfl ?_ rfl
 unfold z88
 refine run (ρ':=[.sh false (z0N n bills),.sh false (L b),.sh true (.int (N:Int))]) (by show sSet _ _ _ [.sh false (z0N n bills),.sh false (L b),.no]=_;simp[cOf,eo]) ?_
 refine run (ρ':=[.sh false (z0N n bills),.sh false (L b),.sh true (.int (N:Int))]) (by simp[cOf,zfC,isN,le]) ?_
 generalize cs.map (ptD b)=Y at *
 simp[cOf,key]
theorem zcO{n N:Nat}{bills:List (List Int)}{b:List Int}{cs:List ((Nat×Nat)×Int)}(H:Hall n bills)(hb:b.length=n)(sb:St.Lt (10 ^ 33) b)(h6:N≤1000000)(h0:0<N)(io:St.IsOrd bills b (some (N:Int)))(P:Parted n bills b N cs){y:(Nat×Nat)×Int}(hy:y∈cs):z1N [z0N n bills,L (sclR y.2 b)]=some (.int (y.1.2:Int)):=by
 have ho:=P.oft y hy
 have hm:y.1∈cs.map (·.1):=List.mem_map.mpr ⟨y,hy,rfl⟩
 obtain⟨o,e,cp,_⟩:=P.pp.cop hm
 obtain⟨w2,_⟩:=P.pp.w2 hm
 have at_:∀ k,St.at0 (sclR y.2 b) k=y.2*St.at0 b k:=fun k=>z7m y.2 b k
 have ib:=io.times at_ (show 0<(y.1.2:Int) by omega) fun t=>ho.dvd e cp t
 obtain⟨p,ep,ip⟩:=zbG (b:=sclR y.2 b) H (by unfold sclR;rw[List.length_map,hb]) fun k=>by
  rw[at_,Int.natAbs_mul]
  have h1:y.2.natAbs≤1000000:=by have:=ho.lo;have:=ho.hi;omega
  have h2:=sb k
  exact Nat.lt_of_le_of_lt (Nat.mul_le_mul_right _ h1) (Nat.lt_of_lt_of_le (Nat.mul_lt_mul_of_pos_left h2 (by decide)) (by decide))
 have:=ip.one ib
 rw[ep,this];rfl
abbrev IpC:FT:=(z0e (fOp opLe (fOp z0W (fN 1) (fN 1)) (fN 0)))
abbrev IpF:FS:=(sSeq (sIf (z0e (fOp opEq (fOp z0Q (fN 0) (fN 1)) (fC (.int 0)))) (sRet (fC (.bl false))) z0w) (sSet [] 1 (fOp z0n (fN 1) (fC (.int 1)))))
theorem z8P{q:Nat}(hq:St.Pr q)(h6:q≤1000000):z3I [.int (q:Int)]=some (.bl true):=by
 have q2:=hq.1
 have tst:∀(k:Nat) (f:Bool),k≤q+1→IpC [.sh false (.int (q:Int)),.sh f (.int (k:Int))]=some (decide (k*k≤q)):=fun k f hk=>by
  have m:z15 (k:Int) (k:Int)=true:=z0M (by rw[Int.natAbs_natCast];exact Nat.lt_of_le_of_lt (show k≤1000001 by omega) (by decide))
  have e:((k*k:Nat):Int)=(k:Int)*(k:Int):=Int.natCast_mul _ _
  have d:decide (k*k≤q)=decide ((k:Int)*(k:Int)≤(q:Int)):=by rw[←e];exact decide_eq_decide.mpr Int.ofNat_le.symm
  rw[d]
  generalize (k:Int)*(k:Int)=X at *
  cases f<;>simp[cOf,m]<;>omega
 have lp:∀(j k:Nat) (f:Bool),2≤k→k≤q+1→q<k+j→∃ c,z0z IpC IpF (j+1) [.sh false (.int (q:Int)),.sh f (.int (k:Int))]=some (.nx [.sh false (.int (q:Int)),c]):=by
  intro j
  induction j with
  | zero =>
   intro k f h2 hk h
   have kk:k≤k*k:=Nat.le_mul_of_pos_left k (by omega)
   refine⟨.sh f (.int (k:Int)),?_⟩
   unfold z0z
   rw[tst k f hk,decide_eq_false (by omega),z0j,if_neg Bool.false_ne_true]
  | succ j ih =>
   intro k f h2 hk h
   by_cases z:k*k≤q
   · have kk:k*2≤k*k:=Nat.mul_le_mul_left k h2
     have nd:¬q % k=0:=fun e=>hq.2 k h2 (by omega) (Nat.dvd_of_mod_eq_zero e)
     have fm:¬(q:Int).fmod (k:Int)=0:=by rw[zbH];omega
     have mo:z1d (q:Int) (k:Int)=true:=z0H (by omega)
     have st:IpF [.sh false (.int (q:Int)),.sh f (.int (k:Int))]=some (.nx [.sh false (.int (q:Int)),.sh true (.int ((k+1:Nat):Int))]):=by
      cases f<;>simp[cOf,mo,z0q,fm]
     obtain⟨c,e⟩:=ih (k+1) true (by omega) (by omega) (by omega)
     refine⟨c,?_⟩
     unfold z0z
     rw[tst k f hk,decide_eq_true z,z0j,if_pos rfl,st,z0j]
     exact e
   · refine⟨.sh f (.int (k:Int)),?_⟩
     unfold z0z
     rw[tst k f hk,decide_eq_false z,z0j,if_neg Bool.false_ne_true]
 obtain⟨c,e⟩:=lp q 2 true (Nat.le_refl 2) (by omega) (by omega)
 have e:=z1u e
 have n2:¬((q:Int)<2):=by omega
 refine z1b (f := .nw) rfl ?_ rfl
 unfold z3H
 refine run (ρ':=[.sh false (.int (q:Int)),.no]) (by show sIf _ _ _ [.sh false (.int (q:Int)),.no]=_;simp[cOf,n2]) ?_
 refine run (ρ':=[.sh false (.int (q:Int)),.sh true (.int 2)]) (by simp[cOf]) ?_
 refine run e ?_
 simp[cOf]
theorem z8Q{q:Nat}(hq:2≤q)(h6:q≤1000000)(e:Nat):z3K [.int ((q ^ (e+1):Nat):Int),.int (q:Int)]=some (.bl true):=by
 have mo:∀ l:Nat,z1d (l:Int) (q:Int)=true:=fun l=>z0H (by omega)
 have dv:∀ l:Nat,z1F (l:Int) (q:Int)=true:=fun l=>z4J (by omega) (by rw[Int.natAbs_natCast];exact Nat.lt_of_le_of_lt h6 (Nat.lt_of_lt_of_le (show 1000000<2 ^ 20 by decide) (Nat.pow_le_pow_right (by decide) (by decide))))
 have lp:∀(k:Nat) (f:Bool),∃ f',z0z (z0e (fOp opEq (fOp z0Q (fN 0) (fN 1)) (fC (.int 0)))) (sSet [] 0 (fOp z22 (fN 0) (fN 1))) (k+1) [.sh f (.int ((q ^ k:Nat):Int)),.sh false (.int (q:Int))]=some (.nx [.sh f' (.int 1),.sh false (.int (q:Int))]):=by
  intro k
  induction k with
  | zero =>
   intro f
   have z:¬((1:Int).fmod (q:Int)=0):=by
    have:=zbH 1 q
    rw[Nat.mod_eq_of_lt (by omega)]at this
    have this:(1:Int).fmod (q:Int)=1:=this
    omega
   have m:z1d 1 (q:Int)=true:=z0H (by omega)
   refine⟨f,?_⟩
   unfold z0z
   have t:(z0e (fOp opEq (fOp z0Q (fN 0) (fN 1)) (fC (.int 0)))) [.sh f (.int ((q ^ 0:Nat):Int)),.sh false (.int (q:Int))]=some false:=by
    rw[Nat.pow_zero]
    show(z0e (fOp opEq (fOp z0Q (fN 0) (fN 1)) (fC (.int 0)))) [.sh f (.int 1),.sh false (.int (q:Int))]=some false
    cases f<;>simp[cOf,m,z0q,z]
   rw[t,z0j,if_neg Bool.false_ne_true,Nat.pow_zero]
   rfl
  | succ k ih =>
   intro f
   have e1:q ^ (k+1)=q*q ^ k:=by rw[Nat.pow_succ,Nat.mul_comm]
   have z:((q ^ (k+1):Nat):Int).fmod (q:Int)=0:=by rw[zbH,e1,Nat.mul_mod_right];rfl
   have d:((q ^ (k+1):Nat):Int).fdiv (q:Int)=((q ^ k:Nat):Int):=by rw[zit,e1,Nat.mul_div_cancel_left _ (by omega)]
   have m:=mo (q ^ (k+1))
   have dd:=dv (q ^ (k+1))
   obtain⟨f',w⟩:=ih true
   refine⟨f',?_⟩
   unfold z0z
   have t:(z0e (fOp opEq (fOp z0Q (fN 0) (fN 1)) (fC (.int 0)))) [.sh f (.int ((q ^ (k+1):Nat):Int)),.sh false (.int (q:Int))]=some true:=by
    generalize ((q ^ (k+1):Nat):Int)=X at *
    cases f<;>simp[cOf,m,z0q,z]
   have s:(sSet [] 0 (fOp z22 (fN 0) (fN 1))) [.sh f (.int ((q ^ (k+1):Nat):Int)),.sh false (.int (q:Int))]=some (.nx [.sh true (.int ((q ^ k:Nat):Int)),.sh false (.int (q:Int))]):=by
    generalize ((q ^ (k+1):Nat):Int)=X at *
    generalize ((q ^ k:Nat):Int)=Y at *
    cases f<;>simp[cOf,dd,d]
   rw[t,z0j,if_pos rfl,s,z0j]
   exact w
 obtain⟨f',w⟩:=lp (e+1) false
 have w:=z1u w
 refine z1b (f := .nw) rfl ?_ rfl
 unfold z3J
 refine run w ?_
 cases f'<;>simp[cOf,z0q]
theorem zav{n N:Nat}{bills:List (List Int)}{b:List Int}{cs:List ((Nat×Nat)×Int)}(H:Hall n bills)(hb:b.length=n)(sb:St.Lt (10 ^ 33) b)(h6:N≤1000000)(h0:0<N)(io:St.IsOrd bills b (some (N:Int)))(P:Parted n bills b N cs){y:(Nat×Nat)×Int}(hy:y∈cs){l:Nat}(hl:l<y.1.1):
  z31 [ptD b y,z0N n bills,.int (l:Int)]=some (.bl true)∧z1N [z0N n bills,L (sclR y.2 b)]=some (.int (y.1.2:Int))∧y.1.2≤1000000:=by
 have hm':y.1∈cs.map (·.1):=List.mem_map.mpr ⟨y,hy,rfl⟩
 obtain⟨pr,e,he⟩:=P.pp.each y.1 hm'
 obtain⟨w2,wd⟩:=P.pp.w2 hm'
 have wd:=Nat.le_of_dvd h0 wd
 have qw:y.1.1≤y.1.2:=by
  rw[he,Nat.pow_succ]
  exact Nat.le_mul_of_pos_left _ (Nat.pow_pos (by have:=pr.1;omega))
 have e1:=zcO H hb sb h6 h0 io P hy
 have e2:=z8P pr (by omega)
 have e3:=z8Q (q:=y.1.1) pr.1 (by omega) e
 rw[←he]at e3
 have e4:=zbC (sclR y.2 b) (n:Int)
 rw[show(sclR y.2 b).length=n by unfold sclR;rw[List.length_map,hb],decide_eq_true rfl]at e4
 have e5:=z5a (.int (y.1.1:Int))
 have e6:=z5a (.int (y.1.2:Int))
 refine⟨?_,e1,by omega⟩
 obtain⟨⟨p,w⟩,c⟩:=y
 unfold ptD
 dsimp only at *
 have z1:¬((p:Int)≤(l:Int)):=by omega
 have z2:(1:Int)<(w:Int):=by omega
 have lb:bLst [.lst ((sclR c b).map Dt.int)]=some (.nw,L (sclR c b)):=congrArg some (z1v _)
 refine z1b (f := .nw) rfl ?_ rfl
 unfold z4h
 have z3:¬p≤l:=by omega
 simp[cOf,e4,e5,isWh,z1,z3,e2,lb,e1,e6,z2,e3,z1I]
def sumC:List ((Nat×Nat)×Int)→Int
 | []=>0
 | y::ds=>y.2+sumC ds
theorem zbJ{N:Nat}:∀{ds:List ((Nat×Nat)×Int)},(∀ y∈ds,Oft N y.1.2 y.2)→0≤sumC ds∧sumC ds≤(ds.length:Int)*(N:Int)
 | [],_=>⟨Int.le_refl 0,by show(0:Int)≤0*_;omega⟩
 | y::ds,h=>by
  obtain⟨a,b⟩:=zbJ fun z hz=>h z (List.mem_cons_of_mem _ hz)
  have hy:=h y List.mem_cons_self
  have h1:=hy.lo
  have h2:=hy.hi
  refine⟨by show 0≤y.2+sumC ds;omega,?_⟩
  show y.2+sumC ds≤((ds.length+1:Nat):Int)*(N:Int)
  rw[Int.natCast_add,Int.add_mul]
  show y.2+sumC ds≤(ds.length:Int)*(N:Int)+1*(N:Int)
  omega
theorem zbK:∀ b:List Int,sclR 0 b=z1B b.length
 | []=>rfl
 | x::b=>by
  have ih:=zbK b
  unfold sclR z1B at *
  rw[List.map_cons,ih,Int.zero_mul,List.length_cons,List.replicate_succ]
theorem zlt(s c:Int)(b:List Int):addR (sclR s b) (sclR 1 (sclR c b))=sclR (s+c) b:=by
 unfold addR sclR
 rw[List.map_map,List.zipWith_map]
 induction b with
 | nil=>rfl
 | cons x b ih =>
  rw[List.zipWith_cons_cons,ih,List.map_cons]
  congr 1
  show s*x+1*(c*x)=(s+c)*x
  rw[Int.one_mul,Int.add_mul]
abbrev PlF:FS:=(sSeq (sIf (fNot (fTru (z08 true z31 (z02 (fN 12) (z02 (fN 6) (z02 (fN 9) fNil)))))) (sRet (fC (.bl false))) z0w)
 (sSeq (sSet [] 9 (fAt (fN 12) (fC (.int 0))))
 (sSeq (sSet [] 10 (z08 true z2Q (z02 (fN 10) (z02 (fAt (fN 12) (fC (.int 1))) (z02 (fC (.int 1)) fNil)))))
 (sSet [] 11 (fOp z0W (fN 11) (z08 true z1N (z02 (fN 6) (z02 (fBlt bLst (z02 (fAt (fN 12) (fC (.int 1))) fNil)) fNil))))))))
theorem z9B{n N:Nat}{bills:List (List Int)}{b:List Int}{cs:List ((Nat×Nat)×Int)}(H:Hall n bills)(hb:b.length=n)(sb:St.Lt (10 ^ 33) b)(h6:N≤1000000)(h0:0<N)(io:St.IsOrd bills b (some (N:Int)))(P:Parted n bills b N cs)(c0 c1 c2 c3 c4 c5 c7 c8 c13:Cell):
  ∀(ds:List ((Nat×Nat)×Int)) (l:Nat) (s:Int) (d:Nat) (c12:Cell),(∀ y∈ds,y∈cs)→ds.Pairwise (fun x y=>x.1.1<y.1.1)→(∀ y∈ds,l<y.1.1)→∃ c9 c12',forF (Tg.one 12) PlF (ds.map (ptD b)) [c0,c1,c2,c3,c4,c5,.sh true (z0N n bills),c7,c8,.sh true (.int (l:Int)),.sh true (L (sclR s b)),.sh true (.int (d:Int)),c12,c13]=some (.nx [c0,c1,c2,c3,c4,c5,.sh true (z0N n bills),c7,c8,c9,.sh true (L (sclR (s+sumC ds) b)),.sh true (.int ((d*St.z1j (ds.map (·.1)):Nat):Int)),c12',c13])
 | [],l,s,d,c12,_,_,_=>⟨.sh true (.int (l:Int)),c12,by
   rw[List.map_nil,List.map_nil,St.z1S,Nat.mul_one,sumC,Int.add_zero];rfl⟩
 | y::ds,l,s,d,c12,hm,hp,hl=>by
  obtain⟨p1,p2⟩:=List.pairwise_cons.mp hp
  obtain⟨e1,e2,e3⟩:=zav H hb sb h6 h0 io P (hm y List.mem_cons_self) (hl y List.mem_cons_self)
  obtain⟨c9,c12',ih⟩:=z9B H hb sb h6 h0 io P c0 c1 c2 c3 c4 c5 c7 c8 c13 ds y.1.1 (s+y.2) (d*y.1.2) (.sh false (ptD b y)) (fun z hz=>hm z (List.mem_cons_of_mem _ hz)) p2 p1
  refine⟨c9,c12',?_⟩
  have sl:(sclR s b).length=(sclR y.2 b).length:=by unfold sclR;rw[List.length_map,List.length_map]
  have pl:=z9y (sclR s b) (sclR y.2 b) 1 sl (by unfold sclR;rw[List.length_map,hb];have:=H.n6;omega) (fun x _=>z0M (by decide))
  rw[zlt]at pl
  have mk:z15 (d:Int) (y.1.2:Int)=true:=by
   unfold z15
   rw[decide_eq_true (show(y.1.2:Int).natAbs<2 ^ 64 by rw[Int.natAbs_natCast];exact Nat.lt_of_le_of_lt e3 (by decide))]
   simp
  have lb:bLst [.lst ((sclR y.2 b).map Dt.int)]=some (.nw,L (sclR y.2 b)):=congrArg some (z1v _)
  rw[List.map_cons,z1P]
  have st:(Tg.put (Tg.one 12) (ptD b y) [c0,c1,c2,c3,c4,c5,.sh true (z0N n bills),c7,c8,.sh true (.int (l:Int)),.sh true (L (sclR s b)),.sh true (.int (d:Int)),c12,c13]).bind PlF=some (.nx [c0,c1,c2,c3,c4,c5,.sh true (z0N n bills),c7,c8,.sh true (.int (y.1.1:Int)),.sh true (L (sclR (s+y.2) b)),.sh true (.int ((d*y.1.2:Nat):Int)),.sh false (ptD b y),c13]):=by
   rw[Int.natCast_mul]
   obtain⟨⟨p,w⟩,c⟩:=y
   unfold ptD at *
   dsimp only at *
   generalize sclR (s+c) b=Z at *
   simp[cOf,e1,pl,lb,e2,mk]
  rw[st]
  have e:d*y.1.2*St.z1j (ds.map (·.1))=d*St.z1j ((y::ds).map (·.1)):=by rw[List.map_cons,St.z12,Nat.mul_assoc]
  rw[←e]
  have e':s+y.2+sumC ds=s+sumC (y::ds):=by rw[sumC];omega
  rw[←e']
  exact ih
theorem zlu{n N:Nat}{bills:List (List Int)}{b:List Int}{cs:List ((Nat×Nat)×Int)}(P:Parted n bills b N cs):(N:Int)∣sumC cs-1:=by
 have nd:cs.Pairwise fun x y=>x.1.1<y.1.1:=by have:=P.pp.sort;rw[List.pairwise_map]at this;exact this
 refine St.zlj P.pp fun x hx=>?_
 obtain⟨y,hy,rfl⟩:=List.mem_map.mp hx
 have key:∀ ds:List ((Nat×Nat)×Int),(∀ z∈ds,z∈cs)→ds.Pairwise (fun x y=>x.1.1<y.1.1)→(y∈ds→(y.1.2:Int)∣sumC ds-1)∧(y ∉ ds→(y.1.2:Int)∣sumC ds):=by
  intro ds
  induction ds with
  | nil=>intro _ _;exact⟨fun h=>(by cases h),fun _=>⟨0,by rw[sumC,Int.mul_zero]⟩⟩
  | cons z ds ih =>
   intro hm hp
   obtain⟨p1,p2⟩:=List.pairwise_cons.mp hp
   obtain⟨i1,i2⟩:=ih (fun u hu=>hm u (List.mem_cons_of_mem _ hu)) p2
   have hz:=hm z List.mem_cons_self
   by_cases e:z=y
   · subst e
     have nin:z ∉ ds:=fun h=>by have:=p1 z h;omega
     obtain⟨u,hu⟩:=(P.oft z hz).one
     obtain⟨v,hv⟩:=i2 nin
     refine⟨fun _=>⟨u+v,?_⟩,fun h=>absurd List.mem_cons_self h⟩
     rw[sumC,Int.mul_add];omega
   · have ne:z.1≠y.1:=fun h=>by
       obtain⟨as,bs,hab⟩:=List.append_of_mem hy
       have hz':=hz
       rw[hab]at hz' nd
       rw[List.pairwise_append]at nd
       obtain⟨_,s2,s3⟩:=nd
       obtain⟨s4,_⟩:=List.pairwise_cons.mp s2
       have h1:z.1.1=y.1.1:=by rw[h]
       rcases List.mem_append.mp hz' with h2|h2
       · have:=s3 z h2 y List.mem_cons_self;omega
       · rcases List.mem_cons.mp h2 with h2|h2
         · exact e h2
         · have:=s4 z h2;omega
     obtain⟨o,eo,_,od⟩:=P.pp.cop (List.mem_map.mpr ⟨z,hz,rfl⟩:z.1∈cs.map (·.1))
     have yd:(y.1.2:Int)∣z.2:=Int.dvd_trans (Int.natCast_dvd_natCast.mpr (od y.1 (List.mem_map.mpr ⟨y,hy,rfl⟩) (fun h=>ne h.symm))) ((P.oft z hz).zero o eo)
     obtain⟨u,hu⟩:=yd
     refine⟨fun h=>?_,fun h=>?_⟩
     · rcases List.mem_cons.mp h with h|h
       · exact absurd h.symm e
       · obtain⟨v,hv⟩:=i1 h
         exact⟨u+v,by rw[sumC,Int.mul_add];omega⟩
     · obtain⟨v,hv⟩:=i2 fun w=>h (List.mem_cons_of_mem _ w)
       exact⟨u+v,by rw[sumC,Int.mul_add];omega⟩
 exact(key cs (fun z hz=>hz) nd).1 hy
abbrev TlF:FS:=(sSeq (sSet [] 6 (z08 true z2A (z02 (fAt (fN 1) (fC (.int 0))) (z02 (z08 true z2R (z02 (fAt (fN 1) (fC (.int 1))) fNil)) fNil))))
 (sSeq (sSet [] 7 (fBlt bLst (z02 (fN 3) fNil)))
 (sSeq (sSet [] 8 (z08 true z4e (z02 (fN 6) (z02 (fN 7) fNil))))
 (sSeq (sIf (fOr (z0e (fOp opNe (fN 7) (fN 3))) (fNot (fTru (fIsi "list" (fN 8))))) (sRet (fC (.bl false))) z0w)
 (sSeq (sSet [] 9 (fC (.int 0)))
 (sSeq (sSet [] 10 (z0k 1 [] (z0A (fAt (fN 1) (fC (.int 0)))) (Tg.one 0) fYes (fC (.int 0))))
 (sSeq (sSet [] 11 (fC (.int 1)))
 (sSeq (sFor [] (iSeq (fN 8)) (Tg.one 12) PlF)
 (sSeq (sSet [] 13 (z08 true z4H (z02 (fN 6) fNil)))
 (sRet (vAnd (fOp opEq (fN 11) (z08 true z1N (z02 (fN 6) (z02 (fBlt bLst (z02 (fN 3) fNil)) fNil)))) (fOp opEq (z08 true z2p (z02 (fN 13) (z02 (fN 10) fNil))) (z08 true z2p (z02 (fN 13) (z02 (fN 3) fNil)))))))))))))))
theorem main{ns:List Int}{n:Nat}{bills:List (List Int)}{b:List Int}(H:Hall n bills)(hb:b.length=n)(sb:St.Lt (10 ^ 33) b){M:Int}(hM:0<M)(hM6:M≤1000000)(ty:St.Ty bills b M)(c2 c4 c5:Cell):
  TlF [.sh false (.scr ns),.sh true (.tup [.int n,LL bills]),c2,.sh true (L b),c4,c5,.no,.no,.no,.no,.no,.no,.no,.no]=some (.rt .nw (.bl true)):=by
 have n6:=H.n6
 have eh:=H.made
 obtain⟨o,eo,io⟩:=zbG H hb (sb.mono (by decide))
 obtain⟨N,rfl,N0,NM⟩:=io.le hM ty
 have N6:N≤1000000:=by omega
 have eo:z1N [z0N n bills,L b]=some (.int (N:Int)):=eo
 obtain⟨cs,ep,P⟩:=zh2 N6 N0 eo
 have nd:cs.Pairwise fun x y=>x.1.1<y.1.1:=by have:=P.pp.sort;rw[List.pairwise_map]at this;exact this
 have few:cs.length≤1000:=by
  have a:=St.z80 (fs:=cs.map (·.1)) fun x hx=>(P.pp.w2 hx).1
  rw[P.pp.prod,List.length_map]at a
  by_cases z:cs.length≤1000
  · exact z
  · have:2 ^ 20≤2 ^ cs.length:=Nat.pow_le_pow_right (by decide) (by omega)
    have:(2:Nat) ^ 20=1048576:=by decide
    omega
 obtain⟨S,es,G,sS⟩:=zcM H
 have lS:=St.z4D G.asc (Nat.zero_le _)
 have cp:z2R [LL bills]=some (LL bills):=by
  have cp:=copies bills [.sh false (LL bills)] (fN 0) .sh (by simp[cOf])
  unfold z2R z57
  simp[cOf,cp]
 obtain⟨c9,c12,lp⟩:=z9B H hb sb N6 N0 io P (.sh false (.scr ns)) (.sh true (.tup [.int n,LL bills])) c2 (.sh true (L b)) c4 c5 (.sh true (L b)) (.sh true (.lst (cs.map (ptD b)))) .no cs 0 0 1 .no (fun y hy=>hy) nd (fun y hy=>by
  obtain⟨pr,_⟩:=P.pp.each y.1 (List.mem_map.mpr ⟨y,hy,rfl⟩)
  have:=pr.1;omega)
 rw[P.pp.prod,Nat.one_mul,Int.zero_add]at lp
 have z0:sclR 0 b=z1B n:=by rw[←hb];exact zbK b
 rw[z0]at lp
 have zc:=ziq n (by omega) [.sh false (.scr ns),.sh true (.tup [.int n,LL bills]),z2H c2,.sh true (L b),z2H c4,z2H c5,.sh true (z0N n bills),.sh true (L b),.sh true (.lst (cs.map (ptD b))),.sh true (.int 0),.no,.no,.no,.no] (fAt (fN 1) (fC (.int 0))) .nw (by simp[cOf])
 obtain⟨s1,s2⟩:=zbJ P.oft
 have sN:sumC cs≤1000*1000000:=by
  have h1:(cs.length:Int)*(N:Int)≤1000*(N:Int):=Int.mul_le_mul_of_nonneg_right (by omega) (by omega)
  omega
 have sB:∀ k:Nat,(St.at0 (sclR (sumC cs) b) k).natAbs<2 ^ 200:=fun k=>by
  rw[z7m,Int.natAbs_mul]
  exact Nat.lt_of_le_of_lt (Nat.mul_le_mul_right _ (show(sumC cs).natAbs≤1000000000 by omega)) (Nat.lt_of_lt_of_le (Nat.mul_lt_mul_of_pos_left (sb k) (by decide)) (by decide))
 have hl2:(sclR (sumC cs) b).length=n:=by unfold sclR;rw[List.length_map,hb]
 have same:St.z0c (sclR (sumC cs) b) S=St.z0c b S:=by
  refine St.zbl G.asc hl2 hb (G.span.iff.mpr ?_)
  refine Lat.Span.congr (fun k=>?_) ((io.2 (sumC cs-1)).mpr (zlu P))
  show(sumC cs-1)*St.at0 b k=_
  rw[z7m,Int.sub_mul,Int.one_mul]
 have ll:∀ r:List Int,r.length=n→St.Lt (2 ^ 200) r→z2p [LL S,L r]=some (L (St.z0c r S)):=fun r hr h=>by
  obtain⟨o1,o2,o3,o4,_⟩:=low_ok G.asc sS (by decide) hr h (by omega) (by decide)
  exact zh1 r S (by omega) o3 o1 hr o2
 have l1:=ll _ hl2 sB
 have l2:=ll b hb (sb.mono (by decide))
 rw[same]at l1
 generalize sclR (sumC cs) b=B at *
 generalize St.z0c b S=Lo at *
 generalize cs.map (ptD b)=Y at *
 have nq:=zgL b b
 rw[decide_eq_true rfl]at nq
 have yq:=zgK Lo Lo
 rw[decide_eq_true rfl]at yq
 have lb:bLst [.lst (b.map Dt.int)]=some (.nw,L b):=congrArg some (z1v _)
 have ep:z4e [z0N n bills,.lst (b.map Dt.int)]=some (.lst Y):=ep
 unfold TlF
 refine run (ρ':=[.sh false (.scr ns),.sh true (.tup [.int n,LL bills]),c2,.sh true (L b),c4,c5,.sh true (z0N n bills),.no,.no,.no,.no,.no,.no,.no]) (by simp[cOf,cp,eh]) ?_
 refine run (ρ':=[.sh false (.scr ns),.sh true (.tup [.int n,LL bills]),c2,.sh true (L b),c4,c5,.sh true (z0N n bills),.sh true (L b),.no,.no,.no,.no,.no,.no]) (by simp[cOf,lb]) ?_
 refine run (ρ':=[.sh false (.scr ns),.sh true (.tup [.int n,LL bills]),c2,.sh true (L b),c4,c5,.sh true (z0N n bills),.sh true (L b),.sh true (.lst Y),.no,.no,.no,.no,.no]) (by simp[cOf,ep]) ?_
 refine run (ρ':=[.sh false (.scr ns),.sh true (.tup [.int n,LL bills]),c2,.sh true (L b),c4,c5,.sh true (z0N n bills),.sh true (L b),.sh true (.lst Y),.no,.no,.no,.no,.no]) (by simp[cOf,nq]) ?_
 refine run (ρ':=[.sh false (.scr ns),.sh true (.tup [.int n,LL bills]),c2,.sh true (L b),c4,c5,.sh true (z0N n bills),.sh true (L b),.sh true (.lst Y),.sh true (.int 0),.no,.no,.no,.no]) (by simp[cOf]) ?_
 refine run (ρ':=[.sh false (.scr ns),.sh true (.tup [.int n,LL bills]),c2,.sh true (L b),c4,c5,.sh true (z0N n bills),.sh true (L b),.sh true (.lst Y),.sh true (.int 0),.sh true (L (z1B n)),.no,.no,.no]) (by
  generalize z0k 1 [] (z0A (fAt (fN 1) (fC (.int 0)))) (Tg.one 0) fYes (fC (.int 0))=F at *
  simp[cOf,zc]) ?_
 refine run (ρ':=[.sh false (.scr ns),.sh true (.tup [.int n,LL bills]),c2,.sh true (L b),c4,c5,.sh true (z0N n bills),.sh true (L b),.sh true (.lst Y),.sh true (.int 0),.sh true (L (z1B n)),.sh true (.int 1),.no,.no]) (by simp[cOf]) ?_
 refine run (ρ':=[.sh false (.scr ns),.sh true (.tup [.int n,LL bills]),c2,.sh true (L b),c4,c5,.sh true (z0N n bills),.sh true (L b),.sh true (.lst Y),c9,.sh true (L B),.sh true (.int (N:Int)),c12,.no]) (by
  have lp:forF (Tg.one 12) PlF Y [.sh false (.scr ns),.sh true (.tup [.int n,LL bills]),c2,.sh true (L b),c4,c5,.sh true (z0N n bills),.sh true (L b),.sh true (.lst Y),.sh true (.int 0),.sh true (L (z1B n)),.sh true (.int 1),.no,.no]=_:=lp
  generalize PlF=F at *
  simp[cOf,lp]) ?_
 refine run (ρ':=[.sh false (.scr ns),.sh true (.tup [.int n,LL bills]),c2,.sh true (L b),c4,c5,.sh true (z0N n bills),.sh true (L b),.sh true (.lst Y),c9,.sh true (L B),.sh true (.int (N:Int)),c12,.sh true (LL S)]) (by simp[cOf,es]) ?_
 simp[cOf,lb,eo,z0q,l1,l2,yq]
def fewS(ns:List Int)(n k:Nat):Int:=if 4<1+(z0g ns (1+(k:Int))).fmod 6∧n=3 then 2 else 1+(z0g ns (1+(k:Int))).fmod 6
def fewT(ns:List Int)(n k:Nat):List Int:=(List.range (n-k-1)).map fun(j:Nat)=>(z0g ns (8+3*(k:Int)+(j:Int))).fmod 7-3
def fewR(ns:List Int)(n k:Nat):List Int:=List.replicate k 0++[fewS ns n k]++fewT ns n k
theorem zg5(ns:List Int)(n k:Nat):0<fewS ns n k∧fewS ns n k≤6:=by
 have a:=Int.fmod_nonneg_of_pos (z0g ns (1+(k:Int))) (show(0:Int)<6 by decide)
 have b:=Int.fmod_lt_of_pos (z0g ns (1+(k:Int))) (show(0:Int)<6 by decide)
 unfold fewS
 split<;>omega
theorem zbL(ns:List Int){n k:Nat}(h:k<n):(fewR ns n k).length=n:=by
 unfold fewR fewT
 rw[List.length_append,List.length_append,List.length_replicate,List.length_map,List.length_range,List.length_singleton];omega
theorem zlv(ns:List Int){n k:Nat}(h:k<n):(∀ i,i<k→St.at0 (fewR ns n k) i=0)∧St.at0 (fewR ns n k) k=fewS ns n k:=by
 have e:(List.replicate k (0:Int)++[fewS ns n k]).length=k+1:=by simp
 refine⟨fun i hi=>?_,?_⟩
 · unfold fewR
   rw[St.z1M e,if_pos (by omega),St.z1M (n:=k) List.length_replicate,if_pos hi]
   unfold St.at0
   simp[List.getD,hi]
 · unfold fewR
   rw[St.z1M e,if_pos (by omega),St.z1M (n:=k) List.length_replicate,if_neg (by omega),Nat.sub_self]
   rfl
theorem zlw(ns:List Int)(n k:Nat):∀ x∈fewR ns n k,x.natAbs<10 ^ 30:=fun x hx=>by
 unfold fewR at hx
 have small:x.natAbs<10→x.natAbs<10 ^ 30:=fun h=>Nat.lt_of_lt_of_le h (by decide)
 rcases List.mem_append.mp hx with hx|hx
 · rcases List.mem_append.mp hx with hx|hx
   · rw[List.eq_of_mem_replicate hx];decide
   · rw[List.mem_singleton.mp hx]
     have:=zg5 ns n k
     exact Nat.lt_of_lt_of_le (show(fewS ns n k).natAbs<10 by omega) (by decide)
 · obtain⟨j,_,rfl⟩:=List.mem_map.mp hx
   have a:=Int.fmod_nonneg_of_pos (z0g ns (8+3*(k:Int)+(j:Int))) (show(0:Int)<7 by decide)
   have b:=Int.fmod_lt_of_pos (z0g ns (8+3*(k:Int)+(j:Int))) (show(0:Int)<7 by decide)
   exact Nat.lt_of_lt_of_le (show((z0g ns (8+3*(k:Int)+(j:Int))).fmod 7-3).natAbs<10 by omega) (by decide)
theorem zg6(ns:List Int)(n:Nat):∀(m k:Nat),k+m=n→St.Tri n k ((List.range' k m).map (fewR ns n))
 | 0,k,h=>by show k=n;omega
 | m+1,k,h=>by
  rw[List.range'_succ,List.map_cons]
  obtain⟨a,b⟩:=zlv ns (n:=n) (k:=k) (by omega)
  refine⟨zbL ns (by omega),a,?_,zg6 ns n m (k+1) (by omega)⟩
  rw[b];exact zg5 ns n k
abbrev FwF:FS:=(sSeq (sSet [] 4 (fOp z0n (fC (.int 1)) (fOp z0Q (z08 true z0f (z02 (fN 0) (z02 (fOp z0n (fC (.int 1)) (fN 3)) fNil))) (fC (.int 6)))))
 (sSeq (sIf (fAnd (z0e (fOp opGt (fN 4) (fC (.int 4)))) (z0e (fOp opEq (fN 1) (fC (.int 3))))) (sSet [] 4 (fC (.int 2))) z0w)
 (sSeq (sSet [] 5 (z0k 1 [0,3] (z0A (fOp z1h (fOp z1h (fN 1) (fN 3)) (fC (.int 1)))) (Tg.one 0) fYes (fOp z1h (fOp z0Q (z08 true z0f (z02 (fN 1) (z02 (fOp z0n (fOp z0n (fC (.int 8)) (fOp z0W (fC (.int 3)) (fN 2))) (fN 0)) fNil))) (fC (.int 7))) (fC (.int 3)))))
 (sWr wApp 2 (fOp z0n (fOp z0n (z0k 1 [] (z0A (fN 3)) (Tg.one 0) fYes (fC (.int 0))) (fLst (z02 (fN 4) fNil))) (fN 5))))))
theorem ziu(ns:List Int){n k:Nat}(hk:k<n)(h3:n≤3)(acc:List (List Int))(ha:acc.length≤10)(c4 c5:Cell):∃ c4' c5',FwF [.sh false (.scr ns),.sh true (.int n),.ow true (acc.map L),.sh false (.int (k:Int)),c4,c5]=some (.nx [.sh false (.scr ns),.sh true (.int n),.ow true ((acc++[fewR ns n k]).map L),.sh false (.int (k:Int)),c4',c5']):=by
 have cc:=z0P ns (1+(k:Int)) (by omega)
 have m6:z1d (z0g ns (1+(k:Int))) 6=true:=z0H (by decide)
 have tl:z0k 1 [0,3] (z0A (fOp z1h (fOp z1h (fN 1) (fN 3)) (fC (.int 1)))) (Tg.one 0) fYes (fOp z1h (fOp z0Q (z08 true z0f (z02 (fN 1) (z02 (fOp z0n (fOp z0n (fC (.int 8)) (fOp z0W (fC (.int 3)) (fN 2))) (fN 0)) fNil))) (fC (.int 7))) (fC (.int 3))) [.sh false (.scr ns),.sh true (.int n),.no,.sh false (.int (k:Int)),.sh true (.int (fewS ns n k)),z2H c5]=some (.nw,L (fewT ns n k)):=by
  have rg:z4P ((n:Int)-(k:Int)-1)=true:=by
    have:=y13 (n-k-1) (by omega)
    rwa [show(((n-k-1:Nat)):Int)=(n:Int)-(k:Int)-1 by omega]at this
  have tn:((n:Int)-(k:Int)-1).toNat=n-k-1:=by omega
  have mk:z15 3 (k:Int)=true:=z0M (by decide)
  rw[z0C (e:=fun(j:Nat) => .int (0+(j:Int))) (h:=fun(j:Nat) => .int ((z0g ns (8+3*(k:Int)+(j:Int))).fmod 7-3)) (xs:=List.range (n-k-1)) (by simp[cOf,rg,tn,z27]) (fun j _=>by
    have c:=z0P ns (8+3*(k:Int)+(j:Int)) (by omega)
    have m:z1d (z0g ns (8+3*(k:Int)+(j:Int))) 7=true:=z0H (by decide)
    generalize z0g ns (8+3*(k:Int)+(j:Int))=X at *
    simp[cOf,mk,c,m])]
  unfold fewT L
  rw[List.map_map]
  rfl
 have zr:=ziq k (by omega) [.sh false (.scr ns),.sh true (.int n),.no,.sh false (.int (k:Int)),.sh true (.int (fewS ns n k)),.sh true (L (fewT ns n k))] (fN 3) .nw (by simp[cOf])
 have k1:=z5y (z1B k) [fewS ns n k] (by rw[z28,List.length_singleton];omega)
 have k1:z0n (.lst ((z1B k).map Dt.int)) (.lst [Dt.int (fewS ns n k)])=some (.nw,L (z1B k++[fewS ns n k])):=k1
 have k2:=z5y (z1B k++[fewS ns n k]) (fewT ns n k) (by
  unfold fewT
  rw[List.length_append,z28,List.length_singleton,List.length_map,List.length_range];omega)
 have e:z1B k++[fewS ns n k]++fewT ns n k=fewR ns n k:=rfl
 rw[e]at k2
 have le:acc.length<1000000:=by omega
 refine⟨.sh true (.int (fewS ns n k)),.sh true (L (fewT ns n k)),?_⟩
 rw[List.map_append]
 unfold FwF
 refine run (ρ':=[.sh false (.scr ns),.sh true (.int n),.ow true (acc.map L),.sh false (.int (k:Int)),.sh true (.int (1+(z0g ns (1+(k:Int))).fmod 6)),c5]) (by simp[cOf,cc,m6]) ?_
 refine run (ρ':=[.sh false (.scr ns),.sh true (.int n),.ow true (acc.map L),.sh false (.int (k:Int)),.sh true (.int (fewS ns n k)),c5]) (by
  unfold fewS
  generalize 1+(z0g ns (1+(k:Int))).fmod 6=X at *
  by_cases h4:4<X
  · by_cases hn:n=3
    · subst hn;simp[cOf,h4,z0q]
    · have hn':¬((n:Int)=3):=by omega
      simp[cOf,h4,z0q,hn,hn']
  · simp[cOf,h4]) ?_
 refine run (ρ':=[.sh false (.scr ns),.sh true (.int n),.ow true (acc.map L),.sh false (.int (k:Int)),.sh true (.int (fewS ns n k)),.sh true (L (fewT ns n k))]) (by
  generalize z0k 1 [0,3] (z0A (fOp z1h (fOp z1h (fN 1) (fN 3)) (fC (.int 1)))) (Tg.one 0) fYes (fOp z1h (fOp z0Q (z08 true z0f (z02 (fN 1) (z02 (fOp z0n (fOp z0n (fC (.int 8)) (fOp z0W (fC (.int 3)) (fN 2))) (fN 0)) fNil))) (fC (.int 7))) (fC (.int 3)))=F at *
  simp[cOf,tl]) ?_
 generalize fewR ns n k=R at *
 generalize fewT ns n k=Tl at *
 generalize fewS ns n k=Sz at *
 generalize z1B k++[Sz]=Z1 at *
 generalize z0k 1 [] (z0A (fN 3)) (Tg.one 0) fYes (fC (.int 0))=F at *
 simp[cOf,zr,k1,k2,wApp,le]
theorem ziv(ns:List Int):∃(n:Nat) (bills:List (List Int)),zap [.scr ns]=some (.tup [.int n,LL bills])∧Hall n bills∧∀ b:List Int,b.length=n→∃ M:Int,0<M∧M≤1000000∧St.Ty bills b M:=by
 have c0:=z0P ns 0 (by decide)
 have c4:=z0P ns 4 (by decide)
 obtain⟨m,hm,em⟩:=zg4 (x:=z0g ns 0) (n:=3) (by decide)
 have em:(z0g ns 0).fmod 3=(m:Int):=em
 have m3:z1d (z0g ns 0) 3=true:=z0H (by decide)
 have m4:z1d (z0g ns 4) 3=true:=z0H (by decide)
 generalize z0g ns 0=x0 at *
 generalize z0g ns 4=x4 at *
 have hn:(1:Int)+(m:Int)=((1+m:Nat):Int):=by omega
 have er:=zbv ns 20 (1+m) 0 (by decide) (by omega) (by decide) (by decide)
 have lr:=z9c ns 20 (1+m) 0
 have br:=zba ns 20 (1+m) 0
 generalize z3V ns 20 (1+m) 0=ro at *
 generalize hn':1+m=n at *
 have n3:n≤3:=by omega
 have n1:1≤n:=by omega
 obtain⟨j,lp⟩:=zcB (g:=Tg.one 3) (F:=FwF) (R:=fun i (c:Cell×Cell×Cell)=>[.sh false (.scr ns),.sh true (.int n),.ow true (((List.range i).map (fewR ns n)).map L),c.1,c.2.1,c.2.2]) n (.no,.no,.no) (fun i c hi=>by
   obtain⟨c4',c5',q⟩:=ziu ns hi n3 ((List.range i).map (fewR ns n)) (by rw[List.length_map,List.length_range];omega) c.2.1 c.2.2
   refine⟨(.sh false (.int i),c4',c5'),?_⟩
   rw[List.range_succ,List.map_append]
   exact q)
 have lp:forF (Tg.one 3) FwF (z35 0 n) [.sh false (.scr ns),.sh true (.int n),.ow true [],.no,.no,.no]=some (.nx [.sh false (.scr ns),.sh true (.int n),.ow true (((List.range n).map (fewR ns n)).map L),j.1,j.2.1,j.2.2]):=lp
 have tri:St.Tri n 0 ((List.range n).map (fewR ns n)):=by
   have:=zg6 ns n n 0 (by omega)
   rwa [←List.range_eq_range']at this
 have rl:((List.range n).map (fewR ns n)).length=n:=by rw[List.length_map,List.length_range]
 obtain⟨d0,d1⟩:=St.zfV tri
 have d2:St.triD 0 ((List.range n).map (fewR ns n))≤1000000:=by
   rw[rl]at d1
   have q:n=1∨n=2∨n=3:=by omega
   rcases q with rfl|rfl|rfl<;>exact Int.le_trans d1 (by decide)
 have wide:∀ r∈(List.range n).map (fewR ns n),r.length=n∧∀ x∈r,x.natAbs<10 ^ 30:=fun r hr=>by
   obtain⟨k,hk,rfl⟩:=List.mem_map.mp hr
   exact⟨zbL ns (List.mem_range.mp hk),zlw ns n k⟩
 have kill:∀(bills:List (List Int)),(∀ r∈(List.range n).map (fewR ns n),r∈bills)→∀ b:List Int,b.length=n→∃ M:Int,0<M∧M≤1000000∧St.Ty bills b M:=fun bills hs b hb =>
   ⟨_,d0,d2,St.zgV (St.zbm tri (v:=fun k=>St.at0 b k) (fun i hi=>by omega) fun i hi=>St.z0I (by rw[hb];exact hi)) hs⟩
 generalize (List.range n).map (fewR ns n)=R at *
 have nn:=y13 n (by omega)
 have start:∀{G:FS} {r:Option Oc},G [.sh false (.scr ns),.sh true (.int n),.ow true (R.map L),j.1,j.2.1,j.2.2]=r→(sSeq (sSet [] 1 (fOp z0n (fC (.int 1)) (fOp z0Q (z08 true z0f (z02 (fN 0) (z02 (fC (.int 0)) fNil))) (fC (.int 3))))) (sSeq (sOwn 2 (fLst fNil)) (sSeq (sFor [] (z0A (fN 1)) (Tg.one 3) FwF) G))) [.sh false (.scr ns),.no,.no,.no,.no,.no]=r:=fun{G r} hG=>by
   refine run (ρ':=[.sh false (.scr ns),.sh true (.int n),.no,.no,.no,.no]) (by simp[cOf,c0,m3,em,hn]) ?_
   refine run (ρ':=[.sh false (.scr ns),.sh true (.int n),.ow true [],.no,.no,.no]) (by simp[cOf]) ?_
   refine run (ρ':=[.sh false (.scr ns),.sh true (.int n),.ow true (R.map L),j.1,j.2.1,j.2.2]) (by
     generalize FwF=F at *
     simp[cOf,nn,lp]) hG
 by_cases h4:x4.fmod 3=1
 · refine⟨n,R++[ro],z1b (f := .fr) rfl (start ?_) rfl,⟨n1,by omega,by rw[List.length_append,rl,List.length_singleton];omega,fun r hr=>?_,fun r hr=>?_⟩,kill _ fun r hr=>List.mem_append_left _ hr⟩
   · have le:R.length<1000000:=by omega
     refine run (ρ':=[.sh false (.scr ns),.sh true (.int n),.ow true ((R++[ro]).map L),j.1,j.2.1,j.2.2]) (by
       rw[List.map_append]
       simp[cOf,c4,m4,z0q,h4,er,wApp,le]) ?_
     generalize R++[ro]=Y at *
     simp[cOf,LL]
   · rcases List.mem_append.mp hr with hr|hr
     · exact(wide r hr).1
     · rw[List.mem_singleton.mp hr];exact lr
   · rcases List.mem_append.mp hr with hr|hr
     · exact(wide r hr).2
     · rw[List.mem_singleton.mp hr];exact br
 · refine⟨n,R,z1b (f := .fr) rfl (start ?_) rfl,⟨n1,by omega,by omega,fun r hr=>(wide r hr).1,fun r hr=>(wide r hr).2⟩,kill R fun r hr=>hr⟩
   refine run (ρ':=[.sh false (.scr ns),.sh true (.int n),.ow true (R.map L),j.1,j.2.1,j.2.2]) (by simp[cOf,c4,m4,z0q,h4]) ?_
   simp[cOf,LL]
theorem hall1{s:Int}(h0:0<s)(h6:s≤1000000):Hall 1 [[s]]∧∀ b:List Int,b.length=1→∃ M:Int,0<M∧M≤1000000∧St.Ty [[s]] b M:=by
 refine⟨⟨by decide,by decide,by simp,fun r hr=>by rw[List.mem_singleton.mp hr];rfl,fun r hr x hx=>?_⟩,fun b hb=>⟨s,h0,h6,?_⟩⟩
 · rw[List.mem_singleton.mp hr]at hx
   rw[List.mem_singleton.mp hx]
   exact Nat.lt_of_le_of_lt (show s.natAbs≤1000000 by omega) (by decide)
 · obtain⟨x,rfl⟩:∃ x,b=[x]:=by
    match b,hb with
    | [x],_=>exact⟨x,rfl⟩
   refine⟨x,fun k=>?_⟩
   show s*St.at0 [x] k-x*St.at0 [s] k=0
   cases k with
   | zero=>show s*x-x*s=0;rw[Int.mul_comm];omega
   | succ k=>rw[St.z0I (by simp),St.z0I (by simp)];simp
theorem ziw(ns:List Int)(h:ns.length≤63):zfZ [.scr ns]=some (.bl true):=by
 obtain⟨n,bills,ef,H,kill⟩:=ziv ns
 have c5:=z0P ns 5 (by decide)
 have c6:=z0P ns 6 (by decide)
 have c7:=z0P ns 7 (by decide)
 have c8:=z0P ns 8 (by decide)
 have c9:=z0P ns 9 (by decide)
 have c40:=z0P ns 40 (by decide)
 obtain⟨w,hw,ew⟩:=zg4 (x:=z0g ns 6) (n:=5) (by decide)
 have ew:(z0g ns 6).fmod 5=(w:Int):=ew
 have m6:z1d (z0g ns 6) 5=true:=z0H (by decide)
 have m5:z1d (z0g ns 5) 2=true:=z0H (by decide)
 have m7:z1d (z0g ns 7) 3000=true:=z0H (by decide)
 have m7':z1d (z0g ns 7) 890=true:=z0H (by decide)
 have m8:z1d (z0g ns 8) 890=true:=z0H (by decide)
 have m8':z1d (z0g ns 8) 4=true:=z0H (by decide)
 have m9:z1d (z0g ns 9) 7=true:=z0H (by decide)
 have m40:z1d (z0g ns 40) 61=true:=z0H (by decide)
 have a1:=Int.fmod_nonneg_of_pos (z0g ns 5) (show(0:Int)<2 by decide)
 have a2:=Int.fmod_lt_of_pos (z0g ns 5) (show(0:Int)<2 by decide)
 have b1:=Int.fmod_nonneg_of_pos (z0g ns 7) (show(0:Int)<3000 by decide)
 have b2:=Int.fmod_lt_of_pos (z0g ns 7) (show(0:Int)<3000 by decide)
 have b3:=Int.fmod_nonneg_of_pos (z0g ns 7) (show(0:Int)<890 by decide)
 have b4:=Int.fmod_lt_of_pos (z0g ns 7) (show(0:Int)<890 by decide)
 have b5:=Int.fmod_nonneg_of_pos (z0g ns 8) (show(0:Int)<890 by decide)
 have b6:=Int.fmod_lt_of_pos (z0g ns 8) (show(0:Int)<890 by decide)
 have b7:=Int.fmod_nonneg_of_pos (z0g ns 8) (show(0:Int)<4 by decide)
 have b8:=Int.fmod_lt_of_pos (z0g ns 8) (show(0:Int)<4 by decide)
 have b9:=Int.fmod_nonneg_of_pos (z0g ns 9) (show(0:Int)<7 by decide)
 have b10:=Int.fmod_lt_of_pos (z0g ns 9) (show(0:Int)<7 by decide)
 have b11:=Int.fmod_nonneg_of_pos (z0g ns 40) (show(0:Int)<61 by decide)
 have b12:=Int.fmod_lt_of_pos (z0g ns 40) (show(0:Int)<61 by decide)
 have er:∀ k:Nat,k≤6→z30 [.scr ns,.int 40,.int k,.int ((z0g ns 5).fmod 2)]=some (L (z3V ns 40 k ((z0g ns 5).fmod 2)))∧(z3V ns 40 k ((z0g ns 5).fmod 2)).length=k∧St.Lt (10 ^ 33) (z3V ns 40 k ((z0g ns 5).fmod 2)):=fun k hk =>
   ⟨zbv ns 40 k ((z0g ns 5).fmod 2) (by decide) (by omega) a1 (by omega),z9c ns 40 k _,St.z6m (by decide) fun x hx=>Nat.lt_trans (zba ns 40 k _ x hx) (by decide)⟩
 generalize z3V ns 40=RO at *
 generalize z0g ns 5=x5 at *
 generalize z0g ns 6=x6 at *
 generalize z0g ns 7=x7 at *
 generalize z0g ns 8=x8 at *
 generalize z0g ns 9=x9 at *
 generalize z0g ns 40=x40 at *
 refine z1b (f := .nw) rfl ?_ rfl
 unfold zij
 refine run (ρ':=[.sh false (.scr ns),.sh true (.tup [.int n,LL bills]),.no,.no,.no,.no,.no,.no,.no,.no,.no,.no,.no,.no]) (by simp[cOf,ef]) ?_
 refine run (ρ':=[.sh false (.scr ns),.sh true (.tup [.int n,LL bills]),.sh true (.int (w:Int)),.no,.no,.no,.no,.no,.no,.no,.no,.no,.no,.no]) (by simp[cOf,c6,m6,ew]) ?_
 have hw':w=0∨w=1∨w=2∨w=3∨w=4:=by omega
 by_cases h1:w=1
 · subst h1
   obtain⟨H1,k1⟩:=hall1 (s:=1+x7.fmod 3000) (by omega) (by omega)
   obtain⟨r1,r2,r3⟩:=er 1 (by decide)
   obtain⟨M,M0,M6,ty⟩:=k1 _ r2
   generalize RO 1 (x5.fmod 2)=b at *
   refine run (ρ':=[.sh false (.scr ns),.sh true (.tup [.int (1:Nat),LL [[1+x7.fmod 3000]]]),.sh true (.int (1:Nat)),.no,.no,.no,.no,.no,.no,.no,.no,.no,.no,.no]) (by simp[cOf,z0q,c7,m7,LL,L]) ?_
   refine run (ρ':=[.sh false (.scr ns),.sh true (.tup [.int (1:Nat),LL [[1+x7.fmod 3000]]]),.sh true (.int (1:Nat)),.no,.no,.no,.no,.no,.no,.no,.no,.no,.no,.no]) (by simp[cOf,z0q]) ?_
   refine run (ρ':=[.sh false (.scr ns),.sh true (.tup [.int (1:Nat),LL [[1+x7.fmod 3000]]]),.sh true (.int (1:Nat)),.sh true (L b),.no,.no,.no,.no,.no,.no,.no,.no,.no,.no]) (by
     have r1:z30 [.scr ns,.int 40,.int 1,.int (x5.fmod 2)]=some (L b):=r1
     generalize LL [[1+x7.fmod 3000]]=Y at *
     simp[cOf,c5,m5,r1]) ?_
   refine run (ρ':=[.sh false (.scr ns),.sh true (.tup [.int (1:Nat),LL [[1+x7.fmod 3000]]]),.sh true (.int (1:Nat)),.sh true (L b),.no,.no,.no,.no,.no,.no,.no,.no,.no,.no]) (by simp[cOf,z0q]) ?_
   exact main H1 r2 r3 M0 M6 ty _ _ _
 by_cases h2:w=2
 · subst h2
   have up:(101+x7.fmod 890)*(101+x8.fmod 890)≤990*990:=Int.mul_le_mul (by omega) (by omega) (by omega) (by decide)
   have lo:0<(101+x7.fmod 890)*(101+x8.fmod 890):=Int.mul_pos (by omega) (by omega)
   have mk:z15 (101+x7.fmod 890) (101+x8.fmod 890)=true:=z0M (Nat.lt_of_le_of_lt (show(101+x7.fmod 890).natAbs≤1000 by omega) (by decide))
   obtain⟨H1,k1⟩:=hall1 lo (by omega)
   obtain⟨r1,r2,r3⟩:=er 1 (by decide)
   obtain⟨M,M0,M6,ty⟩:=k1 _ r2
   generalize RO 1 (x5.fmod 2)=b at *
   generalize hX:(101+x7.fmod 890)*(101+x8.fmod 890)=X at *
   refine run (ρ':=[.sh false (.scr ns),.sh true (.tup [.int n,LL bills]),.sh true (.int (2:Nat)),.no,.no,.no,.no,.no,.no,.no,.no,.no,.no,.no]) (by simp[cOf,z0q]) ?_
   refine run (ρ':=[.sh false (.scr ns),.sh true (.tup [.int (1:Nat),LL [[X]]]),.sh true (.int (2:Nat)),.no,.no,.no,.no,.no,.no,.no,.no,.no,.no,.no]) (by simp[cOf,z0q,c7,m7',c8,m8,mk,hX,LL,L]) ?_
   refine run (ρ':=[.sh false (.scr ns),.sh true (.tup [.int (1:Nat),LL [[X]]]),.sh true (.int (2:Nat)),.sh true (L b),.no,.no,.no,.no,.no,.no,.no,.no,.no,.no]) (by
     have r1:z30 [.scr ns,.int 40,.int 1,.int (x5.fmod 2)]=some (L b):=r1
     generalize LL [[X]]=Y at *
     simp[cOf,c5,m5,r1]) ?_
   refine run (ρ':=[.sh false (.scr ns),.sh true (.tup [.int (1:Nat),LL [[X]]]),.sh true (.int (2:Nat)),.sh true (L b),.no,.no,.no,.no,.no,.no,.no,.no,.no,.no]) (by simp[cOf,z0q]) ?_
   exact main H1 r2 r3 M0 M6 ty _ _ _
 obtain⟨r1,r2,r3⟩:=er n H.n6
 have w1':¬((w:Int)=1):=by omega
 have w2':¬((w:Int)=2):=by omega
 generalize hb0:RO n (x5.fmod 2)=b0 at *
 refine run (ρ':=[.sh false (.scr ns),.sh true (.tup [.int n,LL bills]),.sh true (.int (w:Int)),.no,.no,.no,.no,.no,.no,.no,.no,.no,.no,.no]) (by simp[cOf,z0q,w1',h1]) ?_
 refine run (ρ':=[.sh false (.scr ns),.sh true (.tup [.int n,LL bills]),.sh true (.int (w:Int)),.no,.no,.no,.no,.no,.no,.no,.no,.no,.no,.no]) (by simp[cOf,z0q,w2',h2]) ?_
 refine run (ρ':=[.sh false (.scr ns),.sh true (.tup [.int n,LL bills]),.sh true (.int (w:Int)),.sh true (L b0),.no,.no,.no,.no,.no,.no,.no,.no,.no,.no]) (by simp[cOf,c5,m5,r1]) ?_
 by_cases h3:w=3
 · subst h3
   generalize hA:1+x8.fmod 4=A at *
   generalize hC:x9.fmod 7-3=C at *
   generalize hm:2+x7.fmod 3000=m at *
   generalize ht:x40.fmod 61-30=t at *
   have kA:A.natAbs≤4:=by omega
   have kC:C.natAbs≤3:=by omega
   have km:m.natAbs≤3001:=by omega
   have kt:t.natAbs≤30:=by omega
   have sm:∀ x y:Int,x.natAbs≤3001→z15 x y=true:=fun x y hx=>z0M (Nat.lt_of_le_of_lt hx (by decide))
   have mx:=sm m A km
   have mc:=sm m C km
   have tx:=sm t A (by omega)
   have tc:=sm t C (by omega)
   have bd:∀ x y:Int,x.natAbs≤3001→y.natAbs≤4→(x*y).natAbs<10 ^ 30:=fun x y hx hy=>by
     rw[Int.natAbs_mul]
     exact Nat.lt_of_le_of_lt (Nat.mul_le_mul hx hy) (by decide)
   have H2:Hall 2 [[m*A,m*C]]:=⟨by decide,by decide,by simp,fun r hr=>by rw[List.mem_singleton.mp hr];rfl,fun r hr x hx=>by
     rw[List.mem_singleton.mp hr]at hx
     rcases List.mem_cons.mp hx with rfl|hx
     · exact bd m A km kA
     · rw[List.mem_singleton.mp hx];exact bd m C km (by omega)⟩
   have sb:St.Lt (10 ^ 33) [t*A,t*C]:=St.z6m (by decide) fun x hx=>by
     rcases List.mem_cons.mp hx with rfl|hx
     · exact Nat.lt_trans (bd t A (by omega) kA) (by decide)
     · rw[List.mem_singleton.mp hx];exact Nat.lt_trans (bd t C (by omega) (by omega)) (by decide)
   have ty:St.Ty [[m*A,m*C]] [t*A,t*C] m:=by
     refine⟨t,fun k=>?_⟩
     show m*St.at0 [t*A,t*C] k-t*St.at0 [m*A,m*C] k=0
     match k with
     | 0=>show m*(t*A)-t*(m*A)=0;rw[Int.mul_left_comm];omega
     | 1=>show m*(t*C)-t*(m*C)=0;rw[Int.mul_left_comm];omega
     | k+2=>rw[St.z0I (by simp),St.z0I (by simp)];simp
   have k5:∀ c3' c6' c7' c8':Cell,z0k 1 [5] (iSeq (fN 4)) (Tg.one 0) fYes (fOp z0W (fN 1) (fN 0)) [.sh false (.scr ns),c6',c7',c3',.sh true (L [A,C]),.sh true (.int m),.no,.no,.no,.no,.no,.no,.no,.no]=some (.nw,L [m*A,m*C]):=fun c3' c6' c7' c8'=>by
     rw[z0C (e:=Dt.int) (h:=fun x => .int (m*x)) (xs:=[A,C]) (by simp[cOf,L]) (fun x hx=>by
       have:=sm m x km
       simp[cOf,this])]
     rfl
   have k6:∀ c1' c3':Cell,z0k 1 [0] (iSeq (fN 4)) (Tg.one 0) fYes (fOp z0W (fOp z1h (fOp z0Q (z08 true z0f (z02 (fN 1) (z02 (fC (.int 40)) fNil))) (fC (.int 61))) (fC (.int 30))) (fN 0)) [.sh false (.scr ns),c1',.sh true (.int (3:Nat)),c3',.sh true (L [A,C]),.sh true (.int m),.no,.no,.no,.no,.no,.no,.no,.no]=some (.nw,L [t*A,t*C]):=fun c1' c3'=>by
     rw[z0C (e:=Dt.int) (h:=fun x => .int (t*x)) (xs:=[A,C]) (by simp[cOf,L]) (fun x hx=>by
       have:=sm t x (by omega)
       simp[cOf,c40,m40,ht,this])]
     rfl
   refine run (ρ':=[.sh false (.scr ns),.sh true (.tup [.int (2:Nat),LL [[m*A,m*C]]]),.sh true (.int (3:Nat)),.sh true (L [t*A,t*C]),.sh true (L [A,C]),.sh true (.int m),.no,.no,.no,.no,.no,.no,.no,.no]) ?_ ?_
   · have first:∀{F:FS} {r:Option Oc},F [.sh false (.scr ns),.sh true (.tup [.int n,LL bills]),.sh true (.int (3:Nat)),.sh true (L b0),.no,.no,.no,.no,.no,.no,.no,.no,.no,.no]=r→sIf (z0e (fOp opEq (fN 2) (fC (.int 3)))) F z0w [.sh false (.scr ns),.sh true (.tup [.int n,LL bills]),.sh true (.int (3:Nat)),.sh true (L b0),.no,.no,.no,.no,.no,.no,.no,.no,.no,.no]=r:=fun{F r} hF=>by
       unfold sIf
       rw[show(z0e (fOp opEq (fN 2) (fC (.int 3)))) [.sh false (.scr ns),.sh true (.tup [.int n,LL bills]),.sh true (.int (3:Nat)),.sh true (L b0),.no,.no,.no,.no,.no,.no,.no,.no,.no,.no]=some true by simp[cOf,z0q],z0j,if_pos rfl]
       exact hF
     refine first ?_
     refine run (ρ':=[.sh false (.scr ns),.sh true (.tup [.int n,LL bills]),.sh true (.int (3:Nat)),.sh true (L b0),.sh true (L [A,C]),.no,.no,.no,.no,.no,.no,.no,.no,.no]) (by simp[cOf,c8,m8',c9,m9,hA,hC,L]) ?_
     refine run (ρ':=[.sh false (.scr ns),.sh true (.tup [.int n,LL bills]),.sh true (.int (3:Nat)),.sh true (L b0),.sh true (L [A,C]),.sh true (.int m),.no,.no,.no,.no,.no,.no,.no,.no]) (by simp[cOf,c7,m7,hm]) ?_
     refine run (ρ':=[.sh false (.scr ns),.sh true (.tup [.int (2:Nat),LL [[m*A,m*C]]]),.sh true (.int (3:Nat)),.sh true (L b0),.sh true (L [A,C]),.sh true (.int m),.no,.no,.no,.no,.no,.no,.no,.no]) (by
       have q:=k5 (.sh true (L b0)) (.sh true (.tup [.int n,LL bills])) (.sh true (.int (3:Nat))) .no
       generalize z0k 1 [5] (iSeq (fN 4)) (Tg.one 0) fYes (fOp z0W (fN 1) (fN 0))=F at *
       simp[cOf,q,LL]at q ⊢
       first|done|simp[q]) ?_
     have q:=k6 (.sh true (.tup [.int (2:Nat),LL [[m*A,m*C]]])) (.sh true (L b0))
     generalize z0k 1 [0] (iSeq (fN 4)) (Tg.one 0) fYes (fOp z0W (fOp z1h (fOp z0Q (z08 true z0f (z02 (fN 1) (z02 (fC (.int 40)) fNil))) (fC (.int 61))) (fC (.int 30))) (fN 0))=F at *
     generalize LL [[m*A,m*C]]=Y at *
     generalize L [t*A,t*C]=Y2 at *
     simp[cOf]at q ⊢
     first|done|simp[q]
   · exact main H2 rfl sb (by omega) (by omega) ty _ _ _
 · have w3':¬((w:Int)=3):=by omega
   obtain⟨M,M0,M6,ty⟩:=kill b0 r2
   refine run (ρ':=[.sh false (.scr ns),.sh true (.tup [.int n,LL bills]),.sh true (.int (w:Int)),.sh true (L b0),.no,.no,.no,.no,.no,.no,.no,.no,.no,.no]) (by simp[cOf,z0q,w3',h3]) ?_
   exact main H r2 r3 M0 M6 ty _ _ _
end
def top(i:Nat):Stmt:=PySem.Challenge.pw_changehall_k31_whole_parted.main.body.getD i (.Pass ⟨0,0,0,0⟩)
abbrev z5b:Stmt:=top 6
theorem zbM:FnScope ["value"] ["value"] (z06 z5b):=scm
abbrev z5M:Stmt:=top 7
theorem zh3:FnScope ["value", "length"] ["value", "length"] (z06 z5M):=scm
abbrev z7p:Stmt:=top 8
theorem zix:FnScope ["one", "other"] ["one", "other"] (z06 z7p):=scm
abbrev z7q:Stmt:=top 9
theorem ziy:FnScope ["one", "other"] ["one", "other"] (z06 z7q):=scm
abbrev z5N:Stmt:=top 10
theorem zh4:FnScope ["row", "often"] ["row", "often"] (z06 z5N):=scm
abbrev z6z:Stmt:=top 11
theorem z5c:FnScope ["row", "spot", "number"] ["row"] (z06 z6z):=scm
abbrev z4i:Stmt:=top 15
theorem zaw:FnScope ["value"] ["value"] (z06 z4i):=scm
abbrev z4K:Stmt:=top 16
theorem zcP:FnScope ["value", "kinds"] ["value", "kinds"] (z06 z4K):=scm
abbrev z3L:Stmt:=top 17
theorem z8R:FnScope ["kinds"] ["kinds"] (z06 z3L):=scm
abbrev z4j:Stmt:=top 18
theorem zax:FnScope ["bill", "kinds"] ["bill", "kinds"] (z06 z4j):=scm
abbrev z4L:Stmt:=top 20
theorem zcQ:FnScope ["kinds", "rows"] ["kinds", "rows"] (z06 z4L):=scm
abbrev z6A:Stmt:=top 19
theorem z8k:FnScope ["kinds", "bills", "bill"] ["kinds", "bills"] (z06 z6A):=scm
abbrev z2f:Stmt:=top 21
theorem z5O:FnScope ["kinds", "basket"] ["kinds", "basket"] (z06 z2f):=scm
abbrev z39:Stmt:=top 22
theorem z8l:FnScope ["hall", "basket"] ["hall", "basket"] (z06 z39):=scm
abbrev z4k:Stmt:=top 24
theorem z1V:FnScope ["a", "b", "upper", "lower", "often", "left"] ["a", "b"] (z06 z4k):=scm
abbrev z5d:Stmt:=top 26
theorem z1o:FnScope ["row", "rungs", "left", "counts", "rung", "spot", "often"] ["row", "rungs"] (z06 z5d):=scm
abbrev z6B:Stmt:=top 27
theorem zcR:FnScope ["row", "rungs"] ["row", "rungs"] (z06 z6B):=scm
abbrev z6C:Stmt:=top 28
theorem z2S:FnScope ["rung", "row", "spot", "found", "upper", "lower"] ["rung", "row"] (z06 z6C):=scm
abbrev z4l:Stmt:=top 29
theorem zay:FnScope ["row"] ["row"] (z06 z4l):=scm
abbrev z3M:Stmt:=top 30
theorem z1W:FnScope ["rungs", "row", "found", "left", "places", "pair"] ["rungs", "row"] (z06 z3M):=scm
abbrev z8m:Stmt:=top 31
theorem z6D:FnScope ["rungs", "found", "rung"] ["rungs"] (z06 z8m):=scm
abbrev z6E:Stmt:=top 32
theorem z3N:FnScope ["rows", "rungs", "row"] ["rows"] (z06 z6E):=scm
abbrev z21:Stmt:=top 33
theorem z7d:FnScope ["rows", "tags"] ["rows", "tags"] (z06 z21):=scm
abbrev z1A:Stmt:=top 34
theorem z5P:FnScope ["rungs", "width"] ["rungs", "width"] (z06 z1A):=scm
abbrev zaz:Stmt:=top 35
theorem ziz:FnScope ["hall"] ["hall"] (z06 zaz):=scm
abbrev z7r:Stmt:=top 37
theorem z8n:FnScope ["hall", "basket", "rows", "rounds"] ["hall", "basket"] (z06 z7r):=scm
abbrev z2T:Stmt:=top 40
theorem z0D:FnScope ["number", "found", "left", "prime", "power"] ["number"] (z06 z2T):=scm
abbrev z4m:Stmt:=top 41
theorem z5Q:FnScope ["power", "whole", "others"] ["power", "whole"] (z06 z4m):=scm
abbrev z5R:Stmt:=top 42
theorem z9C:FnScope ["hall", "basket", "whole"] ["hall", "basket"] (z06 z5R):=scm
abbrev z4n:Stmt:=top 44
theorem zaA:FnScope ["_law_script", "_law_k"] ["_law_script", "_law_k"] (z06 z4n):=scm
abbrev z6F:Stmt:=top 45
theorem zcS:FnScope ["_law_found"] ["_law_found"] (z06 z6F):=scm
abbrev z5e:Stmt:=top 46
theorem z6R:FnScope ["_law_found", "_law_size", "_law_number_here"] ["_law_found", "_law_size"] (z06 z5e):=scm
abbrev z5f:Stmt:=top 47
theorem z32:FnScope ["_law_cell", "_law_mode", "_law_number_here", "_law_wide"] ["_law_cell", "_law_mode"] (z06 z5f):=scm
abbrev z7s:Stmt:=top 48
theorem ziA:FnScope ["_law_script", "_law_at", "_law_size", "_law_mode"] ["_law_script", "_law_at", "_law_size", "_law_mode"] (z06 z7s):=scm
abbrev z5S:Stmt:=top 49
theorem zh5:FnScope ["_law_one", "_law_other", "_law_times"] ["_law_one", "_law_other", "_law_times"] (z06 z5S):=scm
abbrev z8o:Stmt:=top 50
theorem z6G:FnScope ["_law_row_here", "_law_k"] ["_law_row_here"] (z06 z8o):=scm
abbrev z8p:Stmt:=top 51
theorem z3j:FnScope ["_law_rows", "_law_row_here", "_law_left_here", "_law_one", "_law_at"] ["_law_rows", "_law_row_here"] (z06 z8p):=scm
abbrev z3O:Stmt:=top 52
theorem zbN:FnScope ["_law_rows"] ["_law_rows"] (z06 z3O):=scm
abbrev z5T:Stmt:=top 53
theorem z2U:FnScope ["_law_script", "_law_kinds", "_law_bills", "_law_k", "_law_size", "_law_tail"] ["_law_script"] (z06 z5T):=scm
abbrev z3P:Stmt:=top 54
theorem z3a:FnScope ["_law_number_here", "_law_k"] ["_law_number_here"] (z06 z3P):=scm
abbrev z3Q:Stmt:=top 55
theorem z4T:FnScope ["_law_number_here", "_law_prime"] ["_law_number_here", "_law_prime"] (z06 z3Q):=scm
abbrev z4o:Stmt:=top 56
theorem z5U:FnScope ["_law_entry", "_law_hall", "_law_last", "_law_many"] ["_law_entry", "_law_hall", "_law_last"] (z06 z4o):=scm
abbrev z9D:Stmt:=top 57
theorem z13:FnScope ["_law_script", "_law_drawn", "_law_way", "_law_basket", "_law_one", "_law_many", "_law_hall", "_law_handed", "_law_found", "_law_last", "_law_both", "_law_due", "_law_entry", "_law_rows"] ["_law_script"] (z06 z9D):=scm
set_option genInjectivity false in
structure Adr where
 z8s:Addr
 z8t:FuncData
 zbV:Addr
 zbW:FuncData
 zg7:Addr
 zg8:FuncData
 zg9:Addr
 zga:FuncData
 zbX:Addr
 zbY:FuncData
 z9I:Addr
 z9J:FuncData
 z6T:Addr
 z6U:FuncData
 z9K:Addr
 z9L:FuncData
 z5Y:Addr
 z5Z:FuncData
 z6V:Addr
 z6W:FuncData
 z9M:Addr
 z9N:FuncData
 z9O:Addr
 z9P:FuncData
 z3k:Addr
 z3l:FuncData
 z4U:Addr
 z4V:FuncData
 zbZ:Addr
 zc0:FuncData
 z8u:Addr
 z8v:FuncData
 z9Q:Addr
 z9R:FuncData
 z9S:Addr
 z9T:FuncData
 z6X:Addr
 z6Y:FuncData
 z8w:Addr
 z8x:FuncData
 zc1:Addr
 zc2:FuncData
 z9U:Addr
 z9V:FuncData
 z4p:Addr
 z4q:FuncData
 z3m:Addr
 z3n:FuncData
 zgb:Addr
 zgc:FuncData
 zgd:Addr
 zge:FuncData
 z4r:Addr
 z4s:FuncData
 z6Z:Addr
 z70:FuncData
 zc3:Addr
 zc4:FuncData
 z71:Addr
 z72:FuncData
 z9W:Addr
 z9X:FuncData
 z8y:Addr
 z8z:FuncData
 z8A:Addr
 z8B:FuncData
 zgf:Addr
 zgg:FuncData
 zc5:Addr
 zc6:FuncData
 zc7:Addr
 zc8:FuncData
 zc9:Addr
 zca:FuncData
 z8C:Addr
 z8D:FuncData
 zgh:Addr
 zgi:FuncData
 z60:Addr
 z61:FuncData
 z62:Addr
 z63:FuncData
 z73:Addr
 z74:FuncData
 a_law:Addr
 zgj:FuncData
 z2v:Tok
 z2w:Tok
 z2x:Tok
structure Facts(K:PySem.W.Frag)(mg:Str→Option Value)(A:Adr):Prop where
 n_abs:mg "abs" = none
 n_all:mg "all" = none
 zkz:mg "bool" = none
 z75:mg "enumerate" = none
 n_int:mg "int" = none
 z0T:mg "isinstance" = none
 z3W:mg "len" = none
 z1E:mg "list" = none
 z3R:mg "range" = none
 zfs:mg "reversed" = none
 zkA:mg "sorted" = none
 z7t:mg "tuple" = none
 zkB:mg "zip" = none
 zaG:mg "MOST_BILLS" = some (.int 8 A.z2v)
 zaH:mg "MOST_KINDS" = some (.int 6 A.z2w)
 zaI:mg "MOST_ORDER" = some (.int 1000000 A.z2x)
 z5i:Df K mg "is_whole" z5b ["value"] A.z8s A.z8t
 z8E:Df K mg "is_row" z5M ["value", "length"] A.zbV A.zbW
 zgk:Df K mg "added" z7p ["one", "other"] A.zg7 A.zg8
 zaJ:Df K mg "taken" z7q ["one", "other"] A.zg9 A.zga
 z2q:Df K mg "scaled" z5N ["row", "often"] A.zbX A.zbY
 z1f:Df K mg "head_at" z6z ["row"] A.z9I A.z9J
 z76:Df K mg "are_kinds" z4i ["value"] A.z6T A.z6U
 z9Y:Df K mg "is_bill" z4K ["value", "kinds"] A.z9K A.z9L
 z64:Df K mg "need_kinds" z3L ["kinds"] A.z5Y A.z5Z
 z77:Df K mg "need_bill" z4j ["bill", "kinds"] A.z6V A.z6W
 z9Z:Df K mg "hall_by" z4L ["kinds", "rows"] A.z9M A.z9N
 za:Df K mg "hall_of" z6A ["kinds", "bills"] A.z9O A.z9P
 z3o:Df K mg "need_basket_of" z2f ["kinds", "basket"] A.z3k A.z3l
 z4W:Df K mg "need_basket" z39 ["hall", "basket"] A.z4U A.z4V
 z8F:Df K mg "bridge" z4k ["a", "b"] A.zbZ A.zc0
 z8G:Df K mg "lowering" z5d ["row", "rungs"] A.z8u A.z8v
 z4M:Df K mg "lowered" z6B ["row", "rungs"] A.z9Q A.z9R
 za0:Df K mg "crossed" z6C ["rung", "row"] A.z9S A.z9T
 z78:Df K mg "turned_up" z4l ["row"] A.z6X A.z6Y
 z8H:Df K mg "with_row" z3M ["rungs", "row"] A.z8w A.z8x
 zcb:Df K mg "evened" z8m ["rungs"] A.zc1 A.zc2
 z6H:Df K mg "climbed" z6E ["rows"] A.z9U A.z9V
 z4t:Df K mg "tagged_stair" z21 ["rows", "tags"] A.z4p A.z4q
 z3p:Df K mg "tags_at_nought" z1A ["rungs", "width"] A.z3m A.z3n
 zgl:Df K mg "stair" zaz ["hall"] A.zgb A.zgc
 z65:Df K mg "order" z7r ["hall", "basket"] A.zgd A.zge
 z4u:Df K mg "prime_powers" z2T ["number"] A.z4r A.z4s
 z79:Df K mg "often_for" z4m ["power", "whole"] A.z6Z A.z70
 zcc:Df K mg "parted" z5R ["hall", "basket"] A.zc3 A.zc4
 z0y:Df K mg "_law_cell_at" z4n ["_law_script", "_law_k"] A.z71 A.z72
 z4N:Df K mg "_law_whole" z6F ["_law_found"] A.z9W A.z9X
 z8I:Df K mg "_law_is_row" z5e ["_law_found", "_law_size"] A.z8y A.z8z
 z8J:Df K mg "_law_number" z5f ["_law_cell", "_law_mode"] A.z8A A.z8B
 zaK:Df K mg "_law_row" z7s ["_law_script", "_law_at", "_law_size", "_law_mode"] A.zgf A.zgg
 z8K:Df K mg "_law_plus" z5S ["_law_one", "_law_other", "_law_times"] A.zc5 A.zc6
 zcd:Df K mg "_law_head" z8o ["_law_row_here"] A.zc7 A.zc8
 z8L:Df K mg "_law_left" z8p ["_law_rows", "_law_row_here"] A.zc9 A.zca
 z8M:Df K mg "_law_copied" z3O ["_law_rows"] A.z8C A.z8D
 zgm:Df K mg "_law_few" z5T ["_law_script"] A.zgh A.zgi
 z66:Df K mg "_law_is_prime" z3P ["_law_number_here"] A.z60 A.z61
 z67:Df K mg "_law_is_power" z3Q ["_law_number_here", "_law_prime"] A.z62 A.z63
 z7a:Df K mg "_law_is_part" z4o ["_law_entry", "_law_hall", "_law_last"] A.z73 A.z74
 f_law:Df K mg "law" z9D ["_law_script"] A.a_law A.zgj
section
variable {K:PySem.W.Frag}{mg:Str→Option Value}{P:Program}{w:World}{base:Heap}{A:Adr}
theorem z6S(T:Facts K mg A):FnOk P w K mg base CX0 1 A.z8s A.z8t ["value"] (spc K true z29) :=
 Fun.dat (k:=0) (F:=z54) T.z5i.fn zbM rfl rfl (fun cdv A outer s H E hr=>have hu:=hr.units
  (z0b (z0s (z7D (z5n (T := "int") rfl rfl T.z0T rfl T.n_int (by decide +kernel) (z01 0)) (z93 (p_not (z5n (T := "bool") rfl rfl T.z0T rfl T.zkz (by decide +kernel) (z01 0))))))))
theorem z9E(T:Facts K mg A):FnOk P w K mg base CX0 2 A.zbV A.zbW ["value", "length"] (spc K true z48) :=
 Fun.dat (k:=1) (F:=z84) T.z8E.fn zh3 rfl rfl (fun cdv A outer s H E hr=>have hu:=hr.units
  (z05 (s_if (PFW.pt (w_or (z3e (z3d (z5n (T := "list") rfl rfl T.z0T rfl T.z1E (by decide +kernel) (z01 0)) (fun _=>rfl))) (z7C (z0L (o_ne hu) (z19 z3T rfl T.z3W (by decide +kernel) (z03 (z01 0) z07)) (z01 1) (z0o _))))) (z0b (z0s p_bl)) z0E)
   (z0b (z0s (z19 (c_all rfl) rfl T.n_all (by decide +kernel) (z03 (z1C (g:=(Tg.one 0)) (z0r (N:=["number"]) (nt:=1) (js:=[]) ["value", "length"] (z06 z5M).names rfl rfl rfl (by decide +kernel)) rfl (z2k (z01 0)) (fun _ _ _ _ _=>z1i (ndp ["number"]) rfl (Or.inl rfl) (Or.inr rfl)) (show 0<1 by decide) (fun _ _ _ _ _=>z1a) (fun _ _ _ _ _=>(z0d (z6S T) T.z5i hr rfl (z03 (z01 0) z07))) (jlt [] 2)) z07))))))
theorem ziB(T:Facts K mg A):FnOk P w K mg base CX0 1 A.zg7 A.zg8 ["one", "other"] (spc K true z7n) :=
 Fun.dat (k:=0) (F:=zal) T.zgk.fn zix rfl rfl (fun cdv A outer s H E hr=>have hu:=hr.units
  (z0b (z0s (z1C (g:=(Tg.many [0,1])) (z0r (N:=["a", "b"]) (nt:=2) (js:=[]) ["one", "other"] (z06 z7p).names rfl rfl rfl (by decide +kernel)) rfl (zhN rfl T.zkB (z01 0) (z01 1)) (fun _ _ _ _ _=>z6a rfl (z1L (z1q (ndp ["a", "b"]) rfl (Or.inl rfl) (Or.inr rfl)) (z1L (z1q (ndp ["a", "b"]) rfl (Or.inl rfl) (Or.inr rfl)) z69))) (jlt [0,1] 2) (fun _ _ _ _ _=>z1a) (fun _ _ _ _ _=>(p_op z1k (z01 0) (z01 1))) (jlt [] 2)))))
theorem zbO(T:Facts K mg A):FnOk P w K mg base CX0 1 A.zg9 A.zga ["one", "other"] (spc K true z4E) :=
 Fun.dat (k:=0) (F:=zam) T.zaJ.fn ziy rfl rfl (fun cdv A outer s H E hr=>have hu:=hr.units
  (z0b (z0s (z1C (g:=(Tg.many [0,1])) (z0r (N:=["a", "b"]) (nt:=2) (js:=[]) ["one", "other"] (z06 z7q).names rfl rfl rfl (by decide +kernel)) rfl (zhN rfl T.zkB (z01 0) (z01 1)) (fun _ _ _ _ _=>z6a rfl (z1L (z1q (ndp ["a", "b"]) rfl (Or.inl rfl) (Or.inr rfl)) (z1L (z1q (ndp ["a", "b"]) rfl (Or.inl rfl) (Or.inr rfl)) z69))) (jlt [0,1] 2) (fun _ _ _ _ _=>z1a) (fun _ _ _ _ _=>(p_op z6I (z01 0) (z01 1))) (jlt [] 2)))))
theorem z2g(T:Facts K mg A):FnOk P w K mg base CX0 1 A.zbX A.zbY ["row", "often"] (spc K true z1e) :=
 Fun.dat (k:=0) (F:=z85) T.z2q.fn zh4 rfl rfl (fun cdv A outer s H E hr=>have hu:=hr.units
  (z0b (z0s (z1C (g:=(Tg.one 0)) (z0r (N:=["number", "often"]) (nt:=1) (js:=[1]) ["row", "often"] (z06 z5N).names rfl rfl rfl (by decide +kernel)) rfl (z2k (z01 0)) (fun _ _ _ _ _=>z1i (ndp ["number", "often"]) rfl (Or.inl rfl) (Or.inr rfl)) (show 0<1 by decide) (fun _ _ _ _ _=>z1a) (fun _ _ _ _ _=>(p_op z3c (z01 1) (z01 0))) (jlt [1] 2)))))
theorem z1p(T:Facts K mg A):FnOk P w K mg base CX0 1 A.z9I A.z9J ["row"] (spc K true z0i) :=
 Fun.dat (k:=0) (F:=z6r) T.z1f.fn z5c rfl rfl (fun cdv A outer s H E hr=>have hu:=hr.units
  (z05 (z5q (rels:=[]) (g:=(Tg.many [1,2])) PassesOwn.never rfl (zhP rfl T.z75 (z01 0)) (z6a rfl (z1L (z1q (i:=1) z5c.nd rfl (Or.inl rfl) (Or.inl rfl)) (z1L (z1q (i:=2) z5c.nd rfl (Or.inl rfl) (Or.inl rfl)) z69))) (z0b (s_if (z0L (o_ne hu) (z01 2) z09 (z0o _)) (z0b (z0s (z01 1))) z0E)))
   (z0b (z0s (z19 z3T rfl T.z3W (by decide +kernel) (z03 (z01 0) z07))))))
theorem zaB(T:Facts K mg A):FnOk P w K mg base CX0 2 A.z6T A.z6U ["value"] (spc K true z2Z) :=
 Fun.dat (k:=1) (F:=z49) T.z76.fn zaw rfl rfl (fun cdv A outer s H E hr=>have hu:=hr.units
  (z0b (z0s (z7D (z0d (z6S T) T.z5i hr rfl (z03 (z01 0) z07)) (z93 (zl2 o_le o_le z09 (z01 0) (zcn rfl T.zaH)))))))
theorem zcT(T:Facts K mg A):FnOk P w K mg base CX0 3 A.z9K A.z9L ["value", "kinds"] (spc K true z4F) :=
 Fun.dat (k:=2) (F:=z6s) T.z9Y.fn zcP rfl rfl (fun cdv A outer s H E hr=>have hu:=hr.units
  (z0b (z0s (z7D (z0d (z9E T) T.z8E hr rfl (z03 (z01 0) (z03 (z01 1) z07))) (z93 (z19 (c_all rfl) rfl T.n_all (by decide +kernel) (z03 (z1C (g:=(Tg.one 0)) (z0r (N:=["number"]) (nt:=1) (js:=[]) ["value", "kinds"] (z06 z4K).names rfl rfl rfl (by decide +kernel)) rfl (z2k (z01 0)) (fun _ _ _ _ _=>z1i (ndp ["number"]) rfl (Or.inl rfl) (Or.inr rfl)) (show 0<1 by decide) (fun _ _ _ _ _=>z1a) (fun _ _ _ _ _=>(zaV o_lt (z19 c_abs rfl T.n_abs (by decide +kernel) (z03 (z01 0) z07)) (p_op zhw z09 z09) (z0o _))) (jlt [] 2)) z07)))))))
theorem z8S(T:Facts K mg A):FnOk P w K mg base CX0 3 A.z5Y A.z5Z ["kinds"] (spc K true z2u) :=
 Fun.dat (k:=2) (F:=z3E) T.z64.fn z8R rfl rfl (fun cdv A outer s H E hr=>have hu:=hr.units
  (z0b (s_if (z3e (z3d (z0d (zaB T) T.z76 hr rfl (z03 (z01 0) z07)) (fun _=>rfl))) (z0b z5p) z0E)))
theorem zaC(T:Facts K mg A):FnOk P w K mg base CX0 4 A.z6V A.z6W ["bill", "kinds"] (spc K true z1T) :=
 Fun.dat (k:=3) (F:=z4a) T.z77.fn zax rfl rfl (fun cdv A outer s H E hr=>have hu:=hr.units
  (z0b (s_if (z3e (z3d (z0d (zcT T) T.z9Y hr rfl (z03 (z01 0) (z03 (z01 1) z07))) (fun _=>rfl))) (z0b z5p) z0E)))
theorem zcU(T:Facts K mg A):FnOk P w K mg base CX0 1 A.z9M A.z9N ["kinds", "rows"] (spc K true z4G) :=
 Fun.dat (k:=0) (F:=z6t) T.z9Z.fn zcQ rfl rfl (fun cdv A outer s H E hr=>have hu:=hr.units
  (z0b (z0s (@z5m _ _ _ _ _ (@z03 _ _ _ _ _ (z01 0) (@z03 _ _ _ _ _ (z0X zhz rfl T.z7t (by decide +kernel) (z03 (z1C (g:=(Tg.one 0)) (z0r (N:=["row"]) (nt:=1) (js:=[]) ["kinds", "rows"] (z06 z4L).names rfl rfl rfl (by decide +kernel)) rfl (z2k (z01 1)) (fun _ _ _ _ _=>z1i (ndp ["row"]) rfl (Or.inl rfl) (Or.inr rfl)) (show 0<1 by decide) (fun _ _ _ _ _=>z1a) (fun _ _ _ _ _=>(z0X zhz rfl T.z7t (by decide +kernel) (z03 (z01 0) z07))) (jlt [] 2)) z07)) z07 rfl) rfl)))))
theorem zcV(T:Facts K mg A):FnOk P w K mg base CX0 5 A.z9O A.z9P ["kinds", "bills"] (spc K true z2A) :=
 Fun.dat (k:=4) (F:=z6u) T.za.fn z8k rfl rfl (fun cdv A outer s H E hr=>have hu:=hr.units
  (z05 (zac (z0d (z8S T) T.z64 hr rfl (z03 (z01 0) z07)))
   (z05 (s_if (PFW.pt (w_or (z3e (z3d (z5n (T := "list") rfl rfl T.z0T rfl T.z1E (by decide +kernel) (z01 1)) (fun _=>rfl))) (z7C (z0L o_gt (z19 z3T rfl T.z3W (by decide +kernel) (z03 (z01 1) z07)) (zcn rfl T.zaG) (z0o _))))) (z0b z5p) z0E)
   (z05 (z5q (rels:=[]) (g:=(Tg.one 2)) PassesOwn.never rfl (z2k (z01 1)) (z1i z8k.nd rfl (Or.inl rfl) (Or.inl rfl)) (z0b (zac (z0d (zaC T) T.z77 hr rfl (z03 (z01 2) (z03 (z01 0) z07))))))
   (z0b (z0s (z0d (zcU T) T.z9Z hr rfl (z03 (z01 0) (z03 (z01 1) z07)))))))))
theorem z5V(T:Facts K mg A):FnOk P w K mg base CX0 3 A.z3k A.z3l ["kinds", "basket"] (spc K true z1y) :=
 Fun.dat (k:=2) (F:=z2a) T.z3o.fn z5O rfl rfl (fun cdv A outer s H E hr=>have hu:=hr.units
  (z0b (s_if (z3e (z3d (z0d (z9E T) T.z8E hr rfl (z03 (z01 1) (z03 (z01 0) z07))) (fun _=>rfl))) (z0b z5p) z0E)))
theorem z8q(T:Facts K mg A):FnOk P w K mg base CX0 4 A.z4U A.z4V ["hall", "basket"] (spc K true z1K) :=
 Fun.dat (k:=3) (F:=z38) T.z4W.fn z8l rfl rfl (fun cdv A outer s H E hr=>have hu:=hr.units
  (z0b (zac (z0d (z5V T) T.z3o hr rfl (z03 (p_ix (z01 0) z09 (fun _ _=>rfl)) (z03 (z01 1) z07))))))
theorem z9F(T:Facts K mg A):FnOk P w K mg base CX0 1 A.zbZ A.zc0 ["a", "b"] (spc K true z5I) :=
 Fun.dat (k:=0) (F:=z86) T.z8F.fn z1V rfl rfl (fun cdv A outer s H E hr=>have hu:=hr.units
  (z05 (z0l (rels:=[]) (z0a (i:=2) (z1H (z03 (z01 0) (z03 z09 (z03 z09 z07)))) z1V.nd rfl (Or.inr rfl) rfl (Or.inl rfl)))
   (z05 (z0l (rels:=[]) (z0a (i:=3) (z1H (z03 (z01 1) (z03 z09 (z03 z09 z07)))) z1V.nd rfl (Or.inr rfl) rfl (Or.inl rfl)))
   (z05 (z3w PassesOwn.never (z0L (o_ne hu) (p_ix (z01 3) z09 (fun _ _=>rfl)) z09 (z0o _)) (z05 (z0l (rels:=[]) (z0a (i:=4) (p_op z34 (p_ix (z01 2) z09 (fun _ _=>rfl)) (p_ix (z01 3) z09 (fun _ _=>rfl))) z1V.nd rfl (Or.inr rfl) rfl (Or.inl rfl)))
   (z05 (z0l (rels:=[]) (z42 (i:=5) (g:=(Tg.one 0)) z1V.nd rfl rfl rfl (z0r (N:=["k", "upper", "often", "lower"]) (nt:=1) (js:=[2,4,3]) ["a", "b", "upper", "lower", "often", "left"] (z06 z4k).names rfl rfl rfl (by decide +kernel)) rfl (z2G rfl T.z3R z09) (fun _ _ _ _ _=>z1i (ndp ["k", "upper", "often", "lower"]) rfl (Or.inl rfl) (Or.inr rfl)) (show 0<1 by decide) (fun _ _ _ _ _=>z1a) (fun _ _ _ _ _=>(p_op z6I (p_ix (z01 1) (z01 0) (fun _ _=>rfl)) (p_op z3c (z01 2) (p_ix (z01 3) (z01 0) (fun _ _=>rfl))))) (jlt [2,4,3] 6)))
   (z05 (z0l (rels:=[]) (z0a (i:=2) (z01 3) z1V.nd rfl (Or.inr rfl) rfl (Or.inl rfl)))
   (z0b (z0l (rels:=[]) (z0a (i:=3) (z01 5) z1V.nd rfl (Or.inr rfl) rfl (Or.inl rfl))))))))
   (z05 (s_if (z0L o_lt (p_ix (z01 2) z09 (fun _ _=>rfl)) z09 (z0o _)) (z0b (z0l (rels:=[]) (z0a (i:=2) (z1C (g:=(Tg.one 0)) (z0r (N:=["number"]) (nt:=1) (js:=[]) ["a", "b", "upper", "lower", "often", "left"] (z06 z4k).names rfl rfl rfl (by decide +kernel)) rfl (z2k (z01 2)) (fun _ _ _ _ _=>z1i (ndp ["number"]) rfl (Or.inl rfl) (Or.inr rfl)) (show 0<1 by decide) (fun _ _ _ _ _=>z1a) (fun _ _ _ _ _=>(zfB (z01 0))) (jlt [] 6)) z1V.nd rfl (Or.inr rfl) rfl (Or.inl rfl)))) z0E)
   (z0b (z0s (z0X zhz rfl T.z7t (by decide +kernel) (z03 (z01 2) z07)))))))))
theorem zbP(T:Facts K mg A):FnOk P w K mg base CX0 2 A.z8u A.z8v ["row", "rungs"] (spc K true z3F) :=
 Fun.dat (k:=1) (F:=z55) T.z8G.fn z1o rfl rfl (fun cdv A outer s H E hr=>have hu:=hr.units
  (z05 (z0l (rels:=[]) (z0a (i:=2) (z0X z3U rfl T.z1E (by decide +kernel) (z03 (z01 0) z07)) z1o.nd rfl (Or.inl rfl) rfl (Or.inl rfl)))
   (z05 (zaX (z0a (i:=3) (z1H z07) z1o.nd rfl (Or.inl rfl) rfl (Or.inl rfl)))
   (z05 (z5q (rels:=[]) (g:=(Tg.one 4)) PassesOwn.never rfl (z2k (z01 1)) (z1i z1o.nd rfl (Or.inl rfl) (Or.inl rfl)) (z05 (z0l (rels:=[]) (z0a (i:=5) (z0d (z1p T) T.z1f hr rfl (z03 (z01 4) z07)) z1o.nd rfl (Or.inl rfl) rfl (Or.inl rfl)))
   (z05 (z0l (rels:=[]) (z0a (i:=6) (p_op z34 (p_ix (z01 2) (z01 5) (fun _ _=>rfl)) (p_ix (z01 4) (z01 5) (fun _ _=>rfl))) z1o.nd rfl (Or.inl rfl) rfl (Or.inl rfl)))
   (z05 (s_if (z0L (o_ne hu) (z01 6) z09 (z0o _)) (z0b (z0l (rels:=[]) (z0a (i:=2) (z0d (zbO T) T.zaJ hr rfl (z03 (z01 2) (z03 (z0d (z2g T) T.z2q hr rfl (z03 (z01 4) (z03 (z01 6) z07))) z07))) z1o.nd rfl (Or.inl rfl) rfl (Or.inl rfl)))) z0E)
   (z0b (zfL (i:=3) zae F.slot_list_append F.type_list_append rfl (Or.inl rfl) (z01 6)))))))
   (z0b (z0s (z5m (z03 (z01 3) (z03 (z01 2) z07)))))))))
theorem z5g(T:Facts K mg A):FnOk P w K mg base CX0 3 A.z9Q A.z9R ["row", "rungs"] (spc K true z0U) :=
 Fun.dat (k:=2) (F:=z6v) T.z4M.fn zcR rfl rfl (fun cdv A outer s H E hr=>have hu:=hr.units
  (z0b (z0s (p_ix (z0d (zbP T) T.z8G hr rfl (z03 (z01 0) (z03 (z01 1) z07))) z09 (fun _ _=>rfl)))))
theorem zcW(T:Facts K mg A):FnOk P w K mg base CX0 2 A.z9S A.z9T ["rung", "row"] (spc K true z2B) :=
 Fun.dat (k:=1) (F:=z6w) T.za0.fn z2S rfl rfl (fun cdv A outer s H E hr=>have hu:=hr.units
  (z05 (z0l (rels:=[]) (z0a (i:=2) (z0d (z1p T) T.z1f hr rfl (z03 (z01 0) z07)) z2S.nd rfl (Or.inl rfl) rfl (Or.inl rfl)))
   (z05 (z0l (rels:=[]) (z0a (i:=3) (z0d (z9F T) T.z8F hr rfl (z03 (p_ix (z01 0) (z01 2) (fun _ _=>rfl)) (z03 (p_ix (z01 1) (z01 2) (fun _ _=>rfl)) z07))) z2S.nd rfl (Or.inl rfl) rfl (Or.inl rfl)))
   (z05 (z0l (rels:=[]) (z0a (i:=4) (z0d (ziB T) T.zgk hr rfl (z03 (z0d (z2g T) T.z2q hr rfl (z03 (z01 0) (z03 (p_ix (z01 3) z09 (fun _ _=>rfl)) z07))) (z03 (z0d (z2g T) T.z2q hr rfl (z03 (z01 1) (z03 (p_ix (z01 3) z09 (fun _ _=>rfl)) z07))) z07))) z2S.nd rfl (Or.inl rfl) rfl (Or.inl rfl)))
   (z05 (z0l (rels:=[]) (z0a (i:=5) (z0d (zbO T) T.zaJ hr rfl (z03 (z0d (z2g T) T.z2q hr rfl (z03 (z01 1) (z03 (p_op z34 (p_ix (z01 0) (z01 2) (fun _ _=>rfl)) (p_ix (z01 3) z09 (fun _ _=>rfl))) z07))) (z03 (z0d (z2g T) T.z2q hr rfl (z03 (z01 0) (z03 (p_op z34 (p_ix (z01 1) (z01 2) (fun _ _=>rfl)) (p_ix (z01 3) z09 (fun _ _=>rfl))) z07))) z07))) z2S.nd rfl (Or.inl rfl) rfl (Or.inl rfl)))
   (z0b (z0s (z5m (z03 (z01 4) (z03 (z01 5) z07))))))))))
theorem zaD(T:Facts K mg A):FnOk P w K mg base CX0 2 A.z6X A.z6Y ["row"] (spc K true z11) :=
 Fun.dat (k:=1) (F:=z4b) T.z78.fn zay rfl rfl (fun cdv A outer s H E hr=>have hu:=hr.units
  (z0b (z0s (p_if (z0L o_lt (p_ix (z01 0) (z0d (z1p T) T.z1f hr rfl (z03 (z01 0) z07)) (fun _ _=>rfl)) z09 (z0o _)) (z0d (z2g T) T.z2q hr rfl (z03 (z01 0) (z03 (zfB z09) z07))) (z0X z3U rfl T.z1E (by decide +kernel) (z03 (z01 0) z07))))))
theorem zbQ(T:Facts K mg A):FnOk P w K mg base CX0 4 A.z8w A.z8x ["rungs", "row"] (spc K false z2b) :=
 Fun.dat (k:=3) (F:=z2M) T.z8H.fn z1W rfl rfl (fun cdv A outer s H E hr=>have hu:=hr.units
  (z05 (zaX (z0a (i:=2) (z0X z3U rfl T.z1E (by decide +kernel) (z03 (z01 0) z07)) z1W.nd rfl (Or.inl rfl) rfl (Or.inl rfl)))
   (z05 (zad (z0a (i:=3) (z0d (z5g T) T.z4M hr rfl (z03 (z01 1) (z03 (z01 2) z07))) z1W.nd rfl (Or.inr rfl) rfl (Or.inl rfl)))
   (z05 (z3w PassesOwn.never (z0L o_lt (z0d (z1p T) T.z1f hr rfl (z03 (z01 3) z07)) (z19 z3T rfl T.z3W (by decide +kernel) (z03 (z01 3) z07)) (z0o _)) (z05 (zad (z42 (i:=4) (g:=(Tg.many [0,1])) z1W.nd rfl rfl rfl (z0r (N:=["place", "rung", "left"]) (nt:=2) (js:=[3]) ["rungs", "row", "found", "left", "places", "pair"] (z06 z3M).names rfl rfl rfl (by decide +kernel)) rfl (zhP rfl T.z75 (z01 2)) (fun _ _ _ _ _=>z6a rfl (z1L (z1q (ndp ["place", "rung", "left"]) rfl (Or.inl rfl) (Or.inr rfl)) (z1L (z1q (ndp ["place", "rung", "left"]) rfl (Or.inl rfl) (Or.inr rfl)) z69))) (jlt [0,1] 2) (fun _ _ _ _ _=>(zhB (z0L (o_eq hu) (z0d (z1p T) T.z1f hr rfl (z03 (z01 1) z07)) (z0d (z1p T) T.z1f hr rfl (z03 (z01 2) z07)) (z0o _)))) (fun _ _ _ _ _=>(z01 0)) (jlt [3] 6)))
   (z05 (s_if (z0L (o_eq hu) (z19 z3T rfl T.z3W (by decide +kernel) (z03 (z01 4) z07)) z09 (z0o _)) (z0b (z0s (zlf (z1p T) (hr.mono (by decide)) rfl T.zkA T.z1f.mg rfl T.z1f.bd (p_op z1k (z01 2) (@z1H _ _ _ _ (@z03 _ _ _ _ _ (z0d (zaD T) T.z78 hr rfl (z03 (z01 3) z07)) z07 rfl)))))) z0E)
   (z05 (zad (z0a (i:=5) (z0d (zcW T) T.za0 hr rfl (z03 (p_ix (z01 2) (p_ix (z01 4) z09 (fun _ _=>rfl)) (fun _ _=>rfl)) (z03 (z01 3) z07))) z1W.nd rfl (Or.inl rfl) rfl (Or.inl rfl)))
   (z05 (s_put (i:=2) rfl (Or.inl rfl) (p_ix (z01 4) z09 (fun _ _=>rfl)) (p_ix (z01 5) z09 (fun _ _=>rfl)))
   (z0b (zad (z0a (i:=3) (z0d (z5g T) T.z4M hr rfl (z03 (p_ix (z01 5) z09 (fun _ _=>rfl)) (z03 (z01 2) z07))) z1W.nd rfl (Or.inr rfl) rfl (Or.inl rfl)))))))))
   (z0b (z0s (z01 2)))))))
theorem zh6(T:Facts K mg A):FnOk P w K mg base CX0 4 A.zc1 A.zc2 ["rungs"] (spc K true z4c) :=
 Fun.dat (k:=3) (F:=z87) T.zcb.fn z6D rfl rfl (fun cdv A outer s H E hr=>have hu:=hr.units
  (z05 (zaX (z0a (i:=1) (z1H z07) z6D.nd rfl (Or.inl rfl) rfl (Or.inl rfl)))
   (z05 (z5q (rels:=[]) (g:=(Tg.one 2)) PassesOwn.never rfl (i_rev rfl T.zfs (z01 0)) (z1i z6D.nd rfl (Or.inl rfl) (Or.inl rfl)) (z0b (s_insA (i:=1) rfl (Or.inl rfl) (z0d (z5g T) T.z4M hr rfl (z03 (z01 2) (z03 (z01 1) z07))))))
   (z0b (z0s (z01 1))))))
theorem z8r(T:Facts K mg A):FnOk P w K mg base CX0 5 A.z9U A.z9V ["rows"] (spc K true z2C) :=
 Fun.dat (k:=4) (F:=z6x) T.z6H.fn z3N rfl rfl (fun cdv A outer s H E hr=>have hu:=hr.units
  (z05 (z0l (rels:=[]) (z0a (i:=1) (z1H z07) z3N.nd rfl (Or.inl rfl) rfl (Or.inl rfl)))
   (z05 (z5q (rels:=[]) (g:=(Tg.one 2)) PassesOwn.never rfl (z2k (z01 0)) (z1i z3N.nd rfl (Or.inl rfl) (Or.inl rfl)) (z0b (z0l (rels:=[]) (z0a (i:=1) (z0d (zh6 T) T.zcb hr rfl (z03 (z0d (zbQ T) T.z8H hr rfl (z03 (z01 1) (z03 (z01 2) z07))) z07)) z3N.nd rfl (Or.inl rfl) rfl (Or.inl rfl)))))
   (z0b (z0s (z01 1))))))
theorem z7e(T:Facts K mg A):FnOk P w K mg base CX0 6 A.z4p A.z4q ["rows", "tags"] (spc K true z1n) :=
 Fun.dat (k:=5) (F:=z2N) T.z4t.fn z7d rfl rfl (fun cdv A outer s H E hr=>have hu:=hr.units
  (z0b (z0s (z0d (z8r T) T.z6H hr rfl (z03 (z1C (g:=(Tg.many [0,1])) (z0r (N:=["row", "tag"]) (nt:=2) (js:=[]) ["rows", "tags"] (z06 z21).names rfl rfl rfl (by decide +kernel)) rfl (zhN rfl T.zkB (z01 0) (z01 1)) (fun _ _ _ _ _=>z6a rfl (z1L (z1q (ndp ["row", "tag"]) rfl (Or.inl rfl) (Or.inr rfl)) (z1L (z1q (ndp ["row", "tag"]) rfl (Or.inl rfl) (Or.inr rfl)) z69))) (jlt [0,1] 2) (fun _ _ _ _ _=>z1a) (fun _ _ _ _ _=>(p_op z1k (z0X z3U rfl T.z1E (by decide +kernel) (z03 (z01 0) z07)) (z0X z3U rfl T.z1E (by decide +kernel) (z03 (z01 1) z07)))) (jlt [] 2)) z07)))))
theorem z5W(T:Facts K mg A):FnOk P w K mg base CX0 2 A.z3m A.z3n ["rungs", "width"] (spc K true z18) :=
 Fun.dat (k:=1) (F:=z2c) T.z3p.fn z5P rfl rfl (fun cdv A outer s H E hr=>have hu:=hr.units
  (z0b (z0s (z1C (g:=(Tg.one 0)) (z0r (N:=["rung", "width"]) (nt:=1) (js:=[1]) ["rungs", "width"] (z06 z1A).names rfl rfl rfl (by decide +kernel)) rfl (z2k (z01 0)) (fun _ _ _ _ _=>z1i (ndp ["rung", "width"]) rfl (Or.inl rfl) (Or.inr rfl)) (show 0<1 by decide) (fun _ _ _ _ _=>(zhB (z0L o_ge (z0d (z1p T) T.z1f hr rfl (z03 (z01 0) z07)) (z01 1) (z0o _)))) (fun _ _ _ _ _=>(zl6 (z01 0) (s_some (z01 1)) s_none)) (jlt [1] 2)))))
theorem ziC(T:Facts K mg A):FnOk P w K mg base CX0 6 A.zgb A.zgc ["hall"] (spc K true z4H) :=
 Fun.dat (k:=5) (F:=zan) T.zgl.fn ziz rfl rfl (fun cdv A outer s H E hr=>have hu:=hr.units
  (z0b (z0s (z0d (z8r T) T.z6H hr rfl (z03 (p_ix (z01 0) z09 (fun _ _=>rfl)) z07)))))
theorem z5X(T:Facts K mg A):FnOk P w K mg base CX0 7 A.zgd A.zge ["hall", "basket"] (spc K true z1N) :=
 Fun.dat (k:=6) (F:=zfX) T.z65.fn z8n rfl rfl (fun cdv A outer s H E hr=>have hu:=hr.units
  (z05 (zac (z0d (z8q T) T.z4W hr rfl (z03 (z01 0) (z03 (z01 1) z07))))
   (z05 (z0l (rels:=[]) (z0a (i:=2) (p_op z1k (z1H (z03 (z01 1) z07)) (z0X z3U rfl T.z1E (by decide +kernel) (z03 (p_ix (z01 0) z09 (fun _ _=>rfl)) z07))) z8n.nd rfl (Or.inl rfl) rfl (Or.inl rfl)))
   (z05 (z0l (rels:=[]) (z0a (i:=3) (z0d (z5W T) T.z3p hr rfl (z03 (z0d (z7e T) T.z4t hr rfl (z03 (z01 2) (z03 (p_op z1k (@z1H _ _ _ _ (@z03 _ _ _ _ _ (z1H (z03 z09 z07)) z07 rfl)) (z1C (g:=(Tg.one 0)) (z0r (N:=["bill"]) (nt:=1) (js:=[]) ["hall", "basket", "rows", "rounds"] (z06 z7r).names rfl rfl rfl (by decide +kernel)) rfl (z2k (p_ix (z01 0) z09 (fun _ _=>rfl))) (fun _ _ _ _ _=>z1i (ndp ["bill"]) rfl (Or.inl rfl) (Or.inr rfl)) (show 0<1 by decide) (fun _ _ _ _ _=>z1a) (fun _ _ _ _ _=>(z1H (z03 z09 z07))) (jlt [] 4))) z07))) (z03 (p_ix (z01 0) z09 (fun _ _=>rfl)) z07))) z8n.nd rfl (Or.inl rfl) rfl (Or.inl rfl)))
   (z0b (z0s (p_if (z0L o_gt (z19 z3T rfl T.z3W (by decide +kernel) (z03 (z01 3) z07)) z09 (z0o _)) (p_ix (p_ix (z01 3) z09 (fun _ _=>rfl)) z09 (fun _ _=>rfl)) p_non)))))))
theorem z7f(T:Facts K mg A):FnOk P w K mg base CX0 1 A.z4r A.z4s ["number"] (spc K true z20) :=
 Fun.dat (k:=0) (F:=z2O) T.z4u.fn z0D rfl rfl (fun cdv A outer s H E hr=>have hu:=hr.units
  (z05 (zaX (z0a (i:=1) (z1H z07) z0D.nd rfl (Or.inl rfl) rfl (Or.inl rfl)))
   (z05 (z0l (rels:=[]) (z0a (i:=2) (z01 0) z0D.nd rfl (Or.inl rfl) rfl (Or.inl rfl)))
   (z05 (z0l (rels:=[]) (z0a (i:=3) z09 z0D.nd rfl (Or.inl rfl) rfl (Or.inl rfl)))
   (z05 (z3w PassesOwn.never (z0L o_gt (z01 2) z09 (z0o _)) (z05 (s_if (z0L o_gt (p_op z3c (z01 3) (z01 3)) (z01 2) (z0o _)) (z0b (z0l (rels:=[]) (z0a (i:=3) (z01 2) z0D.nd rfl (Or.inl rfl) rfl (Or.inl rfl)))) z0E)
   (z05 (z0l (rels:=[]) (z0a (i:=4) z09 z0D.nd rfl (Or.inl rfl) rfl (Or.inl rfl)))
   (z05 (z3w PassesOwn.never (z0L (o_eq hu) (p_op z1G (z01 2) (z01 3)) z09 (z0o _)) (z05 (z0l (rels:=[]) (z0a (i:=4) (p_op z3c (z01 4) (z01 3)) z0D.nd rfl (Or.inl rfl) rfl (Or.inl rfl)))
   (z0b (z0l (rels:=[]) (z0a (i:=2) (p_op z34 (z01 2) (z01 3)) z0D.nd rfl (Or.inl rfl) rfl (Or.inl rfl))))))
   (z05 (s_if (z0L o_gt (z01 4) z09 (z0o _)) (z0b (zfL (i:=1) zae F.slot_list_append F.type_list_append rfl (Or.inl rfl) (z5m (z03 (z01 3) (z03 (z01 4) z07))))) z0E)
   (z0b (z0l (rels:=[]) (z0a (i:=3) (p_op z1k (z01 3) z09) z0D.nd rfl (Or.inl rfl) rfl (Or.inl rfl)))))))))
   (z0b (z0s (z01 1))))))))
theorem zaE(T:Facts K mg A):FnOk P w K mg base CX0 2 A.z6Z A.z70 ["power", "whole"] (spc K true z2o) :=
 Fun.dat (k:=1) (F:=z4d) T.z79.fn z5Q rfl rfl (fun cdv A outer s H E hr=>have hu:=hr.units
  (z05 (z0l (rels:=[]) (z0a (i:=2) (p_op z34 (z01 1) (z01 0)) z5Q.nd rfl (Or.inl rfl) rfl (Or.inl rfl)))
   (z0b (z0s (p_op z1G (p_op z3c (z01 2) (p_ix (z0d (z9F T) T.z8F hr rfl (z03 (z01 2) (z03 (z01 0) z07))) z09 (fun _ _=>rfl))) (z01 1))))))
theorem zh7(T:Facts K mg A):FnOk P w K mg base CX0 8 A.zc3 A.zc4 ["hall", "basket"] (spc K true z4e) :=
 Fun.dat (k:=7) (F:=z88) T.zcc.fn z9C rfl rfl (fun cdv A outer s H E hr=>have hu:=hr.units
  (z05 (z0l (rels:=[]) (z0a (i:=2) (z0d (z5X T) T.z65 hr rfl (z03 (z01 0) (z03 (z01 1) z07))) z9C.nd rfl (Or.inr rfl) rfl (Or.inl rfl)))
   (z05 (s_if (PFW.pt (w_or (z0L o_isN (z01 2) p_non (z0o _)) (z7C (z0L o_gt (z01 2) (zcn rfl T.zaI) (z0o _))))) (z0b z5p) z0E)
   (z0b (z0s (z1C (g:=(Tg.many [0,1])) (z0r (N:=["prime", "power", "basket", "whole"]) (nt:=2) (js:=[1,2]) ["hall", "basket", "whole"] (z06 z5R).names rfl rfl rfl (by decide +kernel)) rfl (z2k (z0d (z7f T) T.z4u hr rfl (z03 (z01 2) z07))) (fun _ _ _ _ _=>z6a rfl (z1L (z1q (ndp ["prime", "power", "basket", "whole"]) rfl (Or.inl rfl) (Or.inr rfl)) (z1L (z1q (ndp ["prime", "power", "basket", "whole"]) rfl (Or.inl rfl) (Or.inr rfl)) z69))) (jlt [0,1] 2) (fun _ _ _ _ _=>z1a) (fun _ _ _ _ _=>(@z5m _ _ _ _ _ (@z03 _ _ _ _ _ (z01 0) (@z03 _ _ _ _ _ (z0d (z2g T) T.z2q hr rfl (z03 (z01 2) (z03 (z0d (zaE T) T.z79 hr rfl (z03 (z01 1) (z03 (z01 3) z07))) z07))) z07 rfl) rfl))) (jlt [1,2] 3)))))))
theorem z0x(T:Facts K mg A):FnOk P w K mg base CX0 1 A.z71 A.z72 ["_law_script", "_law_k"] (spc K true z0f) :=
 Fun.dat (k:=0) (F:=z4f) T.z0y.fn zaA rfl rfl (fun cdv A outer s H E hr=>have hu:=hr.units
  (z05 (s_if (z0L o_lt (z01 1) (z19 z3T rfl T.z3W (by decide +kernel) (z03 (z01 0) z07)) (z0o _)) (z0b (z0s (p_ix (z01 0) (z01 1) (fun _ _=>rfl)))) z0E)
   (z05 (s_if (z0L (o_eq hu) (z01 0) (z1H z07) (z0o _)) (z0b (z0s z09)) z0E)
   (z0b (z0s (p_op z1k (p_op z3c (p_ix (z01 0) (p_op z1G (z01 1) (z19 z3T rfl T.z3W (by decide +kernel) (z03 (z01 0) z07))) (fun _ _=>rfl)) z09) (z01 1)))))))
theorem z5h(T:Facts K mg A):FnOk P w K mg base CX0 1 A.z9W A.z9X ["_law_found"] (spc K true z1U) :=
 Fun.dat (k:=0) (F:=z6y) T.z4N.fn zcS rfl rfl (fun cdv A outer s H E hr=>have hu:=hr.units
  (z0b (z0s (z7D (z5n (T := "int") rfl rfl T.z0T rfl T.n_int (by decide +kernel) (z01 0)) (z93 (p_not (z5n (T := "bool") rfl rfl T.z0T rfl T.zkz (by decide +kernel) (z01 0))))))))
theorem zbR(T:Facts K mg A):FnOk P w K mg base CX0 2 A.z8y A.z8z ["_law_found", "_law_size"] (spc K true z3G) :=
 Fun.dat (k:=1) (F:=z56) T.z8I.fn z6R rfl rfl (fun cdv A outer s H E hr=>have hu:=hr.units
  (z05 (s_if (PFW.pt (w_or (z3e (z3d (z5n (T := "list") rfl rfl T.z0T rfl T.z1E (by decide +kernel) (z01 0)) (fun _=>rfl))) (z7C (z0L (o_ne hu) (z19 z3T rfl T.z3W (by decide +kernel) (z03 (z01 0) z07)) (z01 1) (z0o _))))) (z0b (z0s p_bl)) z0E)
   (z05 (z5q (rels:=[]) (g:=(Tg.one 2)) PassesOwn.never rfl (z2k (z01 0)) (z1i z6R.nd rfl (Or.inl rfl) (Or.inl rfl)) (z0b (s_if (z3e (z3d (z0d (z5h T) T.z4N hr rfl (z03 (z01 2) z07)) (fun _=>rfl))) (z0b (z0s p_bl)) z0E)))
   (z0b (z0s p_bl)))))
theorem zbS(T:Facts K mg A):FnOk P w K mg base CX0 1 A.z8A A.z8B ["_law_cell", "_law_mode"] (spc K true z2d) :=
 Fun.dat (k:=0) (F:=z2P) T.z8J.fn z32 rfl rfl (fun cdv A outer s H E hr=>have hu:=hr.units
  (z05 (s_if (z0L (o_eq hu) (z01 1) z09 (z0o _)) (z05 (z0l (rels:=[]) (z0a (i:=2) (p_op z1G (z01 0) (p_op zhw z09 z09)) z32.nd rfl (Or.inl rfl) rfl (Or.inl rfl)))
   (z05 (s_if (z0L (o_eq hu) (p_op z1G (p_op z34 (z01 0) (p_op zhw z09 z09)) z09) z09 (z0o _)) (z0b (z0s (zfB (z01 2)))) z0E)
   (z0b (z0s (z01 2))))) z0E)
   (z05 (z0l (rels:=[]) (z0a (i:=3) (p_ix (z1H (z03 z09 (z03 z09 z07))) (z01 1) (fun _ _=>rfl)) z32.nd rfl (Or.inl rfl) rfl (Or.inl rfl)))
   (z05 (z0l (rels:=[]) (z0a (i:=2) (p_op z1G (z01 0) (z01 3)) z32.nd rfl (Or.inl rfl) rfl (Or.inl rfl)))
   (z05 (s_if (z0L o_gt (z01 2) (p_op z34 (z01 3) z09) (z0o _)) (z0b (z0s (p_op z6I (z01 2) (z01 3)))) z0E)
   (z0b (z0s (z01 2))))))))
theorem zbT(T:Facts K mg A):FnOk P w K mg base CX0 2 A.zgf A.zgg ["_law_script", "_law_at", "_law_size", "_law_mode"] (spc K true z30) :=
 Fun.dat (k:=1) (F:=zao) T.zaK.fn ziA rfl rfl (fun cdv A outer s H E hr=>have hu:=hr.units
  (z0b (z0s (z1C (g:=(Tg.one 0)) (z0r (N:=["_law_k", "_law_script", "_law_at", "_law_mode"]) (nt:=1) (js:=[0,1,3]) ["_law_script", "_law_at", "_law_size", "_law_mode"] (z06 z7s).names rfl rfl rfl (by decide +kernel)) rfl (z2G rfl T.z3R (z01 2)) (fun _ _ _ _ _=>z1i (ndp ["_law_k", "_law_script", "_law_at", "_law_mode"]) rfl (Or.inl rfl) (Or.inr rfl)) (show 0<1 by decide) (fun _ _ _ _ _=>z1a) (fun _ _ _ _ _=>(z0d (zbS T) T.z8J hr rfl (z03 (z0d (z0x T) T.z0y hr rfl (z03 (z01 1) (z03 (p_op z1k (z01 2) (z01 0)) z07))) (z03 (z01 3) z07)))) (jlt [0,1,3] 4)))))
theorem z9G(T:Facts K mg A):FnOk P w K mg base CX0 1 A.zc5 A.zc6 ["_law_one", "_law_other", "_law_times"] (spc K true z2Q) :=
 Fun.dat (k:=0) (F:=z89) T.z8K.fn zh5 rfl rfl (fun cdv A outer s H E hr=>have hu:=hr.units
  (z0b (z0s (z1C (g:=(Tg.one 0)) (z0r (N:=["_law_k", "_law_one", "_law_times", "_law_other"]) (nt:=1) (js:=[0,2,1]) ["_law_one", "_law_other", "_law_times"] (z06 z5S).names rfl rfl rfl (by decide +kernel)) rfl (z2G rfl T.z3R (z19 z3T rfl T.z3W (by decide +kernel) (z03 (z01 0) z07))) (fun _ _ _ _ _=>z1i (ndp ["_law_k", "_law_one", "_law_times", "_law_other"]) rfl (Or.inl rfl) (Or.inr rfl)) (show 0<1 by decide) (fun _ _ _ _ _=>z1a) (fun _ _ _ _ _=>(p_op z1k (p_ix (z01 1) (z01 0) (fun _ _=>rfl)) (p_op z3c (z01 2) (p_ix (z01 3) (z01 0) (fun _ _=>rfl))))) (jlt [0,2,1] 3)))))
theorem zh8(T:Facts K mg A):FnOk P w K mg base CX0 1 A.zc7 A.zc8 ["_law_row_here"] (spc K true z4g) :=
 Fun.dat (k:=0) (F:=z8a) T.zcd.fn z6G rfl rfl (fun cdv A outer s H E hr=>have hu:=hr.units
  (z05 (z0l (rels:=[]) (z0a (i:=1) z09 z6G.nd rfl (Or.inl rfl) rfl (Or.inl rfl)))
   (z05 (z3w PassesOwn.never (PFW.pt (w_and (z0L o_lt (z01 1) (z19 z3T rfl T.z3W (by decide +kernel) (z03 (z01 0) z07)) (z0o _)) (zhx (z0L (o_eq hu) (p_ix (z01 0) (z01 1) (fun _ _=>rfl)) z09 (z0o _))))) (z0b (z0l (rels:=[]) (z0a (i:=1) (p_op z1k (z01 1) z09) z6G.nd rfl (Or.inl rfl) rfl (Or.inl rfl)))))
   (z0b (z0s (z01 1))))))
theorem z9H(T:Facts K mg A):FnOk P w K mg base CX0 2 A.zc9 A.zca ["_law_rows", "_law_row_here"] (spc K true z2p) :=
 Fun.dat (k:=1) (F:=z8b) T.z8L.fn z3j rfl rfl (fun cdv A outer s H E hr=>have hu:=hr.units
  (z05 (z0l (rels:=[]) (z0a (i:=2) (z0X z3U rfl T.z1E (by decide +kernel) (z03 (z01 1) z07)) z3j.nd rfl (Or.inl rfl) rfl (Or.inl rfl)))
   (z05 (z5q (rels:=[]) (g:=(Tg.one 3)) PassesOwn.never rfl (z2k (z01 0)) (z1i z3j.nd rfl (Or.inl rfl) (Or.inl rfl)) (z05 (z0l (rels:=[]) (z0a (i:=4) (z0d (zh8 T) T.zcd hr rfl (z03 (z01 3) z07)) z3j.nd rfl (Or.inl rfl) rfl (Or.inl rfl)))
   (z0b (z0l (rels:=[]) (z0a (i:=2) (z0d (z9G T) T.z8K hr rfl (z03 (z01 2) (z03 (z01 3) (z03 (zfB (p_op z34 (p_ix (z01 2) (z01 4) (fun _ _=>rfl)) (p_ix (z01 3) (z01 4) (fun _ _=>rfl)))) z07)))) z3j.nd rfl (Or.inl rfl) rfl (Or.inl rfl))))))
   (z0b (z0s (z01 2))))))
theorem zbU(T:Facts K mg A):FnOk P w K mg base CX0 1 A.z8C A.z8D ["_law_rows"] (spc K true z2R) :=
 Fun.dat (k:=0) (F:=z57) T.z8M.fn zbN rfl rfl (fun cdv A outer s H E hr=>have hu:=hr.units
  (z0b (z0s (z1C (g:=(Tg.one 0)) (z0r (N:=["_law_row_here"]) (nt:=1) (js:=[]) ["_law_rows"] (z06 z3O).names rfl rfl rfl (by decide +kernel)) rfl (z2k (z01 0)) (fun _ _ _ _ _=>z1i (ndp ["_law_row_here"]) rfl (Or.inl rfl) (Or.inr rfl)) (show 0<1 by decide) (fun _ _ _ _ _=>z1a) (fun _ _ _ _ _=>(z0X z3U rfl T.z1E (by decide +kernel) (z03 (z01 0) z07))) (jlt [] 1)))))
theorem ziD(T:Facts K mg A):FnOk P w K mg base CX0 3 A.zgh A.zgi ["_law_script"] (spc K true zap) :=
 Fun.dat (k:=2) (F:=zfY) T.zgm.fn z2U rfl rfl (fun cdv A outer s H E hr=>have hu:=hr.units
  (z05 (z0l (rels:=[]) (z0a (i:=1) (p_op z1k z09 (p_op z1G (z0d (z0x T) T.z0y hr rfl (z03 (z01 0) (z03 z09 z07))) z09)) z2U.nd rfl (Or.inl rfl) rfl (Or.inl rfl)))
   (z05 (zaX (z0a (i:=2) (z1H z07) z2U.nd rfl (Or.inl rfl) rfl (Or.inl rfl)))
   (z05 (z5q (rels:=[]) (g:=(Tg.one 3)) PassesOwn.never rfl (z2G rfl T.z3R (z01 1)) (z1i z2U.nd rfl (Or.inr rfl) (Or.inl rfl)) (z05 (z0l (rels:=[]) (z0a (i:=4) (p_op z1k z09 (p_op z1G (z0d (z0x T) T.z0y hr rfl (z03 (z01 0) (z03 (p_op z1k z09 (z01 3)) z07))) z09)) z2U.nd rfl (Or.inl rfl) rfl (Or.inl rfl)))
   (z05 (s_if (PFW.pt (w_and (z0L o_gt (z01 4) z09 (z0o _)) (zhx (z0L (o_eq hu) (z01 1) z09 (z0o _))))) (z0b (z0l (rels:=[]) (z0a (i:=4) z09 z2U.nd rfl (Or.inl rfl) rfl (Or.inl rfl)))) z0E)
   (z05 (z0l (rels:=[]) (z42 (i:=5) (g:=(Tg.one 0)) z2U.nd rfl rfl rfl (z0r (N:=["_law_j", "_law_script", "_law_k"]) (nt:=1) (js:=[0,3]) ["_law_script", "_law_kinds", "_law_bills", "_law_k", "_law_size", "_law_tail"] (z06 z5T).names rfl rfl rfl (by decide +kernel)) rfl (z2G rfl T.z3R (p_op z6I (p_op z6I (z01 1) (z01 3)) z09)) (fun _ _ _ _ _=>z1i (ndp ["_law_j", "_law_script", "_law_k"]) rfl (Or.inl rfl) (Or.inr rfl)) (show 0<1 by decide) (fun _ _ _ _ _=>z1a) (fun _ _ _ _ _=>(p_op z6I (p_op z1G (z0d (z0x T) T.z0y hr rfl (z03 (z01 1) (z03 (p_op z1k (p_op z1k z09 (p_op z3c z09 (z01 2))) (z01 0)) z07))) z09) z09)) (jlt [0,3] 6)))
   (z0b (zfL (i:=2) zae F.slot_list_append F.type_list_append rfl (Or.inl rfl) (p_op z1k (p_op z1k (z1C (g:=(Tg.one 0)) (z0r (N:=["_law_j"]) (nt:=1) (js:=[]) ["_law_script", "_law_kinds", "_law_bills", "_law_k", "_law_size", "_law_tail"] (z06 z5T).names rfl rfl rfl (by decide +kernel)) rfl (z2G rfl T.z3R (z01 3)) (fun _ _ _ _ _=>z1i (ndp ["_law_j"]) rfl (Or.inl rfl) (Or.inr rfl)) (show 0<1 by decide) (fun _ _ _ _ _=>z1a) (fun _ _ _ _ _=>z09) (jlt [] 6)) (z1H (z03 (z01 4) z07))) (z01 5))))))))
   (z05 (s_if (z0L (o_eq hu) (p_op z1G (z0d (z0x T) T.z0y hr rfl (z03 (z01 0) (z03 z09 z07))) z09) z09 (z0o _)) (z0b (zfL (i:=2) zae F.slot_list_append F.type_list_append rfl (Or.inl rfl) (z0d (zbT T) T.zaK hr rfl (z03 (z01 0) (z03 z09 (z03 (z01 1) (z03 z09 z07))))))) z0E)
   (z0b (z0s (z5m (z03 (z01 1) (z03 (z01 2) z07))))))))))
theorem z8T(T:Facts K mg A):FnOk P w K mg base CX0 1 A.z60 A.z61 ["_law_number_here"] (spc K true z3I) :=
 Fun.dat (k:=0) (F:=z3H) T.z66.fn z3a rfl rfl (fun cdv A outer s H E hr=>have hu:=hr.units
  (z05 (s_if (z0L o_lt (z01 0) z09 (z0o _)) (z0b (z0s p_bl)) z0E)
   (z05 (z0l (rels:=[]) (z0a (i:=1) z09 z3a.nd rfl (Or.inl rfl) rfl (Or.inl rfl)))
   (z05 (z3w PassesOwn.never (z0L o_le (p_op z3c (z01 1) (z01 1)) (z01 0) (z0o _)) (z05 (s_if (z0L (o_eq hu) (p_op z1G (z01 0) (z01 1)) z09 (z0o _)) (z0b (z0s p_bl)) z0E)
   (z0b (z0l (rels:=[]) (z0a (i:=1) (p_op z1k (z01 1) z09) z3a.nd rfl (Or.inl rfl) rfl (Or.inl rfl))))))
   (z0b (z0s p_bl))))))
theorem z8U(T:Facts K mg A):FnOk P w K mg base CX0 1 A.z62 A.z63 ["_law_number_here", "_law_prime"] (spc K true z3K) :=
 Fun.dat (k:=0) (F:=z3J) T.z67.fn z4T rfl rfl (fun cdv A outer s H E hr=>have hu:=hr.units
  (z05 (z3w PassesOwn.never (z0L (o_eq hu) (p_op z1G (z01 0) (z01 1)) z09 (z0o _)) (z0b (z0l (rels:=[]) (z0a (i:=0) (p_op z34 (z01 0) (z01 1)) z4T.nd rfl (Or.inl rfl) rfl (Or.inl rfl)))))
   (z0b (z0s (zaV (o_eq hu) (z01 0) z09 (z0o _))))))
theorem zaF(T:Facts K mg A):FnOk P w K mg base CX0 8 A.z73 A.z74 ["_law_entry", "_law_hall", "_law_last"] (spc K true z31) :=
 Fun.dat (k:=7) (F:=z4h) T.z7a.fn z5U rfl rfl (fun cdv A outer s H E hr=>have hu:=hr.units
  (z05 (s_if (PFW.pt (w_or (z3e (z3d (z5n (T := "tuple") rfl rfl T.z0T rfl T.z7t (by decide +kernel) (z01 0)) (fun _=>rfl))) (z7C (z0L (o_ne hu) (z19 z3T rfl T.z3W (by decide +kernel) (z03 (z01 0) z07)) z09 (z0o _))))) (z0b (z0s p_bl)) z0E)
   (z05 (s_if (PFW.pt (w_or (z3e (z3d (z0d (z5h T) T.z4N hr rfl (z03 (p_ix (z01 0) z09 (fun _ _=>rfl)) z07)) (fun _=>rfl))) (w_or (z3e (z3d (z0d (zbR T) T.z8I hr rfl (z03 (p_ix (z01 0) z09 (fun _ _=>rfl)) (z03 (p_ix (z01 1) z09 (fun _ _=>rfl)) z07))) (fun _=>rfl))) (z7C (z0L o_le (p_ix (z01 0) z09 (fun _ _=>rfl)) (z01 2) (z0o _)))))) (z0b (z0s p_bl)) z0E)
   (z05 (s_if (z3e (z3d (z0d (z8T T) T.z66 hr rfl (z03 (p_ix (z01 0) z09 (fun _ _=>rfl)) z07)) (fun _=>rfl))) (z0b (z0s p_bl)) z0E)
   (z05 (z0l (rels:=[]) (z0a (i:=3) (z0d (z5X T) T.z65 hr rfl (z03 (z01 1) (z03 (z0X z3U rfl T.z1E (by decide +kernel) (z03 (p_ix (z01 0) z09 (fun _ _=>rfl)) z07)) z07))) z5U.nd rfl (Or.inl rfl) rfl (Or.inl rfl)))
   (z0b (z0s (z7D (z0d (z5h T) T.z4N hr rfl (z03 (z01 3) z07)) (z7D (zaV o_gt (z01 3) z09 (z0o _)) (z93 (z0d (z8U T) T.z67 hr rfl (z03 (z01 3) (z03 (p_ix (z01 0) z09 (fun _ _=>rfl)) z07)))))))))))))
theorem ok_law(T:Facts K mg A):FnOk P w K mg base CX0 9 A.a_law A.zgj ["_law_script"] (spc K true zfZ) :=
 Fun.dat (k:=8) (F:=zij) T.f_law.fn z13 rfl rfl (fun cdv A outer s H E hr=>have hu:=hr.units
  (z05 (z0l (rels:=[]) (z0a (i:=1) (z0d (ziD T) T.zgm hr rfl (z03 (z01 0) z07)) z13.nd rfl (Or.inl rfl) rfl (Or.inl rfl)))
   (z05 (z0l (rels:=[]) (z0a (i:=2) (p_op z1G (z0d (z0x T) T.z0y hr rfl (z03 (z01 0) (z03 z09 z07))) z09) z13.nd rfl (Or.inl rfl) rfl (Or.inl rfl)))
   (z05 (s_if (z0L (o_eq hu) (z01 2) z09 (z0o _)) (@z0b _ _ _ (@z0l _ _ _ [] 1 (@z0a _ _ _ _ 1 _ _ (@z5m _ _ _ _ _ (@z03 _ _ _ _ _ z09 (@z03 _ _ _ _ _ (@z1H _ _ _ _ (@z03 _ _ _ _ _ (@z1H _ _ _ _ (@z03 _ _ _ _ _ (p_op z1k z09 (p_op z1G (z0d (z0x T) T.z0y hr rfl (z03 (z01 0) (z03 z09 z07))) z09)) z07 rfl)) z07 rfl)) z07 rfl) rfl)) z13.nd rfl (Or.inl rfl) rfl (Or.inl rfl)))) z0E)
   (z05 (s_if (z0L (o_eq hu) (z01 2) z09 (z0o _)) (@z0b _ _ _ (@z0l _ _ _ [] 1 (@z0a _ _ _ _ 1 _ _ (@z5m _ _ _ _ _ (@z03 _ _ _ _ _ z09 (@z03 _ _ _ _ _ (@z1H _ _ _ _ (@z03 _ _ _ _ _ (@z1H _ _ _ _ (@z03 _ _ _ _ _ (p_op z3c (p_op z1k z09 (p_op z1G (z0d (z0x T) T.z0y hr rfl (z03 (z01 0) (z03 z09 z07))) z09)) (p_op z1k z09 (p_op z1G (z0d (z0x T) T.z0y hr rfl (z03 (z01 0) (z03 z09 z07))) z09))) z07 rfl)) z07 rfl)) z07 rfl) rfl)) z13.nd rfl (Or.inl rfl) rfl (Or.inl rfl)))) z0E)
   (z05 (z0l (rels:=[]) (z0a (i:=3) (z0d (zbT T) T.zaK hr rfl (z03 (z01 0) (z03 z09 (z03 (p_ix (z01 1) z09 (fun _ _=>rfl)) (z03 (p_op z1G (z0d (z0x T) T.z0y hr rfl (z03 (z01 0) (z03 z09 z07))) z09) z07))))) z13.nd rfl (Or.inl rfl) rfl (Or.inl rfl)))
   (z05 (s_if (z0L (o_eq hu) (z01 2) z09 (z0o _)) (@z05 _ _ _ _ _ (@z0l _ _ _ [] 4 (@z0a _ _ _ _ 4 _ _ (@z1H _ _ _ _ (@z03 _ _ _ _ _ (p_op z1k z09 (p_op z1G (z0d (z0x T) T.z0y hr rfl (z03 (z01 0) (z03 z09 z07))) z09)) (@z03 _ _ _ _ _ (p_op z6I (p_op z1G (z0d (z0x T) T.z0y hr rfl (z03 (z01 0) (z03 z09 z07))) z09) z09) z07 rfl) rfl)) z13.nd rfl (Or.inl rfl) rfl (Or.inl rfl)))
   (z05 (z0l (rels:=[]) (z0a (i:=5) (p_op z1k z09 (p_op z1G (z0d (z0x T) T.z0y hr rfl (z03 (z01 0) (z03 z09 z07))) z09)) z13.nd rfl (Or.inr rfl) rfl (Or.inl rfl)))
   (@z05 _ _ _ _ _ (@z0l _ _ _ [] 1 (@z0a _ _ _ _ 1 _ _ (@z5m _ _ _ _ _ (@z03 _ _ _ _ _ z09 (@z03 _ _ _ _ _ (@z1H _ _ _ _ (@z03 _ _ _ _ _ (z1C (g:=(Tg.one 0)) (z0r (N:=["_law_number_here", "_law_many"]) (nt:=1) (js:=[5]) ["_law_script", "_law_drawn", "_law_way", "_law_basket", "_law_one", "_law_many", "_law_hall", "_law_handed", "_law_found", "_law_last", "_law_both", "_law_due", "_law_entry", "_law_rows"] (z06 z9D).names rfl rfl rfl (by decide +kernel)) rfl (z2k (z01 4)) (fun _ _ _ _ _=>z1i (ndp ["_law_number_here", "_law_many"]) rfl (Or.inl rfl) (Or.inr rfl)) (show 0<1 by decide) (fun _ _ _ _ _=>z1a) (fun _ _ _ _ _=>(p_op z3c (z01 1) (z01 0))) (jlt [5] 14)) z07 rfl)) z07 rfl) rfl)) z13.nd rfl (Or.inl rfl) rfl (Or.inl rfl)))
   (z0b (z0l (rels:=[]) (z42 (i:=3) (g:=(Tg.one 0)) z13.nd rfl rfl rfl (z0r (N:=["_law_number_here", "_law_script"]) (nt:=1) (js:=[0]) ["_law_script", "_law_drawn", "_law_way", "_law_basket", "_law_one", "_law_many", "_law_hall", "_law_handed", "_law_found", "_law_last", "_law_both", "_law_due", "_law_entry", "_law_rows"] (z06 z9D).names rfl rfl rfl (by decide +kernel)) rfl (z2k (z01 4)) (fun _ _ _ _ _=>z1i (ndp ["_law_number_here", "_law_script"]) rfl (Or.inl rfl) (Or.inr rfl)) (show 0<1 by decide) (fun _ _ _ _ _=>z1a) (fun _ _ _ _ _=>(p_op z3c (p_op z6I (p_op z1G (z0d (z0x T) T.z0y hr rfl (z03 (z01 1) (z03 z09 z07))) z09) z09) (z01 0))) (jlt [0] 14))))))) z0E)
   (z05 (z0l (rels:=[]) (z0a (i:=6) (z0d (zcV T) T.za hr rfl (z03 (p_ix (z01 1) z09 (fun _ _=>rfl)) (z03 (z0d (zbU T) T.z8M hr rfl (z03 (p_ix (z01 1) z09 (fun _ _=>rfl)) z07)) z07))) z13.nd rfl (Or.inl rfl) rfl (Or.inl rfl)))
   (z05 (z0l (rels:=[]) (z0a (i:=7) (z0X z3U rfl T.z1E (by decide +kernel) (z03 (z01 3) z07)) z13.nd rfl (Or.inl rfl) rfl (Or.inl rfl)))
   (z05 (z0l (rels:=[]) (z0a (i:=8) (z0d (zh7 T) T.zcc hr rfl (z03 (z01 6) (z03 (z01 7) z07))) z13.nd rfl (Or.inl rfl) rfl (Or.inl rfl)))
   (z05 (s_if (PFW.pt (w_or (z0L (o_ne hu) (z01 7) (z01 3) (z0o _)) (z7C (z3e (z3d (z5n (T := "list") rfl rfl T.z0T rfl T.z1E (by decide +kernel) (z01 8)) (fun _=>rfl)))))) (z0b (z0s p_bl)) z0E)
   (z05 (z0l (rels:=[]) (z0a (i:=9) z09 z13.nd rfl (Or.inl rfl) rfl (Or.inl rfl)))
   (z05 (z0l (rels:=[]) (z42 (i:=10) (g:=(Tg.one 0)) z13.nd rfl rfl rfl (z0r (N:=["_law_k"]) (nt:=1) (js:=[]) ["_law_script", "_law_drawn", "_law_way", "_law_basket", "_law_one", "_law_many", "_law_hall", "_law_handed", "_law_found", "_law_last", "_law_both", "_law_due", "_law_entry", "_law_rows"] (z06 z9D).names rfl rfl rfl (by decide +kernel)) rfl (z2G rfl T.z3R (p_ix (z01 1) z09 (fun _ _=>rfl))) (fun _ _ _ _ _=>z1i (ndp ["_law_k"]) rfl (Or.inl rfl) (Or.inr rfl)) (show 0<1 by decide) (fun _ _ _ _ _=>z1a) (fun _ _ _ _ _=>z09) (jlt [] 14)))
   (z05 (z0l (rels:=[]) (z0a (i:=11) z09 z13.nd rfl (Or.inl rfl) rfl (Or.inl rfl)))
   (z05 (z5q (rels:=[]) (g:=(Tg.one 12)) PassesOwn.never rfl (z2k (z01 8)) (z1i z13.nd rfl (Or.inl rfl) (Or.inl rfl)) (z05 (s_if (z3e (z3d (z0d (zaF T) T.z7a hr rfl (z03 (z01 12) (z03 (z01 6) (z03 (z01 9) z07)))) (fun _=>rfl))) (z0b (z0s p_bl)) z0E)
   (z05 (z0l (rels:=[]) (z0a (i:=9) (p_ix (z01 12) z09 (fun _ _=>rfl)) z13.nd rfl (Or.inl rfl) rfl (Or.inl rfl)))
   (z05 (z0l (rels:=[]) (z0a (i:=10) (z0d (z9G T) T.z8K hr rfl (z03 (z01 10) (z03 (p_ix (z01 12) z09 (fun _ _=>rfl)) (z03 z09 z07)))) z13.nd rfl (Or.inl rfl) rfl (Or.inl rfl)))
   (z0b (z0l (rels:=[]) (z0a (i:=11) (p_op z3c (z01 11) (z0d (z5X T) T.z65 hr rfl (z03 (z01 6) (z03 (z0X z3U rfl T.z1E (by decide +kernel) (z03 (p_ix (z01 12) z09 (fun _ _=>rfl)) z07)) z07)))) z13.nd rfl (Or.inl rfl) rfl (Or.inl rfl))))))))
   (z05 (z0l (rels:=[]) (z0a (i:=13) (z0d (ziC T) T.zgl hr rfl (z03 (z01 6) z07)) z13.nd rfl (Or.inl rfl) rfl (Or.inl rfl)))
   (z0b (z0s (z7D (zaV (o_eq hu) (z01 11) (z0d (z5X T) T.z65 hr rfl (z03 (z01 6) (z03 (z0X z3U rfl T.z1E (by decide +kernel) (z03 (z01 3) z07)) z07))) (z0o _)) (z93 (zaV (o_eq hu) (z0d (z9H T) T.z8L hr rfl (z03 (z01 13) (z03 (z01 10) z07))) (z0d (z9H T) T.z8L hr rfl (z03 (z01 13) (z03 (z01 3) z07))) (z0o _))))))))))))))))))))))
end
theorem ziE{l:PySem.W.OpenLaw}{w:World}{K:PySem.W.Frag}{h:Heap}{mg:Str→Option Value}{fa:Addr}(X:K.In h)(G:h.Ns mainGlobals mg)(hfa:mg "law" = some (.ref fa))
  {a0:Addr} (h0:Dh K "is_whole" z5b a0)
  {a1:Addr} (h1:Dh K "is_row" z5M a1)
  {a2:Addr} (h2:Dh K "added" z7p a2)
  {a3:Addr} (h3:Dh K "taken" z7q a3)
  {a4:Addr} (h4:Dh K "scaled" z5N a4)
  {a5:Addr} (h5:Dh K "head_at" z6z a5)
  {a6:Addr} (h6:Dh K "are_kinds" z4i a6)
  {a7:Addr} (h7:Dh K "is_bill" z4K a7)
  {a8:Addr} (h8:Dh K "need_kinds" z3L a8)
  {a9:Addr} (h9:Dh K "need_bill" z4j a9)
  {a10:Addr} (h10:Dh K "hall_by" z4L a10)
  {a11:Addr} (h11:Dh K "hall_of" z6A a11)
  {a12:Addr} (h12:Dh K "need_basket_of" z2f a12)
  {a13:Addr} (h13:Dh K "need_basket" z39 a13)
  {a14:Addr} (h14:Dh K "bridge" z4k a14)
  {a15:Addr} (h15:Dh K "lowering" z5d a15)
  {a16:Addr} (h16:Dh K "lowered" z6B a16)
  {a17:Addr} (h17:Dh K "crossed" z6C a17)
  {a18:Addr} (h18:Dh K "turned_up" z4l a18)
  {a19:Addr} (h19:Dh K "with_row" z3M a19)
  {a20:Addr} (h20:Dh K "evened" z8m a20)
  {a21:Addr} (h21:Dh K "climbed" z6E a21)
  {a22:Addr} (h22:Dh K "tagged_stair" z21 a22)
  {a23:Addr} (h23:Dh K "tags_at_nought" z1A a23)
  {a24:Addr} (h24:Dh K "stair" zaz a24)
  {a25:Addr} (h25:Dh K "order" z7r a25)
  {a26:Addr} (h26:Dh K "prime_powers" z2T a26)
  {a27:Addr} (h27:Dh K "often_for" z4m a27)
  {a28:Addr} (h28:Dh K "parted" z5R a28)
  {a29:Addr} (h29:Dh K "_law_cell_at" z4n a29)
  {a30:Addr} (h30:Dh K "_law_whole" z6F a30)
  {a31:Addr} (h31:Dh K "_law_is_row" z5e a31)
  {a32:Addr} (h32:Dh K "_law_number" z5f a32)
  {a33:Addr} (h33:Dh K "_law_row" z7s a33)
  {a34:Addr} (h34:Dh K "_law_plus" z5S a34)
  {a35:Addr} (h35:Dh K "_law_head" z8o a35)
  {a36:Addr} (h36:Dh K "_law_left" z8p a36)
  {a37:Addr} (h37:Dh K "_law_copied" z3O a37)
  {a38:Addr} (h38:Dh K "_law_few" z5T a38)
  {a39:Addr} (h39:Dh K "_law_is_prime" z3P a39)
  {a40:Addr} (h40:Dh K "_law_is_power" z3Q a40)
  {a41:Addr} (h41:Dh K "_law_is_part" z4o a41)
  {a42:Addr} (h42:Dh K "law" z9D a42)
  (z_abs:PySem.W.nsIn K mainGlobals "abs" = some none)
  (z_all:PySem.W.nsIn K mainGlobals "all" = some none)
  (z_bool:PySem.W.nsIn K mainGlobals "bool" = some none)
  (z_enumerate:PySem.W.nsIn K mainGlobals "enumerate" = some none)
  (z_int:PySem.W.nsIn K mainGlobals "int" = some none)
  (z_isinstance:PySem.W.nsIn K mainGlobals "isinstance" = some none)
  (z_len:PySem.W.nsIn K mainGlobals "len" = some none)
  (z_list:PySem.W.nsIn K mainGlobals "list" = some none)
  (z_range:PySem.W.nsIn K mainGlobals "range" = some none)
  (z_reversed:PySem.W.nsIn K mainGlobals "reversed" = some none)
  (z_sorted:PySem.W.nsIn K mainGlobals "sorted" = some none)
  (z_tuple:PySem.W.nsIn K mainGlobals "tuple" = some none)
  (z_zip:PySem.W.nsIn K mainGlobals "zip" = some none)
  {z2v:Tok} (y_MOST_BILLS:PySem.W.nsIn K mainGlobals "MOST_BILLS" = some (some (.int 8 z2v)))
  {z2w:Tok} (y_MOST_KINDS:PySem.W.nsIn K mainGlobals "MOST_KINDS" = some (some (.int 6 z2w)))
  {z2x:Tok} (y_MOST_ORDER:PySem.W.nsIn K mainGlobals "MOST_ORDER" = some (some (.int 1000000 z2x)))
  : ∃ fd:FuncData,(∀(s:Shared) (u:Value),BindsTo s fd ⟨[u],[]⟩ [("_law_script",u)])∧∀ base:Heap,K.In base→base.Ns mainGlobals mg→FnOk l.prog w K mg base CX0 9 fa fd ["_law_script"] (spc K true zfZ):=by
 obtain⟨d0,q0,b0⟩:=h0.df (ps:=["value"]) X G (fun _ _ _ _ _ _=>us1 (fun _=>rfl))
 obtain⟨d1,q1,b1⟩:=h1.df (ps:=["value", "length"]) X G (fun _ _ _ _ _ _=>us2 (fun _ _=>rfl))
 obtain⟨d2,q2,b2⟩:=h2.df (ps:=["one", "other"]) X G (fun _ _ _ _ _ _=>us2 (fun _ _=>rfl))
 obtain⟨d3,q3,b3⟩:=h3.df (ps:=["one", "other"]) X G (fun _ _ _ _ _ _=>us2 (fun _ _=>rfl))
 obtain⟨d4,q4,b4⟩:=h4.df (ps:=["row", "often"]) X G (fun _ _ _ _ _ _=>us2 (fun _ _=>rfl))
 obtain⟨d5,q5,b5⟩:=h5.df (ps:=["row"]) X G (fun _ _ _ _ _ _=>us1 (fun _=>rfl))
 obtain⟨d6,q6,b6⟩:=h6.df (ps:=["value"]) X G (fun _ _ _ _ _ _=>us1 (fun _=>rfl))
 obtain⟨d7,q7,b7⟩:=h7.df (ps:=["value", "kinds"]) X G (fun _ _ _ _ _ _=>us2 (fun _ _=>rfl))
 obtain⟨d8,q8,b8⟩:=h8.df (ps:=["kinds"]) X G (fun _ _ _ _ _ _=>us1 (fun _=>rfl))
 obtain⟨d9,q9,b9⟩:=h9.df (ps:=["bill", "kinds"]) X G (fun _ _ _ _ _ _=>us2 (fun _ _=>rfl))
 obtain⟨d10,q10,b10⟩:=h10.df (ps:=["kinds", "rows"]) X G (fun _ _ _ _ _ _=>us2 (fun _ _=>rfl))
 obtain⟨d11,q11,b11⟩:=h11.df (ps:=["kinds", "bills"]) X G (fun _ _ _ _ _ _=>us2 (fun _ _=>rfl))
 obtain⟨d12,q12,b12⟩:=h12.df (ps:=["kinds", "basket"]) X G (fun _ _ _ _ _ _=>us2 (fun _ _=>rfl))
 obtain⟨d13,q13,b13⟩:=h13.df (ps:=["hall", "basket"]) X G (fun _ _ _ _ _ _=>us2 (fun _ _=>rfl))
 obtain⟨d14,q14,b14⟩:=h14.df (ps:=["a", "b"]) X G (fun _ _ _ _ _ _=>us2 (fun _ _=>rfl))
 obtain⟨d15,q15,b15⟩:=h15.df (ps:=["row", "rungs"]) X G (fun _ _ _ _ _ _=>us2 (fun _ _=>rfl))
 obtain⟨d16,q16,b16⟩:=h16.df (ps:=["row", "rungs"]) X G (fun _ _ _ _ _ _=>us2 (fun _ _=>rfl))
 obtain⟨d17,q17,b17⟩:=h17.df (ps:=["rung", "row"]) X G (fun _ _ _ _ _ _=>us2 (fun _ _=>rfl))
 obtain⟨d18,q18,b18⟩:=h18.df (ps:=["row"]) X G (fun _ _ _ _ _ _=>us1 (fun _=>rfl))
 obtain⟨d19,q19,b19⟩:=h19.df (ps:=["rungs", "row"]) X G (fun _ _ _ _ _ _=>us2 (fun _ _=>rfl))
 obtain⟨d20,q20,b20⟩:=h20.df (ps:=["rungs"]) X G (fun _ _ _ _ _ _=>us1 (fun _=>rfl))
 obtain⟨d21,q21,b21⟩:=h21.df (ps:=["rows"]) X G (fun _ _ _ _ _ _=>us1 (fun _=>rfl))
 obtain⟨d22,q22,b22⟩:=h22.df (ps:=["rows", "tags"]) X G (fun _ _ _ _ _ _=>us2 (fun _ _=>rfl))
 obtain⟨d23,q23,b23⟩:=h23.df (ps:=["rungs", "width"]) X G (fun _ _ _ _ _ _=>us2 (fun _ _=>rfl))
 obtain⟨d24,q24,b24⟩:=h24.df (ps:=["hall"]) X G (fun _ _ _ _ _ _=>us1 (fun _=>rfl))
 obtain⟨d25,q25,b25⟩:=h25.df (ps:=["hall", "basket"]) X G (fun _ _ _ _ _ _=>us2 (fun _ _=>rfl))
 obtain⟨d26,q26,b26⟩:=h26.df (ps:=["number"]) X G (fun _ _ _ _ _ _=>us1 (fun _=>rfl))
 obtain⟨d27,q27,b27⟩:=h27.df (ps:=["power", "whole"]) X G (fun _ _ _ _ _ _=>us2 (fun _ _=>rfl))
 obtain⟨d28,q28,b28⟩:=h28.df (ps:=["hall", "basket"]) X G (fun _ _ _ _ _ _=>us2 (fun _ _=>rfl))
 obtain⟨d29,q29,b29⟩:=h29.df (ps:=["_law_script", "_law_k"]) X G (fun _ _ _ _ _ _=>us2 (fun _ _=>rfl))
 obtain⟨d30,q30,b30⟩:=h30.df (ps:=["_law_found"]) X G (fun _ _ _ _ _ _=>us1 (fun _=>rfl))
 obtain⟨d31,q31,b31⟩:=h31.df (ps:=["_law_found", "_law_size"]) X G (fun _ _ _ _ _ _=>us2 (fun _ _=>rfl))
 obtain⟨d32,q32,b32⟩:=h32.df (ps:=["_law_cell", "_law_mode"]) X G (fun _ _ _ _ _ _=>us2 (fun _ _=>rfl))
 obtain⟨d33,q33,b33⟩:=h33.df (ps:=["_law_script", "_law_at", "_law_size", "_law_mode"]) X G (fun _ _ _ _ _ _=>us4 (fun _ _ _ _=>rfl))
 obtain⟨d34,q34,b34⟩:=h34.df (ps:=["_law_one", "_law_other", "_law_times"]) X G (fun _ _ _ _ _ _=>us3 (fun _ _ _=>rfl))
 obtain⟨d35,q35,b35⟩:=h35.df (ps:=["_law_row_here"]) X G (fun _ _ _ _ _ _=>us1 (fun _=>rfl))
 obtain⟨d36,q36,b36⟩:=h36.df (ps:=["_law_rows", "_law_row_here"]) X G (fun _ _ _ _ _ _=>us2 (fun _ _=>rfl))
 obtain⟨d37,q37,b37⟩:=h37.df (ps:=["_law_rows"]) X G (fun _ _ _ _ _ _=>us1 (fun _=>rfl))
 obtain⟨d38,q38,b38⟩:=h38.df (ps:=["_law_script"]) X G (fun _ _ _ _ _ _=>us1 (fun _=>rfl))
 obtain⟨d39,q39,b39⟩:=h39.df (ps:=["_law_number_here"]) X G (fun _ _ _ _ _ _=>us1 (fun _=>rfl))
 obtain⟨d40,q40,b40⟩:=h40.df (ps:=["_law_number_here", "_law_prime"]) X G (fun _ _ _ _ _ _=>us2 (fun _ _=>rfl))
 obtain⟨d41,q41,b41⟩:=h41.df (ps:=["_law_entry", "_law_hall", "_law_last"]) X G (fun _ _ _ _ _ _=>us3 (fun _ _ _=>rfl))
 obtain⟨d42,q42,b42⟩:=h42.df (ps:=["_law_script"]) X G (fun _ _ _ _ _ _=>us1 (fun _=>rfl))
 have key:∃ A:Adr,Facts K mg A∧∀(s:Shared) (u:Value),BindsTo s A.zgj ⟨[u],[]⟩ [("_law_script",u)]:=⟨⟨a0,d0,a1,d1,a2,d2,a3,d3,a4,d4,a5,d5,a6,d6,a7,d7,a8,d8,a9,d9,a10,d10,a11,d11,a12,d12,a13,d13,a14,d14,a15,d15,a16,d16,a17,d17,a18,d18,a19,d19,a20,d20,a21,d21,a22,d22,a23,d23,a24,d24,a25,d25,a26,d26,a27,d27,a28,d28,a29,d29,a30,d30,a31,d31,a32,d32,a33,d33,a34,d34,a35,d35,a36,d36,a37,d37,a38,d38,a39,d39,a40,d40,a41,d41,a42,d42,z2v,z2w,z2x⟩,⟨PySem.W.mg_none_of X G z_abs,PySem.W.mg_none_of X G z_all,PySem.W.mg_none_of X G z_bool,PySem.W.mg_none_of X G z_enumerate,PySem.W.mg_none_of X G z_int,PySem.W.mg_none_of X G z_isinstance,PySem.W.mg_none_of X G z_len,PySem.W.mg_none_of X G z_list,PySem.W.mg_none_of X G z_range,PySem.W.mg_none_of X G z_reversed,PySem.W.mg_none_of X G z_sorted,PySem.W.mg_none_of X G z_tuple,PySem.W.mg_none_of X G z_zip,PySem.W.mg_of X G y_MOST_BILLS,PySem.W.mg_of X G y_MOST_KINDS,PySem.W.mg_of X G y_MOST_ORDER,q0,q1,q2,q3,q4,q5,q6,q7,q8,q9,q10,q11,q12,q13,q14,q15,q16,q17,q18,q19,q20,q21,q22,q23,q24,q25,q26,q27,q28,q29,q30,q31,q32,q33,q34,q35,q36,q37,q38,q39,q40,q41,q42⟩,fun s u => .of_eq (b42 [u] rfl)⟩
 obtain⟨A,FF,hb⟩:=key
 have e:=hfa.symm.trans FF.f_law.mg
 cases e
 exact⟨A.zgj,hb,fun base _ _=>ok_law FF⟩
namespace H
noncomputable section
open PySem PySem.W PySem.Calls PyProof.Rows
abbrev pw:Program:=PySem.Challenge.pw_changehall_k31_whole_parted
abbrev vs(s:String)(t:Nat):Value := .str (Str.ofString s) t
abbrev de(P:Params)(s:String)(t:Nat)(v:Value):DictEntry:=⟨PyData.keyHash P (Str.ofString s),.str (Str.ofString s) t,v⟩
abbrev N:=BT.node
abbrev E:=BT.nil
abbrev ins(t:BT)(l:List (Nat×Obj)):BT:=l.foldl (fun t x=>t.ins x.1 x.2) t
def fdT(s:Stmt)(g:Addr)(md cd:Value):FuncData:=match s with
 | .FunctionDef name args body _ _ _ scope _ _ _=>{ name:=name,qualname:=name,params:=args,body := .stmts body,scope:=scope,globals:=g,closure:=[],defaults := .none,kwdefaults := .none,pyModule:=md,code:=cd }
 | _=>default
abbrev tu(l:List Value):Obj:=⟨.type "tuple",none,.seq l.toArray 0,#[]⟩
abbrev fi(l:List Value):Obj:=⟨.none,none,.fields l.toArray,#[]⟩
abbrev fo(c:Value)(i:Nat)(g:Addr)(md cd:Value):Obj:=⟨c,none,.func (fdT (top i) g md cd),#[]⟩
abbrev co(a f:String)(t0 t1 t2:Nat)(l n z:Int)(r:Addr)(u:Bool)(v:Int)(s:Addr)(p q1 q2 q3:Value)(w:Int)(t3:Nat):Obj:=⟨.type "code",none,.fields #[vs a t0,vs a t1,vs f t2,.int l 0,.int n 0,.int 0 0,.int 0 0,.int z 0,.ref r,.bool u,.int v 0,.ref s,p,q1,q2,q3,.int w 0,.int l 0,vs f t3],#[]⟩
theorem te_go:@topGo=Fast.tw15667345088766844465:=Fast.te15667345088766844465
theorem te_sr:@segRun=Fast.tw14374325043358763698:=Fast.te14374325043358763698
theorem te_sT:@segRunT=Fast.tw10110043849684766642:=Fast.te10110043849684766642
theorem te_tr:@topRun=Fast.tw14082659384304107361:=Fast.te14082659384304107361
theorem te_tb:treeTable=Fast.tw14364793385576792824:=Fast.te14364793385576792824
theorem te_im:@importedModules=Fast.tw5923862056798008813:=Fast.te5923862056798008813
theorem te_seen:@seen=Fast.tw5160383126252970620:=Fast.te5160383126252970620
theorem te_recs:@recsOf=Fast.tw3399658132070893891:=Fast.te3399658132070893891
theorem te_owns:@ownsOf=Fast.tw5991557255702980513:=Fast.te5991557255702980513
theorem te_keys:@Heap.keysOk=Fast.tw10880121769531294198:=Fast.te10880121769531294198
theorem te_loose:@looseW=Fast.tw821141287760084731:=Fast.te821141287760084731
theorem te_lits:@litsOf=Fast.tw7409074990110511671:=Fast.te7409074990110511671
theorem te_clss:@clssOf=Fast.tw13664370479719496447:=Fast.te13664370479719496447
theorem te_acc:@Heap.accountedOkI=Fast.tw14722251495701143533:=Fast.te14722251495701143533
theorem te_tabl:@tablesOk=Fast.tw10994771534591457954:=Fast.te10994771534591457954
theorem te_tabs:@tabsOk=Fast.tw479339242167458305:=Fast.te479339242167458305
theorem te_pin:@pinSeenD=Fast.tw16090120013241838585:=Fast.te16090120013241838585
theorem te_drecs:@drecsOf=Fast.tw3247288618530077131:=Fast.te3247288618530077131
theorem te_pE:@plainSeenE=Fast.tw2386780881361962483:=Fast.te2386780881361962483
theorem te_pD:@plainSeenD=Fast.tw11698064438423848299:=Fast.te11698064438423848299
theorem te_wide:@wideSeen=Fast.tw7317090234206586261:=Fast.te7317090234206586261
theorem te_cls:@clsSeenW=Fast.tw7369524293546568484:=Fast.te7369524293546568484
theorem te_den:@denote=Fast.tw11892475500146522536:=Fast.te11892475500146522536
theorem te_ns:@Heap.nsMap=Fast.tw8920871248978507458:=Fast.te8920871248978507458
abbrev env:Env:={ scope:=pw.main.scope,locals:=mainNs,globals:=mainNs,cells:=[],code := .ref 13,frame:=some 14 }
abbrev cE:Code := .body (behindTheImports pw) env
abbrev fB:List Frame:=[topFrame ⟨0,0,0,0⟩]
abbrev ann:Option Value:=some (.ref 6)
abbrev o11a:=tu []
abbrev o12aL:List Value:=[]
abbrev o12a:=fi o12aL
abbrev o13a:=co "<module>" "/claim/cut.py" 182 183 184 1 0 0 11 false 181 12 .none .none .none .none 185 186
abbrev o14a:Obj:=⟨.type "frame",none,.plain,#[Option.some (PySem.Value.ref 13),Option.some (PySem.Value.ref 3),Option.some (PySem.Value.ref 3),Option.none,Option.some (PySem.Value.str (PySem.Str.ofString "__main__") 164),Option.none,Option.some (PySem.Value.ref 0)]⟩
abbrev ha(P:Params):Heap:=⟨⟨[boot_o_0 P,boot_o_1 P,boot_o_2 P,boot_o_3 P,boot_o_4 P,boot_o_5 P,boot_o_6 P,boot_o_7 P,boot_o_8 P,boot_o_9 P,boot_o_10 P,o11a,o12a,o13a,o14a]⟩,{ }⟩
theorem run_a(w:World)(os:OsState):topGo treeTable pw w 11 ann 12 ⟨boot_heap w.params,#[],boot_drawn,boot_toks,os⟩ (topStub pw)=some (⟨ha w.params,#[],{ },187,os⟩,⟨denote treeTable cE,cE,⟨0,0,0,0⟩,fB⟩):=by
 rewrite[te_go,te_den,te_tb];kernel_rfl
abbrev t0(P:Params):BT:=(N (boot_o_0 P) (N (boot_o_1 P) (N (boot_o_3 P) (N (boot_o_7 P) E E) (N (o11a) E E)) (N (boot_o_5 P) (N (boot_o_9 P) E E) (N (o13a) E E))) (N (boot_o_2 P) (N (boot_o_4 P) (N (boot_o_8 P) E E) (N (o12a) E E)) (N (boot_o_6 P) (N (boot_o_10 P) E E) (N (o14a) E E))))
abbrev s0(w:World)(os:OsState):SharedT:=⟨t0 w.params,15,{ },#[],{ },187,os⟩
theorem run_b(w:World)(os:OsState):segRun treeTable pw w 11 ann 1 1 ⟨ha w.params,#[],{ },187,os⟩ (blockOf (behindTheImports pw) env cE ⟨0,0,0,0⟩ fB)=some (.next,(s0 w os).abs,cE,⟨0,0,0,0⟩):=by
 rewrite[te_sr,te_tb];kernel_rfl
abbrev o3_1L(P:Params):List DictEntry:=[de P "__name__" 165 (vs "changehall.errors" 187),de P "__doc__" 166 .none,de P "__package__" 167 .none,de P "__loader__" 168 (.builtin "__main__.__loader__#opaque"),de P "__spec__" 169 .none,de P "__annotations__" 170 (.ref 6),de P "__builtins__" 171 (.ref 4),de P "__file__" 173 (vs "/claim/cut.py" 172),de P "__cached__" 174 .none,de P "HallError" 206 (.ref 24)]
abbrev o3_1(P:Params):Obj:=⟨.type "dict",none,.dict (o3_1L P).toArray 10,#[]⟩
abbrev ziF:List Value:=o12aL++[.int 2 0,.int 0 0,.ref 20]
abbrev o12_1:=fi ziF
abbrev ziG:=tu [.type "ValueError"]
abbrev o16_1:Obj:=⟨.type "builtin_function_or_method",none,.fields #[.builtin "type.__prepare__",.type "type"],#[]⟩
abbrev o17_1L(P:Params):List DictEntry:=[de P "__module__" 196 (vs "changehall.errors" 187),de P "__qualname__" 198 (vs "HallError" 197),de P "__firstlineno__" 200 (.int 2 199),de P "__static_attributes__" 201 (.ref 22)]
abbrev o17_1(P:Params):Obj:=⟨.type "dict",none,.dict (o17_1L P).toArray 4,#[]⟩
abbrev o18_1:=tu []
abbrev o19_1:=fi []
abbrev o20_1:=co "HallError" "/claim/cut.py" 191 192 193 2 0 0 18 false 181 19 .none .none .none .none 194 195
abbrev o21_1:Obj:=⟨.type "frame",none,.plain,#[Option.some (PySem.Value.ref 20),Option.some (PySem.Value.ref 3),Option.some (PySem.Value.ref 17),Option.none,Option.some (PySem.Value.str (PySem.Str.ofString "changehall.errors") 187),Option.none,Option.some (PySem.Value.ref 0)]⟩
abbrev ziH:=tu []
abbrev o23_1L(P:Params):List DictEntry:=[de P "__module__" 196 (vs "changehall.errors" 187),de P "__firstlineno__" 200 (.int 2 199),de P "__static_attributes__" 201 (.ref 22),de P "__weakref__" 203 (.ref 25),de P "__doc__" 204 .none]
abbrev ziI(P:Params):Obj:=⟨.type "dict",none,.dict (o23_1L P).toArray 3,#[]⟩
abbrev o24_1:Obj:=⟨.type "type",none,.cls ({ name:=PySem.Str.ofString "HallError",bases:=[PySem.Value.type "ValueError"],mro:=[PySem.Value.ref 24,PySem.Value.type "ValueError",PySem.Value.type "Exception",PySem.Value.type "BaseException",PySem.Value.type "object"],ns:=23,qualname:=PySem.Str.ofString "HallError" }),#[Option.some (PySem.Value.ref 15),Option.none,Option.some (PySem.Value.str (PySem.Str.ofString "HallError") 189),Option.some (PySem.Value.str (PySem.Str.ofString "HallError") 197),Option.some (PySem.Value.builtin "ValueError.__new__"),Option.some (PySem.Value.bool Bool.true)]⟩
abbrev ziJ:Obj:=⟨.type "getset_descriptor",none,.fields #[vs "__weakref__" 202,.ref 24,.builtin "ExceptionGroup.__weakref__",.none],#[]⟩
abbrev o26_1:Obj:=⟨.type "super",none,.fields #[.ref 24,.ref 24,.ref 24],#[]⟩
abbrev o27_1:Obj:=⟨.type "builtin_function_or_method",none,.fields #[.builtin "object.__init_subclass__",.ref 24],#[]⟩
abbrev t1(P:Params):BT:=ins (t0 P) [(3,o3_1 P),(12,o12_1),(15,ziG),(16,o16_1),(17,o17_1 P),(18,o18_1),(19,o19_1),(20,o20_1),(21,o21_1),(22,ziH),(23,ziI P),(24,o24_1),(25,ziJ),(26,o26_1),(27,o27_1)]
abbrev s1(w:World)(os:OsState):SharedT:=⟨t1 w.params,28,{ },#[],{ },207,os⟩
abbrev l0:List Stmt:=[top 0,top 1]
theorem run_0(w:World)(os:OsState):segRunT treeTable pw w 11 ann 1 196 (s0 w os) (piecesOf l0 env cE ⟨0,0,0,0⟩ fB)=some (.next,s1 w os,cE,⟨2,0,3,8⟩):=by
 rewrite[te_sT,te_tb];kernel_rfl
abbrev o3_2L(P:Params):List DictEntry:=de P "__name__" 165 (vs "changehall.errors" 187)::(o3_1L P).tail++[de P "NoHall" 222 (.ref 37)]
abbrev o3_2(P:Params):Obj:=⟨.type "dict",none,.dict (o3_2L P).toArray 11,#[]⟩
abbrev ziK:List Value:=ziF++[.int 4 0,.int 0 0,.ref 33]
abbrev o12_2:=fi ziK
abbrev o24_2:Obj:=⟨.type "type",none,.cls ({ name:=PySem.Str.ofString "HallError",bases:=[PySem.Value.type "ValueError"],mro:=[PySem.Value.ref 24,PySem.Value.type "ValueError",PySem.Value.type "Exception",PySem.Value.type "BaseException",PySem.Value.type "object"],ns:=23,qualname:=PySem.Str.ofString "HallError",subclasses:=[PySem.Value.ref 37] }),#[Option.some (PySem.Value.ref 15),Option.none,Option.some (PySem.Value.str (PySem.Str.ofString "HallError") 189),Option.some (PySem.Value.str (PySem.Str.ofString "HallError") 197),Option.some (PySem.Value.builtin "ValueError.__new__"),Option.some (PySem.Value.bool Bool.true)]⟩
abbrev ziL:=tu [.ref 24]
abbrev o29_2:Obj:=⟨.type "builtin_function_or_method",none,.fields #[.builtin "type.__prepare__",.type "type"],#[]⟩
abbrev o30_2L(P:Params):List DictEntry:=[de P "__module__" 214 (vs "changehall.errors" 187),de P "__qualname__" 216 (vs "NoHall" 215),de P "__firstlineno__" 218 (.int 4 217),de P "__static_attributes__" 219 (.ref 35)]
abbrev o30_2(P:Params):Obj:=⟨.type "dict",none,.dict (o30_2L P).toArray 4,#[]⟩
abbrev o31_2:=tu []
abbrev o32_2:=fi []
abbrev o33_2:=co "NoHall" "/claim/cut.py" 209 210 211 4 0 0 31 false 181 32 .none .none .none .none 212 213
abbrev o34_2:Obj:=⟨.type "frame",none,.plain,#[Option.some (PySem.Value.ref 33),Option.some (PySem.Value.ref 3),Option.some (PySem.Value.ref 30),Option.none,Option.some (PySem.Value.str (PySem.Str.ofString "changehall.errors") 187),Option.none,Option.some (PySem.Value.ref 0)]⟩
abbrev ziM:=tu []
abbrev o36_2L(P:Params):List DictEntry:=[de P "__module__" 214 (vs "changehall.errors" 187),de P "__firstlineno__" 218 (.int 4 217),de P "__static_attributes__" 219 (.ref 35),de P "__doc__" 220 .none]
abbrev ziN(P:Params):Obj:=⟨.type "dict",none,.dict (o36_2L P).toArray 2,#[]⟩
abbrev ziO:Obj:=⟨.type "type",none,.cls ({ name:=PySem.Str.ofString "NoHall",bases:=[PySem.Value.ref 24],mro:=[PySem.Value.ref 37,PySem.Value.ref 24,PySem.Value.type "ValueError",PySem.Value.type "Exception",PySem.Value.type "BaseException",PySem.Value.type "object"],ns:=36,qualname:=PySem.Str.ofString "NoHall" }),#[Option.some (PySem.Value.ref 28),Option.none,Option.some (PySem.Value.str (PySem.Str.ofString "NoHall") 207),Option.some (PySem.Value.str (PySem.Str.ofString "NoHall") 215),Option.some (PySem.Value.builtin "ValueError.__new__"),Option.some (PySem.Value.bool Bool.true)]⟩
abbrev o38_2:Obj:=⟨.type "super",none,.fields #[.ref 37,.ref 37,.ref 37],#[]⟩
abbrev o39_2:Obj:=⟨.type "builtin_function_or_method",none,.fields #[.builtin "object.__init_subclass__",.ref 37],#[]⟩
abbrev t2(P:Params):BT:=ins (t1 P) [(3,o3_2 P),(12,o12_2),(24,o24_2),(28,ziL),(29,o29_2),(30,o30_2 P),(31,o31_2),(32,o32_2),(33,o33_2),(34,o34_2),(35,ziM),(36,ziN P),(37,ziO),(38,o38_2),(39,o39_2)]
abbrev s2(w:World)(os:OsState):SharedT:=⟨t2 w.params,40,{ },#[],{ },223,os⟩
abbrev l1:List Stmt:=[top 2]
theorem run_1(w:World)(os:OsState):segRunT treeTable pw w 11 ann 1 214 (s1 w os) (piecesOf l1 env cE ⟨2,0,3,8⟩ fB)=some (.next,s2 w os,cE,⟨4,0,5,8⟩):=by
 rewrite[te_sT,te_tb];kernel_rfl
abbrev o3_3L(P:Params):List DictEntry:=de P "__name__" 165 (vs "changehall.errors" 187)::(o3_2L P).tail++[de P "NoBasket" 238 (.ref 49)]
abbrev o3_3(P:Params):Obj:=⟨.type "dict",none,.dict (o3_3L P).toArray 12,#[]⟩
abbrev ziP:List Value:=ziK++[.int 6 0,.int 0 0,.ref 45]
abbrev o12_3:=fi ziP
abbrev o24_3:Obj:=⟨.type "type",none,.cls ({ name:=PySem.Str.ofString "HallError",bases:=[PySem.Value.type "ValueError"],mro:=[PySem.Value.ref 24,PySem.Value.type "ValueError",PySem.Value.type "Exception",PySem.Value.type "BaseException",PySem.Value.type "object"],ns:=23,qualname:=PySem.Str.ofString "HallError",subclasses:=[PySem.Value.ref 37,PySem.Value.ref 49] }),#[Option.some (PySem.Value.ref 15),Option.none,Option.some (PySem.Value.str (PySem.Str.ofString "HallError") 189),Option.some (PySem.Value.str (PySem.Str.ofString "HallError") 197),Option.some (PySem.Value.builtin "ValueError.__new__"),Option.some (PySem.Value.bool Bool.true)]⟩
abbrev ziQ:=tu [.ref 24]
abbrev o41_3:Obj:=⟨.type "builtin_function_or_method",none,.fields #[.builtin "type.__prepare__",.type "type"],#[]⟩
abbrev o42_3L(P:Params):List DictEntry:=[de P "__module__" 230 (vs "changehall.errors" 187),de P "__qualname__" 232 (vs "NoBasket" 231),de P "__firstlineno__" 234 (.int 6 233),de P "__static_attributes__" 235 (.ref 47)]
abbrev o42_3(P:Params):Obj:=⟨.type "dict",none,.dict (o42_3L P).toArray 4,#[]⟩
abbrev o43_3:=tu []
abbrev o44_3:=fi []
abbrev o45_3:=co "NoBasket" "/claim/cut.py" 225 226 227 6 0 0 43 false 181 44 .none .none .none .none 228 229
abbrev o46_3:Obj:=⟨.type "frame",none,.plain,#[Option.some (PySem.Value.ref 45),Option.some (PySem.Value.ref 3),Option.some (PySem.Value.ref 42),Option.none,Option.some (PySem.Value.str (PySem.Str.ofString "changehall.errors") 187),Option.none,Option.some (PySem.Value.ref 0)]⟩
abbrev ziR:=tu []
abbrev o48_3L(P:Params):List DictEntry:=[de P "__module__" 230 (vs "changehall.errors" 187),de P "__firstlineno__" 234 (.int 6 233),de P "__static_attributes__" 235 (.ref 47),de P "__doc__" 236 .none]
abbrev ziS(P:Params):Obj:=⟨.type "dict",none,.dict (o48_3L P).toArray 2,#[]⟩
abbrev ziT:Obj:=⟨.type "type",none,.cls ({ name:=PySem.Str.ofString "NoBasket",bases:=[PySem.Value.ref 24],mro:=[PySem.Value.ref 49,PySem.Value.ref 24,PySem.Value.type "ValueError",PySem.Value.type "Exception",PySem.Value.type "BaseException",PySem.Value.type "object"],ns:=48,qualname:=PySem.Str.ofString "NoBasket" }),#[Option.some (PySem.Value.ref 40),Option.none,Option.some (PySem.Value.str (PySem.Str.ofString "NoBasket") 223),Option.some (PySem.Value.str (PySem.Str.ofString "NoBasket") 231),Option.some (PySem.Value.builtin "ValueError.__new__"),Option.some (PySem.Value.bool Bool.true)]⟩
abbrev o50_3:Obj:=⟨.type "super",none,.fields #[.ref 49,.ref 49,.ref 49],#[]⟩
abbrev o51_3:Obj:=⟨.type "builtin_function_or_method",none,.fields #[.builtin "object.__init_subclass__",.ref 49],#[]⟩
abbrev t3(P:Params):BT:=ins (t2 P) [(3,o3_3 P),(12,o12_3),(24,o24_3),(40,ziQ),(41,o41_3),(42,o42_3 P),(43,o43_3),(44,o44_3),(45,o45_3),(46,o46_3),(47,ziR),(48,ziS P),(49,ziT),(50,o50_3),(51,o51_3)]
abbrev s3(w:World)(os:OsState):SharedT:=⟨t3 w.params,52,{ },#[],{ },239,os⟩
abbrev l2:List Stmt:=[top 3]
theorem run_2(w:World)(os:OsState):segRunT treeTable pw w 11 ann 1 214 (s2 w os) (piecesOf l2 env cE ⟨4,0,5,8⟩ fB)=some (.next,s3 w os,cE,⟨6,0,7,8⟩):=by
 rewrite[te_sT,te_tb];kernel_rfl
abbrev o3_4L(P:Params):List DictEntry:=de P "__name__" 165 (vs "changehall.halls" 297)::(o3_3L P).tail++[de P "TooMany" 254 (.ref 61),de P "is_whole" 263 (.ref 70),de P "is_row" 269 (.ref 75),de P "added" 275 (.ref 80),de P "taken" 281 (.ref 85),de P "scaled" 287 (.ref 90),de P "head_at" 296 (.ref 97)]
abbrev o3_4(P:Params):Obj:=⟨.type "dict",none,.dict (o3_4L P).toArray 19,#[]⟩
abbrev ziU:List Value:=ziP++[.int 8 0,.int 0 0,.ref 57,.int 11 0,.int 0 0,.ref 69,.int 13 0,.int 0 0,.ref 74,.int 17 0,.int 0 0,.ref 79,.int 19 0,.int 0 0,.ref 84,.int 21 0,.int 0 0,.ref 89,.int 23 0,.int 0 0,.ref 96]
abbrev o12_4:=fi ziU
abbrev ziV:Obj:=⟨.type "type",none,.cls ({ name:=PySem.Str.ofString "HallError",bases:=[PySem.Value.type "ValueError"],mro:=[PySem.Value.ref 24,PySem.Value.type "ValueError",PySem.Value.type "Exception",PySem.Value.type "BaseException",PySem.Value.type "object"],ns:=23,qualname:=PySem.Str.ofString "HallError",subclasses:=[PySem.Value.ref 37,PySem.Value.ref 49,PySem.Value.ref 61] }),#[Option.some (PySem.Value.ref 15),Option.none,Option.some (PySem.Value.str (PySem.Str.ofString "HallError") 189),Option.some (PySem.Value.str (PySem.Str.ofString "HallError") 197),Option.some (PySem.Value.builtin "ValueError.__new__"),Option.some (PySem.Value.bool Bool.true)]⟩
abbrev ziW:=tu [.ref 24]
abbrev o53_4:Obj:=⟨.type "builtin_function_or_method",none,.fields #[.builtin "type.__prepare__",.type "type"],#[]⟩
abbrev o54_4L(P:Params):List DictEntry:=[de P "__module__" 246 (vs "changehall.errors" 187),de P "__qualname__" 248 (vs "TooMany" 247),de P "__firstlineno__" 250 (.int 8 249),de P "__static_attributes__" 251 (.ref 59)]
abbrev o54_4(P:Params):Obj:=⟨.type "dict",none,.dict (o54_4L P).toArray 4,#[]⟩
abbrev o55_4:=tu []
abbrev o56_4:=fi []
abbrev o57_4:=co "TooMany" "/claim/cut.py" 241 242 243 8 0 0 55 false 181 56 .none .none .none .none 244 245
abbrev o58_4:Obj:=⟨.type "frame",none,.plain,#[Option.some (PySem.Value.ref 57),Option.some (PySem.Value.ref 3),Option.some (PySem.Value.ref 54),Option.none,Option.some (PySem.Value.str (PySem.Str.ofString "changehall.errors") 187),Option.none,Option.some (PySem.Value.ref 0)]⟩
abbrev ziX:=tu []
abbrev o60_4L(P:Params):List DictEntry:=[de P "__module__" 246 (vs "changehall.errors" 187),de P "__firstlineno__" 250 (.int 8 249),de P "__static_attributes__" 251 (.ref 59),de P "__doc__" 252 .none]
abbrev ziY(P:Params):Obj:=⟨.type "dict",none,.dict (o60_4L P).toArray 2,#[]⟩
abbrev ziZ:Obj:=⟨.type "type",none,.cls ({ name:=PySem.Str.ofString "TooMany",bases:=[PySem.Value.ref 24],mro:=[PySem.Value.ref 61,PySem.Value.ref 24,PySem.Value.type "ValueError",PySem.Value.type "Exception",PySem.Value.type "BaseException",PySem.Value.type "object"],ns:=60,qualname:=PySem.Str.ofString "TooMany" }),#[Option.some (PySem.Value.ref 52),Option.none,Option.some (PySem.Value.str (PySem.Str.ofString "TooMany") 239),Option.some (PySem.Value.str (PySem.Str.ofString "TooMany") 247),Option.some (PySem.Value.builtin "ValueError.__new__"),Option.some (PySem.Value.bool Bool.true)]⟩
abbrev o62_4:Obj:=⟨.type "super",none,.fields #[.ref 61,.ref 61,.ref 61],#[]⟩
abbrev o63_4:Obj:=⟨.type "builtin_function_or_method",none,.fields #[.builtin "object.__init_subclass__",.ref 61],#[]⟩
abbrev zj:=tu []
abbrev o65_4:=fi []
abbrev zj0:=tu [vs "value" 260]
abbrev zj1:=tu []
abbrev o68_4:=fo .none 6 0 .none .none
abbrev zj2:=co "is_whole" "/claim/cut.py" 257 258 259 11 1 3 64 true 181 65 .none (.ref 66) (.ref 67) (.ref 68) 261 262
abbrev zj3:=fo (.type "function") 6 3 (vs "changehall.rows" 255) (.ref 69)
abbrev zj4:=tu []
abbrev o72_4:=fi []
abbrev o73_4:=fo .none 7 0 .none .none
abbrev zj5:=co "is_row" "/claim/cut.py" 264 265 266 13 2 3 71 true 181 72 .none .none .none (.ref 73) 267 268
abbrev zj6:=fo (.type "function") 7 3 (vs "changehall.rows" 255) (.ref 74)
abbrev zj7:=tu []
abbrev o77_4:=fi []
abbrev o78_4:=fo .none 8 0 .none .none
abbrev zj8:=co "added" "/claim/cut.py" 270 271 272 17 2 3 76 true 181 77 .none .none .none (.ref 78) 273 274
abbrev zj9:=fo (.type "function") 8 3 (vs "changehall.rows" 255) (.ref 79)
abbrev zja:=tu []
abbrev o82_4:=fi []
abbrev o83_4:=fo .none 9 0 .none .none
abbrev zjb:=co "taken" "/claim/cut.py" 276 277 278 19 2 3 81 true 181 82 .none .none .none (.ref 83) 279 280
abbrev zjc:=fo (.type "function") 9 3 (vs "changehall.rows" 255) (.ref 84)
abbrev zjd:=tu []
abbrev o87_4:=fi []
abbrev o88_4:=fo .none 10 0 .none .none
abbrev zje:=co "scaled" "/claim/cut.py" 282 283 284 21 2 3 86 true 181 87 .none .none .none (.ref 88) 285 286
abbrev zjf:=fo (.type "function") 10 3 (vs "changehall.rows" 255) (.ref 89)
abbrev zjg:=tu []
abbrev o92_4:=fi []
abbrev zjh:=tu [vs "row" 291,vs "spot" 292,vs "number" 293]
abbrev zji:=tu []
abbrev o95_4:=fo .none 11 0 .none .none
abbrev zjj:=co "head_at" "/claim/cut.py" 288 289 290 23 1 3 91 true 181 92 .none (.ref 93) (.ref 94) (.ref 95) 294 295
abbrev zjk:=fo (.type "function") 11 3 (vs "changehall.rows" 255) (.ref 96)
abbrev t4(P:Params):BT:=ins (t3 P) [(3,o3_4 P),(12,o12_4),(24,ziV),(52,ziW),(53,o53_4),(54,o54_4 P),(55,o55_4),(56,o56_4),(57,o57_4),(58,o58_4),(59,ziX),(60,ziY P),(61,ziZ),(62,o62_4),(63,o63_4),(64,zj),(65,o65_4),(66,zj0),(67,zj1),(68,o68_4),(69,zj2),(70,zj3),(71,zj4),(72,o72_4),(73,o73_4),(74,zj5),(75,zj6),(76,zj7),(77,o77_4),(78,o78_4),(79,zj8),(80,zj9),(81,zja),(82,o82_4),(83,o83_4),(84,zjb),(85,zjc),(86,zjd),(87,o87_4),(88,o88_4),(89,zje),(90,zjf),(91,zjg),(92,o92_4),(93,zjh),(94,zji),(95,o95_4),(96,zjj),(97,zjk)]
abbrev s4(w:World)(os:OsState):SharedT:=⟨t4 w.params,98,{ },#[],{ },299,os⟩
abbrev l3:List Stmt:=[top 4,top 5,top 6,top 7,top 8,top 9,top 10,top 11,top 12]
theorem run_3(w:World)(os:OsState):segRunT treeTable pw w 11 ann 1 396 (s3 w os) (piecesOf l3 env cE ⟨6,0,7,8⟩ fB)=some (.next,s4 w os,cE,⟨28,0,28,8⟩):=by
 rewrite[te_sT,te_tb];kernel_rfl
abbrev o3_5L(P:Params):List DictEntry:=de P "__name__" 165 (vs "changehall.stairs" 370)::(o3_4L P).tail++[de P "MOST_KINDS" 300 (.int 6 299),de P "MOST_BILLS" 302 (.int 8 301),de P "are_kinds" 309 (.ref 104),de P "is_bill" 315 (.ref 109),de P "need_kinds" 322 (.ref 116),de P "need_bill" 330 (.ref 123),de P "hall_of" 339 (.ref 130),de P "hall_by" 345 (.ref 135),de P "need_basket_of" 353 (.ref 142),de P "need_basket" 361 (.ref 149),de P "bridge" 369 (.ref 154),de P "lowering" 384 (.ref 161),de P "lowered" 392 (.ref 168),de P "crossed" 404 (.ref 175)]
abbrev o3_5(P:Params):Obj:=⟨.type "dict",none,.dict (o3_5L P).toArray 33,#[]⟩
abbrev zjl:List Value:=ziU++[.int 31 0,.int 0 0,.ref 103,.int 33 0,.int 0 0,.ref 108,.int 35 0,.int 0 0,.ref 115,.int 38 0,.int 0 0,.ref 122,.int 41 0,.int 0 0,.ref 129,.int 48 0,.int 0 0,.ref 134,.int 50 0,.int 0 0,.ref 141,.int 53 0,.int 0 0,.ref 148,.int 56 0,.int 0 0,.ref 153,.int 68 0,.int 0 0,.ref 160,.int 78 0,.int 0 0,.ref 167,.int 80 0,.int 0 0,.ref 174]
abbrev o12_5:=fi zjl
abbrev zjm:=tu []
abbrev o99_5:=fi []
abbrev zcX:=tu [vs "value" 306]
abbrev zcY:=tu []
abbrev zjn:=fo .none 15 0 .none .none
abbrev zcZ:=co "are_kinds" "/claim/cut.py" 303 304 305 31 1 3 98 true 181 99 .none (.ref 100) (.ref 101) (.ref 102) 307 308
abbrev zd:=fo (.type "function") 15 3 (vs "changehall.halls" 297) (.ref 103)
abbrev zd0:=tu []
abbrev zjo:=fi []
abbrev zjp:=fo .none 16 0 .none .none
abbrev zd1:=co "is_bill" "/claim/cut.py" 310 311 312 33 2 3 105 true 181 106 .none .none .none (.ref 107) 313 314
abbrev zd2:=fo (.type "function") 16 3 (vs "changehall.halls" 297) (.ref 108)
abbrev zd3:=tu []
abbrev zjq:=fi []
abbrev zd4:=tu [vs "kinds" 319]
abbrev zd5:=tu []
abbrev zjr:=fo .none 17 0 .none .none
abbrev zd6:=co "need_kinds" "/claim/cut.py" 316 317 318 35 1 3 110 true 181 111 .none (.ref 112) (.ref 113) (.ref 114) 320 321
abbrev zd7:=fo (.type "function") 17 3 (vs "changehall.halls" 297) (.ref 115)
abbrev zd8:=tu []
abbrev zjs:=fi []
abbrev zd9:=tu [vs "bill" 326,vs "kinds" 327]
abbrev zda:=tu []
abbrev zjt:=fo .none 18 0 .none .none
abbrev zdb:=co "need_bill" "/claim/cut.py" 323 324 325 38 2 3 117 true 181 118 .none (.ref 119) (.ref 120) (.ref 121) 328 329
abbrev zdc:=fo (.type "function") 18 3 (vs "changehall.halls" 297) (.ref 122)
abbrev zdd:=tu []
abbrev zju:=fi []
abbrev zde:=tu [vs "kinds" 334,vs "bills" 335,vs "bill" 336]
abbrev zdf:=tu []
abbrev zjv:=fo .none 19 0 .none .none
abbrev zdg:=co "hall_of" "/claim/cut.py" 331 332 333 41 2 3 124 true 181 125 .none (.ref 126) (.ref 127) (.ref 128) 337 338
abbrev zdh:=fo (.type "function") 19 3 (vs "changehall.halls" 297) (.ref 129)
abbrev zdi:=tu []
abbrev zjw:=fi []
abbrev zjx:=fo .none 20 0 .none .none
abbrev zdj:=co "hall_by" "/claim/cut.py" 340 341 342 48 2 3 131 true 181 132 .none .none .none (.ref 133) 343 344
abbrev zdk:=fo (.type "function") 20 3 (vs "changehall.halls" 297) (.ref 134)
abbrev zdl:=tu []
abbrev zjy:=fi []
abbrev zdm:=tu [vs "kinds" 349,vs "basket" 350]
abbrev zdn:=tu []
abbrev zjz:=fo .none 21 0 .none .none
abbrev zdo:=co "need_basket_of" "/claim/cut.py" 346 347 348 50 2 3 136 true 181 137 .none (.ref 138) (.ref 139) (.ref 140) 351 352
abbrev zdp:=fo (.type "function") 21 3 (vs "changehall.halls" 297) (.ref 141)
abbrev zdq:=tu []
abbrev zjA:=fi []
abbrev zdr:=tu [vs "hall" 357,vs "basket" 358]
abbrev zds:=tu []
abbrev zjB:=fo .none 22 0 .none .none
abbrev zdt:=co "need_basket" "/claim/cut.py" 354 355 356 53 2 3 143 true 181 144 .none (.ref 145) (.ref 146) (.ref 147) 359 360
abbrev zdu:=fo (.type "function") 22 3 (vs "changehall.halls" 297) (.ref 148)
abbrev zdv:=tu []
abbrev zjC:=fi []
abbrev zjD:=fo .none 24 0 .none .none
abbrev zdw:=co "bridge" "/claim/cut.py" 364 365 366 56 2 3 150 true 181 151 .none .none .none (.ref 152) 367 368
abbrev zdx:=fo (.type "function") 24 3 (vs "changehall.whole" 362) (.ref 153)
abbrev zdy:=tu []
abbrev zjE:=fi []
abbrev zdz:=tu [vs "row" 375,vs "rungs" 376,vs "left" 377,vs "counts" 378,vs "rung" 379,vs "spot" 380,vs "often" 381]
abbrev zdA:=tu []
abbrev zjF:=fo .none 26 0 .none .none
abbrev zdB:=co "lowering" "/claim/cut.py" 372 373 374 68 2 3 155 true 181 156 .none (.ref 157) (.ref 158) (.ref 159) 382 383
abbrev zdC:=fo (.type "function") 26 3 (vs "changehall.stairs" 370) (.ref 160)
abbrev zdD:=tu []
abbrev zjG:=fi []
abbrev zdE:=tu [vs "row" 388,vs "rungs" 389]
abbrev zdF:=tu []
abbrev zjH:=fo .none 27 0 .none .none
abbrev zdG:=co "lowered" "/claim/cut.py" 385 386 387 78 2 3 162 true 181 163 .none (.ref 164) (.ref 165) (.ref 166) 390 391
abbrev zdH:=fo (.type "function") 27 3 (vs "changehall.stairs" 370) (.ref 167)
abbrev zdI:=tu []
abbrev zjI:=fi []
abbrev zdJ:=tu [vs "rung" 396,vs "row" 397,vs "spot" 398,vs "found" 399,vs "upper" 400,vs "lower" 401]
abbrev zdK:=tu []
abbrev zjJ:=fo .none 28 0 .none .none
abbrev zdL:=co "crossed" "/claim/cut.py" 393 394 395 80 2 3 169 true 181 170 .none (.ref 171) (.ref 172) (.ref 173) 402 403
abbrev zdM:=fo (.type "function") 28 3 (vs "changehall.stairs" 370) (.ref 174)
abbrev t5(P:Params):BT:=ins (t4 P) [(3,o3_5 P),(12,o12_5),(98,zjm),(99,o99_5),(100,zcX),(101,zcY),(102,zjn),(103,zcZ),(104,zd),(105,zd0),(106,zjo),(107,zjp),(108,zd1),(109,zd2),(110,zd3),(111,zjq),(112,zd4),(113,zd5),(114,zjr),(115,zd6),(116,zd7),(117,zd8),(118,zjs),(119,zd9),(120,zda),(121,zjt),(122,zdb),(123,zdc),(124,zdd),(125,zju),(126,zde),(127,zdf),(128,zjv),(129,zdg),(130,zdh),(131,zdi),(132,zjw),(133,zjx),(134,zdj),(135,zdk),(136,zdl),(137,zjy),(138,zdm),(139,zdn),(140,zjz),(141,zdo),(142,zdp),(143,zdq),(144,zjA),(145,zdr),(146,zds),(147,zjB),(148,zdt),(149,zdu),(150,zdv),(151,zjC),(152,zjD),(153,zdw),(154,zdx),(155,zdy),(156,zjE),(157,zdz),(158,zdA),(159,zjF),(160,zdB),(161,zdC),(162,zdD),(163,zjG),(164,zdE),(165,zdF),(166,zjH),(167,zdG),(168,zdH),(169,zdI),(170,zjI),(171,zdJ),(172,zdK),(173,zjJ),(174,zdL),(175,zdM)]
abbrev s5(w:World)(os:OsState):SharedT:=⟨t5 w.params,176,{ },#[],{ },405,os⟩
abbrev l4:List Stmt:=[top 13,top 14,top 15,top 16,top 17,top 18,top 19,top 20,top 21,top 22,top 23,top 24,top 25,top 26,top 27,top 28]
theorem run_4(w:World)(os:OsState):segRunT treeTable pw w 11 ann 1 393 (s4 w os) (piecesOf l4 env cE ⟨28,0,28,8⟩ fB)=some (.next,s5 w os,cE,⟨80,0,85,25⟩):=by
 rewrite[te_sT,te_tb];kernel_rfl
abbrev o3_6L(P:Params):List DictEntry:=de P "__name__" 165 (vs "law_changehall_k31_whole_parted" 493)::(o3_5L P).tail++[de P "turned_up" 411 (.ref 182),de P "with_row" 417 (.ref 187),de P "evened" 426 (.ref 194),de P "climbed" 435 (.ref 201),de P "tagged_stair" 441 (.ref 206),de P "tags_at_nought" 447 (.ref 211),de P "stair" 454 (.ref 218),de P "order" 462 (.ref 223),de P "MOST_ORDER" 466 (.int 1000000 465),de P "prime_powers" 477 (.ref 230),de P "often_for" 486 (.ref 237),de P "parted" 492 (.ref 242),de P "_law_cell_at" 502 (.ref 249)]
abbrev o3_6(P:Params):Obj:=⟨.type "dict",none,.dict (o3_6L P).toArray 46,#[]⟩
abbrev zjK:List Value:=zjl++[.int 86 0,.int 0 0,.ref 181,.int 88 0,.int 0 0,.ref 186,.int 99 0,.int 0 0,.ref 193,.int 104 0,.int 0 0,.ref 200,.int 109 0,.int 0 0,.ref 205,.int 111 0,.int 0 0,.ref 210,.int 113 0,.int 0 0,.ref 217,.int 116 0,.int 0 0,.ref 222,.int 123 0,.int 0 0,.ref 229,.int 138 0,.int 0 0,.ref 236,.int 141 0,.int 0 0,.ref 241,.int 147 0,.int 0 0,.ref 248]
abbrev o12_6:=fi zjK
abbrev zdN:=tu []
abbrev zjL:=fi []
abbrev zdO:=tu [vs "row" 408]
abbrev zdP:=tu []
abbrev zjM:=fo .none 29 0 .none .none
abbrev zdQ:=co "turned_up" "/claim/cut.py" 405 406 407 86 1 3 176 true 181 177 .none (.ref 178) (.ref 179) (.ref 180) 409 410
abbrev zdR:=fo (.type "function") 29 3 (vs "changehall.stairs" 370) (.ref 181)
abbrev zdS:=tu []
abbrev zjN:=fi []
abbrev zjO:=fo .none 30 0 .none .none
abbrev zdT:=co "with_row" "/claim/cut.py" 412 413 414 88 2 3 183 true 181 184 .none .none .none (.ref 185) 415 416
abbrev zdU:=fo (.type "function") 30 3 (vs "changehall.stairs" 370) (.ref 186)
abbrev zdV:=tu []
abbrev zjP:=fi []
abbrev zdW:=tu [vs "rungs" 421,vs "found" 422,vs "rung" 423]
abbrev zdX:=tu []
abbrev zjQ:=fo .none 31 0 .none .none
abbrev zdY:=co "evened" "/claim/cut.py" 418 419 420 99 1 3 188 true 181 189 .none (.ref 190) (.ref 191) (.ref 192) 424 425
abbrev zdZ:=fo (.type "function") 31 3 (vs "changehall.stairs" 370) (.ref 193)
abbrev ze:=tu []
abbrev zjR:=fi []
abbrev ze0:=tu [vs "rows" 430,vs "rungs" 431,vs "row" 432]
abbrev ze1:=tu []
abbrev zjS:=fo .none 32 0 .none .none
abbrev ze2:=co "climbed" "/claim/cut.py" 427 428 429 104 1 3 195 true 181 196 .none (.ref 197) (.ref 198) (.ref 199) 433 434
abbrev ze3:=fo (.type "function") 32 3 (vs "changehall.stairs" 370) (.ref 200)
abbrev ze4:=tu []
abbrev zjT:=fi []
abbrev zjU:=fo .none 33 0 .none .none
abbrev ze5:=co "tagged_stair" "/claim/cut.py" 436 437 438 109 2 3 202 true 181 203 .none .none .none (.ref 204) 439 440
abbrev ze6:=fo (.type "function") 33 3 (vs "changehall.stairs" 370) (.ref 205)
abbrev ze7:=tu []
abbrev zjV:=fi []
abbrev zjW:=fo .none 34 0 .none .none
abbrev ze8:=co "tags_at_nought" "/claim/cut.py" 442 443 444 111 2 3 207 true 181 208 .none .none .none (.ref 209) 445 446
abbrev ze9:=fo (.type "function") 34 3 (vs "changehall.stairs" 370) (.ref 210)
abbrev zea:=tu []
abbrev zjX:=fi []
abbrev zeb:=tu [vs "hall" 451]
abbrev zec:=tu []
abbrev zjY:=fo .none 35 0 .none .none
abbrev zed:=co "stair" "/claim/cut.py" 448 449 450 113 1 3 212 true 181 213 .none (.ref 214) (.ref 215) (.ref 216) 452 453
abbrev zee:=fo (.type "function") 35 3 (vs "changehall.stairs" 370) (.ref 217)
abbrev zef:=tu []
abbrev zjZ:=fi []
abbrev zk0:=fo .none 37 0 .none .none
abbrev zeg:=co "order" "/claim/cut.py" 457 458 459 116 2 3 219 true 181 220 .none .none .none (.ref 221) 460 461
abbrev zeh:=fo (.type "function") 37 3 (vs "changehall.classes" 455) (.ref 222)
abbrev zei:=tu []
abbrev zk1:=fi []
abbrev zej:=tu [vs "number" 470,vs "found" 471,vs "left" 472,vs "prime" 473,vs "power" 474]
abbrev zek:=tu []
abbrev zk2:=fo .none 40 0 .none .none
abbrev zel:=co "prime_powers" "/claim/cut.py" 467 468 469 123 1 3 224 true 181 225 .none (.ref 226) (.ref 227) (.ref 228) 475 476
abbrev zem:=fo (.type "function") 40 3 (vs "changehall.primes" 463) (.ref 229)
abbrev zen:=tu []
abbrev zk3:=fi []
abbrev zeo:=tu [vs "power" 481,vs "whole" 482,vs "others" 483]
abbrev zep:=tu []
abbrev zk4:=fo .none 41 0 .none .none
abbrev zeq:=co "often_for" "/claim/cut.py" 478 479 480 138 2 3 231 true 181 232 .none (.ref 233) (.ref 234) (.ref 235) 484 485
abbrev zer:=fo (.type "function") 41 3 (vs "changehall.primes" 463) (.ref 236)
abbrev zes:=tu []
abbrev zk5:=fi []
abbrev zk6:=fo .none 42 0 .none .none
abbrev zet:=co "parted" "/claim/cut.py" 487 488 489 141 2 3 238 true 181 239 .none .none .none (.ref 240) 490 491
abbrev zeu:=fo (.type "function") 42 3 (vs "changehall.primes" 463) (.ref 241)
abbrev zev:=tu []
abbrev zk7:=fi []
abbrev zew:=tu [vs "_law_script" 498,vs "_law_k" 499]
abbrev zex:=tu []
abbrev zk8:=fo .none 44 0 .none .none
abbrev zey:=co "_law_cell_at" "/claim/cut.py" 495 496 497 147 2 3 243 true 181 244 .none (.ref 245) (.ref 246) (.ref 247) 500 501
abbrev zez:=fo (.type "function") 44 3 (vs "law_changehall_k31_whole_parted" 493) (.ref 248)
abbrev t6(P:Params):BT:=ins (t5 P) [(3,o3_6 P),(12,o12_6),(176,zdN),(177,zjL),(178,zdO),(179,zdP),(180,zjM),(181,zdQ),(182,zdR),(183,zdS),(184,zjN),(185,zjO),(186,zdT),(187,zdU),(188,zdV),(189,zjP),(190,zdW),(191,zdX),(192,zjQ),(193,zdY),(194,zdZ),(195,ze),(196,zjR),(197,ze0),(198,ze1),(199,zjS),(200,ze2),(201,ze3),(202,ze4),(203,zjT),(204,zjU),(205,ze5),(206,ze6),(207,ze7),(208,zjV),(209,zjW),(210,ze8),(211,ze9),(212,zea),(213,zjX),(214,zeb),(215,zec),(216,zjY),(217,zed),(218,zee),(219,zef),(220,zjZ),(221,zk0),(222,zeg),(223,zeh),(224,zei),(225,zk1),(226,zej),(227,zek),(228,zk2),(229,zel),(230,zem),(231,zen),(232,zk3),(233,zeo),(234,zep),(235,zk4),(236,zeq),(237,zer),(238,zes),(239,zk5),(240,zk6),(241,zet),(242,zeu),(243,zev),(244,zk7),(245,zew),(246,zex),(247,zk8),(248,zey),(249,zez)]
abbrev s6(w:World)(os:OsState):SharedT:=⟨t6 w.params,250,{ },#[],{ },503,os⟩
abbrev l5:List Stmt:=[top 29,top 30,top 31,top 32,top 33,top 34,top 35,top 36,top 37,top 38,top 39,top 40,top 41,top 42,top 43,top 44]
theorem run_5(w:World)(os:OsState):segRunT treeTable pw w 11 ann 1 381 (s5 w os) (piecesOf l5 env cE ⟨80,0,85,25⟩ fB)=some (.next,s6 w os,cE,⟨147,0,152,63⟩):=by
 rewrite[te_sT,te_tb];kernel_rfl
abbrev o3_7L(P:Params):List DictEntry:=de P "__name__" 165 (vs "law_changehall_k31_whole_parted" 493)::(o3_6L P).tail++[de P "_law_whole" 509 (.ref 256),de P "_law_is_row" 518 (.ref 263),de P "_law_number" 528 (.ref 270),de P "_law_row" 534 (.ref 275),de P "_law_plus" 540 (.ref 280),de P "_law_head" 548 (.ref 287),de P "_law_left" 559 (.ref 294),de P "_law_copied" 565 (.ref 299),de P "_law_few" 571 (.ref 304),de P "_law_is_prime" 579 (.ref 311),de P "_law_is_power" 587 (.ref 318),de P "_law_is_part" 597 (.ref 325),de P "law" 603 (.ref 330)]
abbrev o3_7(P:Params):Obj:=⟨.type "dict",none,.dict (o3_7L P).toArray 59,#[]⟩
abbrev o12_7L:List Value:=zjK++[.int 153 0,.int 0 0,.ref 255,.int 155 0,.int 0 0,.ref 262,.int 162 0,.int 0 0,.ref 269,.int 173 0,.int 0 0,.ref 274,.int 175 0,.int 0 0,.ref 279,.int 177 0,.int 0 0,.ref 286,.int 182 0,.int 0 0,.ref 293,.int 188 0,.int 0 0,.ref 298,.int 190 0,.int 0 0,.ref 303,.int 202 0,.int 0 0,.ref 310,.int 211 0,.int 0 0,.ref 317,.int 215 0,.int 0 0,.ref 324,.int 224 0,.int 0 0,.ref 329]
abbrev o12_7:=fi o12_7L
abbrev zeA:=tu []
abbrev zk9:=fi []
abbrev zeB:=tu [vs "_law_found" 506]
abbrev zeC:=tu []
abbrev zka:=fo .none 45 0 .none .none
abbrev zeD:=co "_law_whole" "/claim/cut.py" 503 504 505 153 1 3 250 true 181 251 .none (.ref 252) (.ref 253) (.ref 254) 507 508
abbrev zeE:=fo (.type "function") 45 3 (vs "law_changehall_k31_whole_parted" 493) (.ref 255)
abbrev zeF:=tu []
abbrev zkb:=fi []
abbrev zeG:=tu [vs "_law_found" 513,vs "_law_size" 514,vs "_law_number_here" 515]
abbrev zeH:=tu []
abbrev zkc:=fo .none 46 0 .none .none
abbrev zeI:=co "_law_is_row" "/claim/cut.py" 510 511 512 155 2 3 257 true 181 258 .none (.ref 259) (.ref 260) (.ref 261) 516 517
abbrev zeJ:=fo (.type "function") 46 3 (vs "law_changehall_k31_whole_parted" 493) (.ref 262)
abbrev zeK:=tu []
abbrev zkd:=fi []
abbrev zeL:=tu [vs "_law_cell" 522,vs "_law_mode" 523,vs "_law_number_here" 524,vs "_law_wide" 525]
abbrev zeM:=tu []
abbrev zke:=fo .none 47 0 .none .none
abbrev zeN:=co "_law_number" "/claim/cut.py" 519 520 521 162 2 3 264 true 181 265 .none (.ref 266) (.ref 267) (.ref 268) 526 527
abbrev zeO:=fo (.type "function") 47 3 (vs "law_changehall_k31_whole_parted" 493) (.ref 269)
abbrev zeP:=tu []
abbrev zkf:=fi []
abbrev zkg:=fo .none 48 0 .none .none
abbrev zeQ:=co "_law_row" "/claim/cut.py" 529 530 531 173 4 3 271 true 181 272 .none .none .none (.ref 273) 532 533
abbrev zeR:=fo (.type "function") 48 3 (vs "law_changehall_k31_whole_parted" 493) (.ref 274)
abbrev zeS:=tu []
abbrev zkh:=fi []
abbrev zki:=fo .none 49 0 .none .none
abbrev zeT:=co "_law_plus" "/claim/cut.py" 535 536 537 175 3 3 276 true 181 277 .none .none .none (.ref 278) 538 539
abbrev zeU:=fo (.type "function") 49 3 (vs "law_changehall_k31_whole_parted" 493) (.ref 279)
abbrev zeV:=tu []
abbrev zkj:=fi []
abbrev zeW:=tu [vs "_law_row_here" 544,vs "_law_k" 545]
abbrev zeX:=tu []
abbrev zkk:=fo .none 50 0 .none .none
abbrev zeY:=co "_law_head" "/claim/cut.py" 541 542 543 177 1 3 281 true 181 282 .none (.ref 283) (.ref 284) (.ref 285) 546 547
abbrev zeZ:=fo (.type "function") 50 3 (vs "law_changehall_k31_whole_parted" 493) (.ref 286)
abbrev zf:=tu []
abbrev zkl:=fi []
abbrev zf0:=tu [vs "_law_rows" 552,vs "_law_row_here" 553,vs "_law_left_here" 554,vs "_law_one" 555,vs "_law_at" 556]
abbrev zf1:=tu []
abbrev zkm:=fo .none 51 0 .none .none
abbrev zf2:=co "_law_left" "/claim/cut.py" 549 550 551 182 2 3 288 true 181 289 .none (.ref 290) (.ref 291) (.ref 292) 557 558
abbrev zf3:=fo (.type "function") 51 3 (vs "law_changehall_k31_whole_parted" 493) (.ref 293)
abbrev zf4:=tu []
abbrev zkn:=fi []
abbrev zko:=fo .none 52 0 .none .none
abbrev zf5:=co "_law_copied" "/claim/cut.py" 560 561 562 188 1 3 295 true 181 296 .none .none .none (.ref 297) 563 564
abbrev zf6:=fo (.type "function") 52 3 (vs "law_changehall_k31_whole_parted" 493) (.ref 298)
abbrev zf7:=tu []
abbrev zkp:=fi []
abbrev zkq:=fo .none 53 0 .none .none
abbrev zf8:=co "_law_few" "/claim/cut.py" 566 567 568 190 1 3 300 true 181 301 .none .none .none (.ref 302) 569 570
abbrev zf9:=fo (.type "function") 53 3 (vs "law_changehall_k31_whole_parted" 493) (.ref 303)
abbrev zfa:=tu []
abbrev zkr:=fi []
abbrev zfb:=tu [vs "_law_number_here" 575,vs "_law_k" 576]
abbrev zfc:=tu []
abbrev zks:=fo .none 54 0 .none .none
abbrev zfd:=co "_law_is_prime" "/claim/cut.py" 572 573 574 202 1 3 305 true 181 306 .none (.ref 307) (.ref 308) (.ref 309) 577 578
abbrev zfe:=fo (.type "function") 54 3 (vs "law_changehall_k31_whole_parted" 493) (.ref 310)
abbrev zff:=tu []
abbrev zkt:=fi []
abbrev zfg:=tu [vs "_law_number_here" 583,vs "_law_prime" 584]
abbrev zfh:=tu []
abbrev zku:=fo .none 55 0 .none .none
abbrev zfi:=co "_law_is_power" "/claim/cut.py" 580 581 582 211 2 3 312 true 181 313 .none (.ref 314) (.ref 315) (.ref 316) 585 586
abbrev zfj:=fo (.type "function") 55 3 (vs "law_changehall_k31_whole_parted" 493) (.ref 317)
abbrev zfk:=tu []
abbrev zkv:=fi []
abbrev zfl:=tu [vs "_law_entry" 591,vs "_law_hall" 592,vs "_law_last" 593,vs "_law_many" 594]
abbrev zfm:=tu []
abbrev zkw:=fo .none 56 0 .none .none
abbrev zfn:=co "_law_is_part" "/claim/cut.py" 588 589 590 215 3 3 319 true 181 320 .none (.ref 321) (.ref 322) (.ref 323) 595 596
abbrev zfo:=fo (.type "function") 56 3 (vs "law_changehall_k31_whole_parted" 493) (.ref 324)
abbrev zfp:=tu []
abbrev zkx:=fi []
abbrev zky:=fo .none 57 0 .none .none
abbrev zfq:=co "law" "/claim/cut.py" 598 599 600 224 1 3 326 true 181 327 .none .none .none (.ref 328) 601 602
abbrev zfr:=fo (.type "function") 57 3 (vs "law_changehall_k31_whole_parted" 493) (.ref 329)
abbrev t7(P:Params):BT:=ins (t6 P) [(3,o3_7 P),(12,o12_7),(250,zeA),(251,zk9),(252,zeB),(253,zeC),(254,zka),(255,zeD),(256,zeE),(257,zeF),(258,zkb),(259,zeG),(260,zeH),(261,zkc),(262,zeI),(263,zeJ),(264,zeK),(265,zkd),(266,zeL),(267,zeM),(268,zke),(269,zeN),(270,zeO),(271,zeP),(272,zkf),(273,zkg),(274,zeQ),(275,zeR),(276,zeS),(277,zkh),(278,zki),(279,zeT),(280,zeU),(281,zeV),(282,zkj),(283,zeW),(284,zeX),(285,zkk),(286,zeY),(287,zeZ),(288,zf),(289,zkl),(290,zf0),(291,zf1),(292,zkm),(293,zf2),(294,zf3),(295,zf4),(296,zkn),(297,zko),(298,zf5),(299,zf6),(300,zf7),(301,zkp),(302,zkq),(303,zf8),(304,zf9),(305,zfa),(306,zkr),(307,zfb),(308,zfc),(309,zks),(310,zfd),(311,zfe),(312,zff),(313,zkt),(314,zfg),(315,zfh),(316,zku),(317,zfi),(318,zfj),(319,zfk),(320,zkv),(321,zfl),(322,zfm),(323,zkw),(324,zfn),(325,zfo),(326,zfp),(327,zkx),(328,zky),(329,zfq),(330,zfr)]
abbrev s7(w:World)(os:OsState):SharedT:=⟨t7 w.params,331,{ },#[],{ },604,os⟩
abbrev l6:List Stmt:=[top 45,top 46,top 47,top 48,top 49,top 50,top 51,top 52,top 53,top 54,top 55,top 56,top 57]
theorem run_6(w:World)(os:OsState):segRunT treeTable pw w 11 ann 1 378 (s6 w os) (piecesOf l6 env cE ⟨147,0,152,63⟩ fB)=some (.next,s7 w os,cE,⟨224,0,252,131⟩):=by
 rewrite[te_sT,te_tb];kernel_rfl
def h1(P:Params):Heap:=⟨⟨[boot_o_0 P,boot_o_1 P,boot_o_2 P,o3_7 P,boot_o_4 P,boot_o_5 P,boot_o_6 P,boot_o_7 P,boot_o_8 P,boot_o_9 P,boot_o_10 P,o11a,o12_7,o13a,o14a,ziG,o16_1,o17_1 P,o18_1,o19_1,o20_1,o21_1,ziH,ziI P,ziV,ziJ,o26_1,o27_1,ziL,o29_2,o30_2 P,o31_2,o32_2,o33_2,o34_2,ziM,ziN P,ziO,o38_2,o39_2,ziQ,o41_3,o42_3 P,o43_3,o44_3,o45_3,o46_3,ziR,ziS P,ziT,o50_3,o51_3,ziW,o53_4,o54_4 P,o55_4,o56_4,o57_4,o58_4,ziX,ziY P,ziZ,o62_4,o63_4,zj,o65_4,zj0,zj1,o68_4,zj2,zj3,zj4,o72_4,o73_4,zj5,zj6,zj7,o77_4,o78_4,zj8,zj9,zja,o82_4,o83_4,zjb,zjc,zjd,o87_4,o88_4,zje,zjf,zjg,o92_4,zjh,zji,o95_4,zjj,zjk,zjm,o99_5,zcX,zcY,zjn,zcZ,zd,zd0,zjo,zjp,zd1,zd2,zd3,zjq,zd4,zd5,zjr,zd6,zd7,zd8,zjs,zd9,zda,zjt,zdb,zdc,zdd,zju,zde,zdf,zjv,zdg,zdh,zdi,zjw,zjx,zdj,zdk,zdl,zjy,zdm,zdn,zjz,zdo,zdp,zdq,zjA,zdr,zds,zjB,zdt,zdu,zdv,zjC,zjD,zdw,zdx,zdy,zjE,zdz,zdA,zjF,zdB,zdC,zdD,zjG,zdE,zdF,zjH,zdG,zdH,zdI,zjI,zdJ,zdK,zjJ,zdL,zdM,zdN,zjL,zdO,zdP,zjM,zdQ,zdR,zdS,zjN,zjO,zdT,zdU,zdV,zjP,zdW,zdX,zjQ,zdY,zdZ,ze,zjR,ze0,ze1,zjS,ze2,ze3,ze4,zjT,zjU,ze5,ze6,ze7,zjV,zjW,ze8,ze9,zea,zjX,zeb,zec,zjY,zed,zee,zef,zjZ,zk0,zeg,zeh,zei,zk1,zej,zek,zk2,zel,zem,zen,zk3,zeo,zep,zk4,zeq,zer,zes,zk5,zk6,zet,zeu,zev,zk7,zew,zex,zk8,zey,zez,zeA,zk9,zeB,zeC,zka,zeD,zeE,zeF,zkb,zeG,zeH,zkc,zeI,zeJ,zeK,zkd,zeL,zeM,zke,zeN,zeO,zeP,zkf,zkg,zeQ,zeR,zeS,zkh,zki,zeT,zeU,zeV,zkj,zeW,zeX,zkk,zeY,zeZ,zf,zkl,zf0,zf1,zkm,zf2,zf3,zf4,zkn,zko,zf5,zf6,zf7,zkp,zkq,zf8,zf9,zfa,zkr,zfb,zfc,zks,zfd,zfe,zff,zkt,zfg,zfh,zku,zfi,zfj,zfk,zkv,zfl,zfm,zkw,zfn,zfo,zfp,zkx,zky,zfq,zfr]⟩,{ }⟩
abbrev z0t:Drawn:={ }
theorem run_z(w:World)(os:OsState):topRun treeTable pw w 11 ann 2 (s7 w os).abs ⟨doneF .next,cE,⟨224,0,252,131⟩,fB⟩=some ⟨h1 w.params,#[],z0t,604,os⟩:=by
 rewrite[te_tr,te_tb];kernel_rfl
theorem zlx:behindTheImports pw=(l0++(l1++(l2++(l3++(l4++(l5++(l6++[]))))))):=by kernel_rfl
theorem run_all(w:World)(os:OsState):topRun treeTable pw w 11 ann (12+(1+(196+(214+(214+(396+(393+(381+(378+2))))))))) ⟨boot_heap w.params,#[],boot_drawn,boot_toks,os⟩ (topStub pw)=some ⟨h1 w.params,#[],z0t,604,os⟩ :=
 go_top (run_a w os) (piece_block (env:=env) (run_b w os) (by rw[zlx];exact(piece_app (segRun_of (run_0 w os)) (piece_app (segRun_of (run_1 w os)) (piece_app (segRun_of (run_2 w os)) (piece_app (segRun_of (run_3 w os)) (piece_app (segRun_of (run_4 w os)) (piece_app (segRun_of (run_5 w os)) (piece_app (segRun_of (run_6 w os)) (run_z w os))))))))))
abbrev keep:List Nat:=[1,2,3,4,6,7,8,9,10,11,13,14,15,16,17,18,19,20,21,22,24,26,27,28,29,30,31,32,33,34,35,37,39,40,41,42,44,45,46,47,48,49,50,51,52,53,54,55,56,57]
def K:Params→PySem.W.Frag:=fun P=>(nat_lit 2,boot_o_2 P)::(nat_lit 3,o3_7 P)::(nat_lit 15,ziG)::(nat_lit 22,ziH)::(nat_lit 23,ziI P)::(nat_lit 24,ziV)::(nat_lit 25,ziJ)::(nat_lit 28,ziL)::(nat_lit 35,ziM)::(nat_lit 36,ziN P)::(nat_lit 37,ziO)::(nat_lit 40,ziQ)::(nat_lit 47,ziR)::(nat_lit 48,ziS P)::(nat_lit 49,ziT)::(nat_lit 52,ziW)::(nat_lit 59,ziX)::(nat_lit 60,ziY P)::(nat_lit 61,ziZ)::(nat_lit 64,zj)::(nat_lit 66,zj0)::(nat_lit 67,zj1)::(nat_lit 69,zj2)::(nat_lit 70,zj3)::(nat_lit 71,zj4)::(nat_lit 74,zj5)::(nat_lit 75,zj6)::(nat_lit 76,zj7)::(nat_lit 79,zj8)::(nat_lit 80,zj9)::(nat_lit 81,zja)::(nat_lit 84,zjb)::(nat_lit 85,zjc)::(nat_lit 86,zjd)::(nat_lit 89,zje)::(nat_lit 90,zjf)::(nat_lit 91,zjg)::(nat_lit 93,zjh)::(nat_lit 94,zji)::(nat_lit 96,zjj)::(nat_lit 97,zjk)::(nat_lit 98,zjm)::(nat_lit 100,zcX)::(nat_lit 101,zcY)::(nat_lit 103,zcZ)::(nat_lit 104,zd)::(nat_lit 105,zd0)::(nat_lit 108,zd1)::(nat_lit 109,zd2)::(nat_lit 110,zd3)::(nat_lit 112,zd4)::(nat_lit 113,zd5)::(nat_lit 115,zd6)::(nat_lit 116,zd7)::(nat_lit 117,zd8)::(nat_lit 119,zd9)::(nat_lit 120,zda)::(nat_lit 122,zdb)::(nat_lit 123,zdc)::(nat_lit 124,zdd)::(nat_lit 126,zde)::(nat_lit 127,zdf)::(nat_lit 129,zdg)::(nat_lit 130,zdh)::(nat_lit 131,zdi)::(nat_lit 134,zdj)::(nat_lit 135,zdk)::(nat_lit 136,zdl)::(nat_lit 138,zdm)::(nat_lit 139,zdn)::(nat_lit 141,zdo)::(nat_lit 142,zdp)::(nat_lit 143,zdq)::(nat_lit 145,zdr)::(nat_lit 146,zds)::(nat_lit 148,zdt)::(nat_lit 149,zdu)::(nat_lit 150,zdv)::(nat_lit 153,zdw)::(nat_lit 154,zdx)::(nat_lit 155,zdy)::(nat_lit 157,zdz)::(nat_lit 158,zdA)::(nat_lit 160,zdB)::(nat_lit 161,zdC)::(nat_lit 162,zdD)::(nat_lit 164,zdE)::(nat_lit 165,zdF)::(nat_lit 167,zdG)::(nat_lit 168,zdH)::(nat_lit 169,zdI)::(nat_lit 171,zdJ)::(nat_lit 172,zdK)::(nat_lit 174,zdL)::(nat_lit 175,zdM)::(nat_lit 176,zdN)::(nat_lit 178,zdO)::(nat_lit 179,zdP)::(nat_lit 181,zdQ)::(nat_lit 182,zdR)::(nat_lit 183,zdS)::(nat_lit 186,zdT)::(nat_lit 187,zdU)::(nat_lit 188,zdV)::(nat_lit 190,zdW)::(nat_lit 191,zdX)::(nat_lit 193,zdY)::(nat_lit 194,zdZ)::(nat_lit 195,ze)::(nat_lit 197,ze0)::(nat_lit 198,ze1)::(nat_lit 200,ze2)::(nat_lit 201,ze3)::(nat_lit 202,ze4)::(nat_lit 205,ze5)::(nat_lit 206,ze6)::(nat_lit 207,ze7)::(nat_lit 210,ze8)::(nat_lit 211,ze9)::(nat_lit 212,zea)::(nat_lit 214,zeb)::(nat_lit 215,zec)::(nat_lit 217,zed)::(nat_lit 218,zee)::(nat_lit 219,zef)::(nat_lit 222,zeg)::(nat_lit 223,zeh)::(nat_lit 224,zei)::(nat_lit 226,zej)::(nat_lit 227,zek)::(nat_lit 229,zel)::(nat_lit 230,zem)::(nat_lit 231,zen)::(nat_lit 233,zeo)::(nat_lit 234,zep)::(nat_lit 236,zeq)::(nat_lit 237,zer)::(nat_lit 238,zes)::(nat_lit 241,zet)::(nat_lit 242,zeu)::(nat_lit 243,zev)::(nat_lit 245,zew)::(nat_lit 246,zex)::(nat_lit 248,zey)::(nat_lit 249,zez)::(nat_lit 250,zeA)::(nat_lit 252,zeB)::(nat_lit 253,zeC)::(nat_lit 255,zeD)::(nat_lit 256,zeE)::(nat_lit 257,zeF)::(nat_lit 259,zeG)::(nat_lit 260,zeH)::(nat_lit 262,zeI)::(nat_lit 263,zeJ)::(nat_lit 264,zeK)::(nat_lit 266,zeL)::(nat_lit 267,zeM)::(nat_lit 269,zeN)::(nat_lit 270,zeO)::(nat_lit 271,zeP)::(nat_lit 274,zeQ)::(nat_lit 275,zeR)::(nat_lit 276,zeS)::(nat_lit 279,zeT)::(nat_lit 280,zeU)::(nat_lit 281,zeV)::(nat_lit 283,zeW)::(nat_lit 284,zeX)::(nat_lit 286,zeY)::(nat_lit 287,zeZ)::(nat_lit 288,zf)::(nat_lit 290,zf0)::(nat_lit 291,zf1)::(nat_lit 293,zf2)::(nat_lit 294,zf3)::(nat_lit 295,zf4)::(nat_lit 298,zf5)::(nat_lit 299,zf6)::(nat_lit 300,zf7)::(nat_lit 303,zf8)::(nat_lit 304,zf9)::(nat_lit 305,zfa)::(nat_lit 307,zfb)::(nat_lit 308,zfc)::(nat_lit 310,zfd)::(nat_lit 311,zfe)::(nat_lit 312,zff)::(nat_lit 314,zfg)::(nat_lit 315,zfh)::(nat_lit 317,zfi)::(nat_lit 318,zfj)::(nat_lit 319,zfk)::(nat_lit 321,zfl)::(nat_lit 322,zfm)::(nat_lit 324,zfn)::(nat_lit 325,zfo)::(nat_lit 326,zfp)::(nat_lit 329,zfq)::(nat_lit 330,zfr)::[]
abbrev Ka:List Addr:=[2,3,15,22,23,24,25,28,35,36,37,40,47,48,49,52,59,60,61,64,66,67,69,70,71,74,75,76,79,80,81,84,85,86,89,90,91,93,94,96,97,98,100,101,103,104,105,108,109,110,112,113,115,116,117,119,120,122,123,124,126,127,129,130,131,134,135,136,138,139,141,142,143,145,146,148,149,150,153,154,155,157,158,160,161,162,164,165,167,168,169,171,172,174,175,176,178,179,181,182,183,186,187,188,190,191,193,194,195,197,198,200,201,202,205,206,207,210,211,212,214,215,217,218,219,222,223,224,226,227,229,230,231,233,234,236,237,238,241,242,243,245,246,248,249,250,252,253,255,256,257,259,260,262,263,264,266,267,269,270,271,274,275,276,279,280,281,283,284,286,287,288,290,291,293,294,295,298,299,300,303,304,305,307,308,310,311,312,314,315,317,318,319,321,322,324,325,326,329,330]
theorem Ke(P:Params):Ka=(K P).map (·.1):=by kernel_rfl
abbrev qv:Program:=view pw keep
abbrev Xt:Shared→Bool:=fun s=>xlAt qv [] s&&recOk [] s
theorem opened:∀ w:World,(fencedOpening treeTable pw w 4456).map (fun s=>(s.heap,s.gens,s.drawn,s.toks))=some (boot_heap w.params,Array.mk [],boot_drawn,boot_toks):=boot_open (by kernel_rfl) (by kernel_rfl) (fun s=>by kernel_rfl)
theorem sized(w:World):((boot_heap w.params).isNs mainGlobals&&(Array.mk []:Array GenState).size==0,(boot_heap w.params).objs.size,(boot_heap w.params).nsMap mainGlobals "__annotations__")=(true,11,ann):=by
 rewrite[te_ns];kernel_rfl
theorem lk0(w:World)(os:OsState):(staticsOk (importedModules pw.main.body) (boot_heap w.params) (h1 w.params)&&namesBound pw (h1 w.params)&&gensDone ⟨h1 w.params,#[],z0t,604,os⟩&&laidKept (boot_heap w.params) (h1 w.params))=true:=by
 rewrite[te_im];kernel_rfl
theorem lk1(w:World)(os:OsState):seen ((recsOf qv).map (·.name)) (ownsOf qv) [] { (⟨h1 w.params,#[],z0t,604,os⟩:Shared)with gens:=#[] }=expectedOf qv:=by
 rewrite[te_seen,te_recs,te_owns];kernel_rfl
theorem lk2(w:World)(os:OsState):(⟨h1 w.params,#[],z0t,604,os⟩:Shared).heap.bltView=bltViewBooted:=by
 kernel_rfl
theorem lk3(w:World)(os:OsState):((⟨h1 w.params,#[],z0t,604,os⟩:Shared).heap.keysOk (looseW qv []) ((recsOf qv).map (·.name)) ((litsOf qv).map (·.1)) ((clssOf qv (looseW qv [])).map (·.name))&&(⟨h1 w.params,#[],z0t,604,os⟩:Shared).heap.accountedOkI (importedModules pw.main.body)&&(⟨h1 w.params,#[],z0t,604,os⟩:Shared).heap.isNs mainGlobals&&(⟨h1 w.params,#[],z0t,604,os⟩:Shared).heap.isNs builtinsNs&&tablesOk qv (⟨h1 w.params,#[],z0t,604,os⟩:Shared).heap&&Xt ⟨h1 w.params,#[],z0t,604,os⟩&&(if true=true then(⟨h1 w.params,#[],z0t,604,os⟩:Shared).gens.size==0 else !leftWithCleanup (⟨h1 w.params,#[],z0t,604,os⟩:Shared).gens))=true:=by
 rewrite[te_keys,te_loose,te_recs,te_lits,te_clss,te_acc,te_im,te_tabl];kernel_rfl
theorem lk4(w:World)(os:OsState):tabsOk qv ⟨h1 w.params,#[],z0t,604,os⟩=true:=by
 rewrite[te_tabs];kernel_rfl
theorem lk5(w:World)(os:OsState):pinSeenD qv (drecsOf qv) ⟨h1 w.params,#[],z0t,604,os⟩=pinGoodD (drecsOf qv):=by
 rewrite[te_pin,te_drecs];kernel_rfl
theorem lk6(w:World)(os:OsState):plainSeenE qv (looseW qv []) ⟨h1 w.params,#[],z0t,604,os⟩=plainGoodE qv (looseW qv []):=by
 rewrite[te_pE,te_loose];kernel_rfl
theorem lk7(w:World)(os:OsState):plainSeenD qv [] ⟨h1 w.params,#[],z0t,604,os⟩=plainGoodD qv []:=by
 rewrite[te_pD];kernel_rfl
theorem lk8(w:World)(os:OsState):wideSeen qv ⟨h1 w.params,#[],z0t,604,os⟩=wideGood qv:=by
 rewrite[te_wide];kernel_rfl
theorem lk9(w:World)(os:OsState):clsSeenW qv [] ⟨h1 w.params,#[],z0t,604,os⟩=clsGoodW qv []:=by
 rewrite[te_cls];kernel_rfl
theorem lk10(w:World)(os:OsState):Hook.obs (kHook K Ka Ke) ⟨h1 w.params,#[],z0t,604,os⟩=Hook.val (kHook K Ka Ke) w:=by
 kernel_rfl
theorem sn(w:World)(os:OsState):openSeen qv [] (importedModules pw.main.body) Xt true ⟨h1 w.params,#[],z0t,604,os⟩=(seen ((recsOf qv).map (·.name)) (ownsOf qv) [] { (⟨h1 w.params,#[],z0t,604,os⟩:Shared)with gens:=#[] },(⟨h1 w.params,#[],z0t,604,os⟩:Shared).heap.bltView,((⟨h1 w.params,#[],z0t,604,os⟩:Shared).heap.keysOk (looseW qv []) ((recsOf qv).map (·.name)) ((litsOf qv).map (·.1)) ((clssOf qv (looseW qv [])).map (·.name))&&(⟨h1 w.params,#[],z0t,604,os⟩:Shared).heap.accountedOkI (importedModules pw.main.body)&&(⟨h1 w.params,#[],z0t,604,os⟩:Shared).heap.isNs mainGlobals&&(⟨h1 w.params,#[],z0t,604,os⟩:Shared).heap.isNs builtinsNs&&tablesOk qv (⟨h1 w.params,#[],z0t,604,os⟩:Shared).heap&&Xt ⟨h1 w.params,#[],z0t,604,os⟩&&(if true=true then(⟨h1 w.params,#[],z0t,604,os⟩:Shared).gens.size==0 else !leftWithCleanup (⟨h1 w.params,#[],z0t,604,os⟩:Shared).gens)),tabsOk qv ⟨h1 w.params,#[],z0t,604,os⟩,pinSeenD qv (drecsOf qv) ⟨h1 w.params,#[],z0t,604,os⟩,plainSeenE qv (looseW qv []) ⟨h1 w.params,#[],z0t,604,os⟩,plainSeenD qv [] ⟨h1 w.params,#[],z0t,604,os⟩,wideSeen qv ⟨h1 w.params,#[],z0t,604,os⟩,clsSeenW qv [] ⟨h1 w.params,#[],z0t,604,os⟩):=by kernel_rfl
theorem gd:openGood qv []=(expectedOf qv,bltViewBooted,true,true,pinGoodD (drecsOf qv),plainGoodE qv (looseW qv []),plainGoodD qv [],wideGood qv,clsGoodW qv []):=by kernel_rfl
theorem lkS(w:World)(os:OsState):openSeen qv [] (importedModules pw.main.body) Xt true ⟨h1 w.params,#[],z0t,604,os⟩=openGood qv []:=(sn w os).trans (Eq.trans (looks_pair (lk1 w os) (looks_pair (lk2 w os) (looks_pair (lk3 w os) (looks_pair (lk4 w os) (looks_pair (lk5 w os) (looks_pair (lk6 w os) (looks_pair (lk7 w os) (looks_pair (lk8 w os) (lk9 w os))))))))) gd.symm)
theorem left:LeftO pw qv [] Xt (Hook.obs (kHook K Ka Ke)) (Hook.val (kHook K Ka Ke)) 4456 :=
 LeftO.of_pieces (H₀:=boot_heap) (H₁:=h1) (gs₀:=Array.mk []) (gs₁:=#[]) (d₀:=boot_drawn) (d₁:=z0t) (k₀:=boot_toks) (k₁:=604) (m₀:=11) (ann:=ann) (M:=(12+(1+(196+(214+(214+(396+(393+(381+(378+2)))))))))) opened sized run_all (by kernel_rfl) (fun w=>funext fun os =>
  looks_pair (lk0 w os) (looks_pair (lkS w os) (lk10 w os)))
end
end H
end K31
open PySem PySem.W PyProof.Rows
set_option maxRecDepth 100000 in
set_option maxHeartbeats 0 in
theorem PySem.Challenge.cw_changehall_k31_whole_parted_holds : PySem.Challenge.rw_changehall_k31_whole_parted.Holds := by
 w_on;o_law
 refine PySem.W.holds_open (q:=K31.H.qv) (loose:=[]) (Xt:=K31.H.Xt) (XP:=XL K31.H.qv []) (Yf:=Hook.obs (kHook K31.H.K K31.H.Ka K31.H.Ke)) (Ya:=Hook.val (kHook K31.H.K K31.H.Ka K31.H.Ke)) (YP:=Hook.says (kHook K31.H.K K31.H.Ka K31.H.Ke)) (N:=4456) K31.H.left (Hook.of _) (Hook.keeps _) (fun s e=>xl_of s (Bool.and_eq_true_iff.mp e).1) XL.keeps (by rfl) (by rfl) (by rfl) (fun s e=>recFacts_of (Bool.and_eq_true_iff.mp e).2) (by rfl) (by first|assumption|decide +kernel) (by decide +kernel) ⟨rfl,rfl,rfl,rfl,rfl,by decide +kernel⟩ ?hw ?hc
 (case hw=>w_witness2)
 k_fill
 refine L2.zgB (x := "_law_script") (k:=9) (fr:=true) (c:=K31.zfZ) (l:=PySem.Challenge.rw_changehall_k31_whole_parted) rfl rfl (fun w h Y=>PySem.W.kIn_of Y) ?F (fun ns hl=>K31.ziw ns hl) ⟨rfl,by decide,by decide⟩
 case F =>
  intro w mg fa h KX G hmg
  refine' K31.ziE KX G hmg (L2.dh ?e0 ?l0 ?c0 ?k0) (L2.dh ?e1 ?l1 ?c1 ?k1) (L2.dh ?e2 ?l2 ?c2 ?k2) (L2.dh ?e3 ?l3 ?c3 ?k3) (L2.dh ?e4 ?l4 ?c4 ?k4) (L2.dh ?e5 ?l5 ?c5 ?k5) (L2.dh ?e6 ?l6 ?c6 ?k6) (L2.dh ?e7 ?l7 ?c7 ?k7) (L2.dh ?e8 ?l8 ?c8 ?k8) (L2.dh ?e9 ?l9 ?c9 ?k9) (L2.dh ?e10 ?l10 ?c10 ?k10) (L2.dh ?e11 ?l11 ?c11 ?k11) (L2.dh ?e12 ?l12 ?c12 ?k12) (L2.dh ?e13 ?l13 ?c13 ?k13) (L2.dh ?e14 ?l14 ?c14 ?k14) (L2.dh ?e15 ?l15 ?c15 ?k15) (L2.dh ?e16 ?l16 ?c16 ?k16) (L2.dh ?e17 ?l17 ?c17 ?k17) (L2.dh ?e18 ?l18 ?c18 ?k18) (L2.dh ?e19 ?l19 ?c19 ?k19) (L2.dh ?e20 ?l20 ?c20 ?k20) (L2.dh ?e21 ?l21 ?c21 ?k21) (L2.dh ?e22 ?l22 ?c22 ?k22) (L2.dh ?e23 ?l23 ?c23 ?k23) (L2.dh ?e24 ?l24 ?c24 ?k24) (L2.dh ?e25 ?l25 ?c25 ?k25) (L2.dh ?e26 ?l26 ?c26 ?k26) (L2.dh ?e27 ?l27 ?c27 ?k27) (L2.dh ?e28 ?l28 ?c28 ?k28) (L2.dh ?e29 ?l29 ?c29 ?k29) (L2.dh ?e30 ?l30 ?c30 ?k30) (L2.dh ?e31 ?l31 ?c31 ?k31) (L2.dh ?e32 ?l32 ?c32 ?k32) (L2.dh ?e33 ?l33 ?c33 ?k33) (L2.dh ?e34 ?l34 ?c34 ?k34) (L2.dh ?e35 ?l35 ?c35 ?k35) (L2.dh ?e36 ?l36 ?c36 ?k36) (L2.dh ?e37 ?l37 ?c37 ?k37) (L2.dh ?e38 ?l38 ?c38 ?k38) (L2.dh ?e39 ?l39 ?c39 ?k39) (L2.dh ?e40 ?l40 ?c40 ?k40) (L2.dh ?e41 ?l41 ?c41 ?k41) (L2.dh ?e42 ?l42 ?c42 ?k42) ?z_abs ?z_all ?z_bool ?z_enumerate ?z_int ?z_isinstance ?z_len ?z_list ?z_range ?z_reversed ?z_sorted ?z_tuple ?z_zip ?y_MOST_BILLS ?y_MOST_KINDS ?y_MOST_ORDER
  all_goals try k_is
  all_goals kernel_rfl

end
