import PyProof.Rows.All
import Wide.All
import OpenK.AllK
import Wide.FinOn
import Lean
import PyProof.EqAt
import PyProof.EqKinds
import PyProof.TupleCall
import PyProof.CompFree
import PyProof.Cells
import PySem.Challenge.RW_changehall_k19_places_refused
set_option Elab.async false
set_option linter.all false
set_option maxRecDepth 100000
set_option exponentiation.threshold 20000
section
local macro_rules|`(tactic| omega)=>`(tactic| first|lia|omega +splitDisjunctions)
set_option Elab.async false
set_option linter.all false
set_option maxRecDepth 100000
namespace L2
open PySem PySem.Spec PyProof.Rows
abbrev Key:=Sum Int Str
def keyIs:Key→Value→Bool
 | .inl k,v=>Value.isInt k v
 | .inr x,v=>Value.isStrOf x v
def keyH(w:World):Key→Int
 | .inl k=>hashInt k
 | .inr x=>hashStr w x
theorem z10:∀{k:Key} {v:Value},keyIs k v=true→(∃ i t,k=Sum.inl i∧v=Value.int i t)∨(∃ x t,k=Sum.inr x∧v=Value.str x t)
 | .inl i,v,h=>by
  obtain⟨t,e⟩:=Value.isInt_shape (k:=i) (v:=v) h
  exact .inl ⟨i,t,rfl,e⟩
 | .inr x,v,h=>by
  obtain⟨t,e⟩:=Value.isStrOf_shape (x:=x) (v:=v) h
  exact .inr ⟨x,t,rfl,e⟩
theorem key_ll(a b:Int):decide ((Sum.inl a:Key)=Sum.inl b)=(a==b):=by
 by_cases e:a=b
 · subst e;simp
 · have h:¬(Sum.inl a:Key)=Sum.inl b:=fun q=>e (Sum.inl.inj q)
   rw[decide_eq_false h]
   exact(beq_eq_false_iff_ne.mpr e).symm
theorem key_rr(a b:Str):decide ((Sum.inr a:Key)=Sum.inr b)=decide (a=b):=by
 by_cases e:a=b
 · subst e;simp
 · have h:¬(Sum.inr a:Key)=Sum.inr b:=fun q=>e (Sum.inr.inj q)
   rw[decide_eq_false h,decide_eq_false e]
theorem key_lr(a:Int)(b:Str):decide ((Sum.inl a:Key)=Sum.inr b)=false:=decide_eq_false (fun q=>nomatch q)
theorem key_rl(a:Str)(b:Int):decide ((Sum.inr a:Key)=Sum.inl b)=false:=decide_eq_false (fun q=>nomatch q)
def zax(prog:Program)(w:World):PySem.KeyKind prog w Key where
 is:=keyIs
 hash:=keyH w
 inj:=fun v a b ha hb=>by
  rcases z10 ha with⟨i,t,rfl,rfl⟩|⟨x,t,rfl,rfl⟩
  · rcases z10 hb with⟨j,u,rfl,e⟩|⟨y,u,rfl,e⟩
    · injection e with e1 _;rw[e1]
    · exact nomatch e
  · rcases z10 hb with⟨j,u,rfl,e⟩|⟨y,u,rfl,e⟩
    · exact nomatch e
    · injection e with e1 _;rw[e1]
 byValue:=fun k v h=>by
  rcases z10 h with⟨i,t,rfl,rfl⟩|⟨x,t,rfl,rfl⟩<;>rfl
 pyHash:=fun hv h=>by
  rcases z10 hv with⟨i,t,rfl,rfl⟩|⟨x,t,rfl,rfl⟩
  · exact wpAny_pyHash_int h
  · exact wpAny_pyHash_str h
 eqBool:=fun hu hv h=>by
  rcases z10 hu with⟨i,t,rfl,rfl⟩|⟨x,t,rfl,rfl⟩
  · rcases z10 hv with⟨j,u,rfl,rfl⟩|⟨y,u,rfl,rfl⟩
    · rw[key_ll]at h;exact wpAny_eqBool_int h
    · rw[key_lr]at h;exact SeqAt.EqAt.int_str i t y u _ _ _ _ h
  · rcases z10 hv with⟨j,u,rfl,rfl⟩|⟨y,u,rfl,rfl⟩
    · rw[key_rl]at h;exact SeqAt.EqAt.str_int x t j u _ _ _ _ h
    · rw[key_rr]at h;exact wpAny_eqBool_str h
 «strs»:=fun k x t v h=>by
  rcases z10 h with⟨i,u,rfl,e⟩|⟨y,u,rfl,e⟩
  · exact nomatch e
  · injection e with e1 _
    subst e1
    cases v<;>rfl
end L2
namespace L2
open PySem PySem.Spec PyProof.Rows
inductive V where
 | non|bl (b:Bool)|int (i:Int)|str (x:Str)|byt (b:Array UInt8)|flt (b:UInt64)|ref (a:Addr)|ty (n:String)
 deriving DecidableEq
def RelV:V→Value→Prop
 | .non,u=>u=Value.none
 | .bl b,u=>u=Value.bool b
 | .int i,u=>∃ t,u=Value.int i t
 | .str x,u=>∃ t,u=Value.str x t
 | .byt b,u=>∃ t,u=Value.bytes b t
 | .flt b,u=>∃ t,u=Value.float b t
 | .ref a,u=>u=Value.ref a
 | .ty n,u=>u=Value.type n
abbrev Vals:List V→List Value→Prop:=Paired RelV
theorem Vals.length{xs:List V}{us:List Value}(r:Vals xs us):xs.length=us.length:=Paired.length r
theorem Vals.get:∀{xs:List V} {us:List Value} {i:Nat} {x:V},Vals xs us→xs[i]?=some x→∃ u,us[i]?=some u∧RelV x u
 | _,_,_,_,.nil,e=>by simp at e
 | _,_,0,_,.cons r _,e=>by simp at e;subst e;exact⟨_,rfl,r⟩
 | _,_,i+1,x,.cons _ t,e=>by
  obtain⟨u,h1,h2⟩:=Vals.get (i:=i) (x:=x) t (by simpa using e)
  exact⟨u,by simpa using h1,h2⟩
theorem Vals.set{x:V}{u:Value}(r:RelV x u):∀{xs:List V} {us:List Value} (i:Nat),Vals xs us→Vals (xs.set i x) (us.set i u)
 | _,_,_,.nil => .nil
 | _,_,0,.cons _ t => .cons r t
 | _,_,i+1,.cons q t => .cons q (Vals.set r i t)
theorem Vals.append:∀{xs ys:List V} {us ws:List Value},Vals xs us→Vals ys ws→Vals (xs++ys) (us++ws)
 | _,_,_,_,.nil,s=>s
 | _,_,_,_,.cons r t,s => .cons r (Vals.append t s)
theorem Vals.take:∀{xs:List V} {us:List Value} (n:Nat),Vals xs us→Vals (xs.take n) (us.take n)
 | _,_,0,_ => .nil
 | _,_,_+1,.nil => .nil
 | _,_,n+1,.cons r t => .cons r (Vals.take n t)
theorem Vals.drop:∀{xs:List V} {us:List Value} (n:Nat),Vals xs us→Vals (xs.drop n) (us.drop n)
 | _,_,0,r=>r
 | _,_,_+1,.nil => .nil
 | _,_,n+1,.cons _ t=>Vals.drop n t
theorem Vals.none_of:∀{xs:List V} {us:List Value} {i:Nat},Vals xs us→xs[i]?=none→us[i]?=none:=fun{xs us i} r e=>by
 have h1:=r.length
 have h2:xs.length≤i:=List.getElem?_eq_none_iff.mp e
 exact List.getElem?_eq_none_iff.mpr (by omega)
def RelO:Option V→Option Value→Prop
 | some v,some u=>RelV v u
 | none,none=>True
 | _,_=>False
def KV{κ:Type}:List (κ×V)→List (κ×Value)→Prop:=Paired fun(p:κ×V) (q:κ×Value)=>p.1=q.1∧RelV p.2 q.2
def kV:Key→V
 | .inl i => .int i
 | .inr x => .str x
inductive HO where
 | lst (xs:List V)
 | tup (xs:List V)
 | dK (kvs:List (Key×V))|dT (kvs:List (List Key×V))
 | set (S:Int→Bool) (n:Nat)
 | ins (C dx:Addr) (fs:List (Str×V))
 | own (x:Addr)
 | xd (fs:List (Str×V))
 | met (f x:Addr)
 | rng (lo hi:Int)
 | frz (o:Obj) (u:HO)
 | tbl (ps:Array Value)
 | ext (φ:Heap→Prop)
abbrev Hp:=Addr→Option HO
def upd(H:Hp)(a:Addr)(o:HO):Hp:=fun b=>if b=a then some o else H b
theorem z0A{H:Hp}{a:Addr}{o:HO}:upd H a o a=some o:=by unfold upd;rw[if_pos rfl]
theorem z0m{H:Hp}{a b:Addr}{o:HO}(h:b≠a):upd H a o b=H b:=by unfold upd;rw[if_neg h]
theorem z29{H:Hp}{a b:Addr}{o:HO}(h:H a=some o)(h':H b=none):a≠b:=by
 intro e;subst e;rw[h]at h';cases h'
section
variable (P:Program)(w:World)
def ObjOk(H:Hp)(h:Heap)(a:Addr):HO→Prop
 | .lst xs=>xs.length≤sizeLine∧∃(its:List Value) (n:Nat),Vals xs its∧h.get? a=some { cls := .type "list",data := .seq its.toArray n }
 | .tup xs=>xs.length≤sizeLine∧∃ its:List Value,Vals xs its∧IsTup h a its.toArray
 | .dK kvs=>kvs.length≤sizeLine∧(a==sysModules)=false∧∃ vs,KV kvs vs∧h.DictOf (zax P w) a vs
 | .dT kvs=>kvs.length≤sizeLine∧(a==sysModules)=false∧∃ xs:List (List Key×Addr×Value),
  Paired (fun(p:List Key×V) (q:List Key×Addr×Value)=>p.1=q.1∧H q.2.1=some (.tup (p.1.map kV))∧RelV p.2 q.2.2) kvs xs ∧
  ∃ o es ep,h.get? a=some o∧o.ExactDict∧o.data = .dict es ep∧es.toList=xs.map (entryOfKey (tupleKind (zax P w)))∧(xs.map (·.1)).Nodup
 | .set S n=>h.SetOf (intKind P w) a S n
 | .ins C dx fs=>H dx=some (.own a)∧fs.length≤1000∧dx≠a∧h.get? a=some (PySem.W.instObj C dx) ∧
  ∃ mA,h.Ns1 dx mA∧(∀ f,RelO (fs.lookup f) (mA f))∧PySem.Within mA (fs.map (·.1))
 | .own _=>∃ o,h.get? a=some o
 | .xd fs=>∃ mA,h.Ns1 a mA∧∀ f,RelO (fs.lookup f) (mA f)
 | .rng lo hi=>∃ t u v,h.get? a=some { cls := .type "range",data := .fields #[.int lo t,.int hi u,.int 1 v] }
 | .frz o u=>h.get? a=some o∧ObjOk H h a u
 | .tbl ps=>h.get? a=some { cls := .none,data := .fields ps }
 | .met f x=>h.get? a=some (PySem.W.methodObj (.ref f) (.ref x))
 | .ext φ=>φ h∧(∃ o,h.get? a=some o)∧∀ h1 h2:Heap,φ h1→(∀ o,h1.get? a=some o→h2.get? a=some o)→φ h2
def HOk(H:Hp)(h:Heap):Prop:=∀ a o,H a=some o→ObjOk P w H h a o
end
section
variable {P:Program}{w:World}{H H':Hp}{h h':Heap}{a:Addr}{o:HO}
theorem ObjOk.lt(x:ObjOk P w H h a o):a<h.objs.size:=by
 cases o with
 | lst xs=>obtain⟨_,_,_,_,e⟩:=x;exact Heap.lt_size e
 | tup xs=>obtain⟨_,_,_,p⟩:=x;exact p.lt
 | dK kvs=>obtain⟨_,_,_,_,o,_,_,e,_⟩:=x;exact Heap.lt_size e
 | dT kvs=>obtain⟨_,_,_,_,o,_,_,e,_⟩:=x;exact Heap.lt_size e
 | set S n=>obtain⟨o,_,_,_,e,_⟩:=x;exact Heap.lt_size e
 | ins C dx fs=>obtain⟨_,_,_,e,_⟩:=x;exact Heap.lt_size e
 | own y=>obtain⟨_,e⟩:=x;exact Heap.lt_size e
 | xd fs=>obtain⟨_,⟨_,_,_,e,_⟩,_⟩:=x;exact Heap.lt_size e
 | rng lo hi=>obtain⟨_,_,_,e⟩:=x;exact Heap.lt_size e
 | frz ob u=>obtain⟨e,_⟩:=x;exact Heap.lt_size e
 | tbl ps=>exact Heap.lt_size (show h.get? a=some _ from x)
 | met f y=>exact Heap.lt_size (show h.get? a=some _ from x)
 | ext φ=>obtain⟨_,⟨_,e⟩,_⟩:=x;exact Heap.lt_size e
theorem Paired.mapP{α β:Type}{F G:α→β→Prop}:∀{l₁:List α} {l₂:List β},Paired F l₁ l₂→(∀ a b,F a b→G a b)→Paired G l₁ l₂
 | _,_,.nil,_ => .nil
 | _,_,.cons r t,f => .cons (f _ _ r) (Paired.mapP t f)
theorem ObjOk.stay(x:ObjOk P w H h a o)(k:∀ b u,(b=a∨H b=some (.own a))→h.get? b=some u→h'.get? b=some u)
  (ho:∀ b,H b=some (.own a)→H' b=some (.own a)) (ht:∀ b xs,H b=some (.tup xs)→H' b=some (.tup xs)):ObjOk P w H' h' a o:=by
 induction o with
 | lst xs=>obtain⟨z,its,n,r,e⟩:=x;exact⟨z,its,n,r,k _ _ (.inl rfl) e⟩
 | tup xs=>obtain⟨z,its,r,ob,e,c⟩:=x;exact⟨z,its,r,ob,k _ _ (.inl rfl) e,c⟩
 | dK kvs=>obtain⟨z,y,vs,r,ob,es,ep,e,c⟩:=x;exact⟨z,y,vs,r,ob,es,ep,k _ _ (.inl rfl) e,c⟩
 | dT kvs =>
  obtain⟨z,y,xs,r,ob,es,ep,e,c⟩:=x
  exact⟨z,y,xs,Paired.mapP r fun p q z=>⟨z.1,ht _ _ z.2.1,z.2.2⟩,ob,es,ep,k _ _ (.inl rfl) e,c⟩
 | set S n=>obtain⟨ob,es,ep,t,e,c⟩:=x;exact⟨ob,es,ep,t,k _ _ (.inl rfl) e,c⟩
 | ins C dx fs =>
  obtain⟨d,z,ne,e,mA,⟨od,es,ep,e2,c⟩,r⟩:=x
  exact⟨ho _ d,z,ne,k _ _ (.inl rfl) e,mA,⟨od,es,ep,k _ _ (.inr d) e2,c⟩,r⟩
 | own y=>obtain⟨ob,e⟩:=x;exact⟨ob,k _ _ (.inl rfl) e⟩
 | xd fs=>obtain⟨mA,⟨od,es,ep,e,c⟩,r⟩:=x;exact⟨mA,⟨od,es,ep,k _ _ (.inl rfl) e,c⟩,r⟩
 | rng lo hi=>obtain⟨t,u,v,e⟩:=x;exact⟨t,u,v,k _ _ (.inl rfl) e⟩
 | frz ob u ih=>obtain⟨e,q⟩:=x;exact⟨k _ _ (.inl rfl) e,ih q⟩
 | tbl ps =>
  have e:h.get? a=some { cls := .none,data := .fields ps }:=x
  show h'.get? a=some { cls := .none,data := .fields ps }
  exact k a _ (.inl rfl) e
 | met f y =>
  have e:h.get? a=some (PySem.W.methodObj (.ref f) (.ref y)):=x
  show h'.get? a=some (PySem.W.methodObj (.ref f) (.ref y))
  exact k a _ (.inl rfl) e
 | ext φ=>obtain⟨p,⟨o,e⟩,st⟩:=x;exact⟨st _ _ p fun o q=>k _ _ (.inl rfl) q,⟨o,k _ _ (.inl rfl) e⟩,st⟩
theorem HOk.lt(x:HOk P w H h)(e:H a=some o):a<h.objs.size:=(x a o e).lt
theorem HOk.fresh(x:HOk P w H h)(e:h.objs.size≤a):H a=none:=by
 cases q:H a with
 | none=>rfl
 | some u=>exact absurd (Nat.lt_of_lt_of_le (x.lt q) e) (Nat.lt_irrefl _)
theorem HOk.kept(x:HOk P w H h)(k:∀ b u,h.get? b=some u→h'.get? b=some u):HOk P w H h':=fun a o e =>
 (x a o e).stay (fun b u _ q=>k b u q) (fun _ q=>q) fun _ _ q=>q
theorem HOk.laid(x:HOk P w H h)(k:∀ b u,h.get? b=some u→h'.get? b=some u)(hp:h.objs.size≤a)(new:ObjOk P w (upd H a o) h' a o):HOk P w (upd H a o) h':=fun b u e=>by
 have hn:=x.fresh hp
 by_cases hb:b=a
 · subst hb;rw[z0A]at e;cases e;exact new
 · rw[z0m hb]at e
   exact(x b u e).stay (fun c v _ q=>k c v q) (fun c q=>by rw[z0m (z29 q hn)];exact q) fun c xs q=>by rw[z0m (z29 q hn)];exact q
end
def Rd(H:Hp)(a:Addr)(u:HO):Prop:=H a=some u∨∃ o,H a=some (.frz o u)
theorem Rd.of{H:Hp}{a:Addr}{u:HO}(h:H a=some u):Rd H a u := .inl h
theorem Rd.ok{P:Program}{w:World}{H:Hp}{h:Heap}{a:Addr}{u:HO}(r:Rd H a u)(x:HOk P w H h):ObjOk P w H h a u:=by
 rcases r with r|⟨o,r⟩
 · exact x a u r
 · obtain⟨_,q⟩:=x a _ r
   exact q
def Mut:Option HO→Prop
 | some (.lst _)=>True
 | some (.dK _)=>True
 | some (.dT _)=>True
 | some (.set _ _)=>True
 | some (.ins _ _ _)=>True
 | some (.ext _)=>True
 | _=>False
section
variable {P:Program}{w:World}{H:Hp}{h h':Heap}{x e:Addr}{o':HO}
theorem HOk.write(ok:HOk P w H h)(mu:Mut (H x))(he:e=x∨H e=some (.own x))(k:∀ b u,b≠e→h.get? b=some u→h'.get? b=some u)(heo:∃ u,h'.get? e=some u)
   (new:ObjOk P w (upd H x o') h' x o'):HOk P w (upd H x o') h':=fun b u q=>by
 have nown:∀ c y,H c=some (.own y)→c≠x:=fun c y r z=>by subst z;rw[r]at mu;exact mu
 have ntup:∀ c xs,H c=some (.tup xs)→c≠x:=fun c xs r z=>by subst z;rw[r]at mu;exact mu
 by_cases hb:b=x
 · subst hb;rw[z0A]at q;cases q;exact new
 · rw[z0m hb]at q
   by_cases hbe:b=e
   · have q':H b=some (.own x):=by
       rcases he with z|z
       · exact absurd (hbe.trans z) hb
       · rw[hbe];exact z
     rw[q]at q';cases q'
     obtain⟨v,hv⟩:=heo
     exact⟨v,by rw[hbe];exact hv⟩
   · refine(ok b u q).stay (fun c v hc r=>k c v ?_ r) (fun c r=>by rw[z0m (nown c b r)];exact r) fun c xs r=>by rw[z0m (ntup c xs r)];exact r
     rcases hc with rfl|hc
     · exact hbe
     · rintro rfl
       rcases he with z|z
       · exact nown c b hc z
       · rw[hc]at z;cases z;exact hb rfl
end
structure Un(fs ex:List Addr)(H H':Hp)(h h':Heap):Prop where
 keep:∀ b o,h.get? b=some o→H b=none→b ∉ fs→b ∉ ex→h'.get? b=some o
 slot:∀ b o,h.get? b=some o→H b=none→b∈fs→b ∉ ex→∃ sl,h'.get? b=some { o with slots:=sl }
 free:∀ b o,h.get? b=some o→H b=none→b ∉ ex→H' b=none
 there:∀ b o,h.get? b=some o→b ∉ ex→∃ o',h'.get? b=some o'
 tups:∀ b xs,H b=some (.tup xs)→H' b=some (.tup xs)
 frzs:∀ b o u,H b=some (.frz o u)→H' b=some (.frz o u)
 tbls:∀ b ps,H b=some (.tbl ps)→∃ more,H' b=some (.tbl (ps++more))
section
variable {fs fs' ex ex':List Addr}{H H1 H2:Hp}{h h1 h2 h':Heap}{a x e:Addr}{o:HO}
theorem Un.any(u:Un fs ex H H1 h h1){b:Addr}{ob:Obj}(q:h.get? b=some ob)(n:H b=none)(hx:b ∉ ex):∃ sl,h1.get? b=some { ob with slots:=sl }:=by
 by_cases hb:b∈fs
 · exact u.slot b ob q n hb hx
 · exact⟨ob.slots,u.keep b ob q n hb hx⟩
theorem Un.trans(a:Un fs ex H H1 h h1)(b:Un fs ex H1 H2 h1 h2):Un fs ex H H2 h h2 where
 keep:=fun c ob q n hc hx=>b.keep c ob (a.keep c ob q n hc hx) (a.free c ob q n hx) hc hx
 slot:=fun c ob q n hc hx=>by
  obtain⟨sl,e1⟩:=a.slot c ob q n hc hx
  obtain⟨sl',e2⟩:=b.slot c _ e1 (a.free c ob q n hx) hc hx
  exact⟨sl',e2⟩
 free:=fun c ob q n hx=>by
  obtain⟨o',e1⟩:=a.there c ob q hx
  exact b.free c o' e1 (a.free c ob q n hx) hx
 there:=fun c ob q hx=>by
  obtain⟨o',e1⟩:=a.there c ob q hx
  exact b.there c o' e1 hx
 tups:=fun c xs q=>b.tups c xs (a.tups c xs q)
 frzs:=fun c ob xs q=>b.frzs c ob xs (a.frzs c ob xs q)
 tbls:=fun c ps q=>by
  obtain⟨m1,e1⟩:=a.tbls c ps q
  obtain⟨m2,e2⟩:=b.tbls c _ e1
  exact⟨m1++m2,by rw[e2,Array.append_assoc]⟩
theorem Un.kept(k:∀ b u,h.get? b=some u→h'.get? b=some u):Un fs ex H H h h' :=
 ⟨fun b ob q _ _ _=>k b ob q,fun b ob q _ _ _=>⟨ob.slots,k b ob q⟩,fun _ _ _ n _=>n,fun b ob q _=>⟨ob,k b ob q⟩,fun _ _ q=>q,fun _ _ _ q=>q,fun _ ps q=>⟨#[],by rw[q];simp⟩⟩
theorem Un.refl:Un fs ex H H h h:=Un.kept fun _ _ q=>q
theorem Un.laid(k:∀ b u,h.get? b=some u→h'.get? b=some u)(hp:h.objs.size≤a)(hn:H a=none):Un fs ex H (upd H a o) h h' where
 keep:=fun b u q _ _ _=>k b u q
 slot:=fun b u q _ _ _=>⟨u.slots,k b u q⟩
 free:=fun b u q n _=>by rw[z0m (Nat.ne_of_lt (Nat.lt_of_lt_of_le (Heap.lt_size q) hp))];exact n
 there:=fun b u q _=>⟨u,k b u q⟩
 tups:=fun b xs q=>by rw[z0m (z29 q hn)];exact q
 frzs:=fun b u xs q=>by rw[z0m (z29 q hn)];exact q
 tbls:=fun b ps q=>⟨#[],by rw[z0m (z29 q hn),q];simp⟩
theorem Un.write(mu:Mut (H x))(he:e=x∨H e=some (.own x))(k:∀ b u,b≠e→h.get? b=some u→h'.get? b=some u)(heo:∃ u,h'.get? e=some u):Un fs ex H (upd H x o) h h':=by
 have hx:∀ b,H b=none→b≠x:=fun b n z=>by subst z;rw[n]at mu;exact mu
 have hb:∀ b,H b=none→b≠e:=fun b n z=>by
   subst z
   rcases he with r|r
   · exact hx b n r
   · rw[n]at r;cases r
 have hm:∀ b u,H b=some u→¬Mut (some u)→b≠x:=fun b u q nm z=>by subst z;rw[q]at mu;exact nm mu
 refine⟨fun b u q n _ _=>k b u (hb b n) q,fun b u q n _ _=>⟨u.slots,k b u (hb b n) q⟩,fun b u q n _=>by rw[z0m (hx b n)];exact n,fun b u q _=>?_,
   fun b xs q=>by rw[z0m (hm b _ q fun z=>z)];exact q,fun b u xs q=>by rw[z0m (hm b _ q fun z=>z)];exact q,fun b ps q=>⟨#[],by rw[z0m (hm b _ q fun z=>z),q];simp⟩⟩
 by_cases hbe:b=e
 · subst hbe;exact heo
 · exact⟨u,k b u hbe q⟩
theorem Un.mono(u:Un fs ex H H1 h h1)(hs:∀ b∈fs,b∈fs')(hx:∀ b∈ex,b∈ex'):Un fs' ex' H H1 h h1 :=
 ⟨fun b ob q n hb he=>u.keep b ob q n (fun z=>hb (hs b z)) fun z=>he (hx b z),fun _ _ q n _ he=>u.any q n fun z=>he (hx _ z),fun b ob q n he=>u.free b ob q n fun z=>he (hx b z),fun b ob q he=>u.there b ob q fun z=>he (hx b z),u.tups,u.frzs,u.tbls⟩
end
def trk(h:Heap)(H:Hp):List Addr:=(List.range h.objs.size).filter fun a=>(H a).isSome
def hidT(h:Heap)(H:Hp):Heap:=PySem.W.hideAll h (trk h H)
theorem zgU(h:Heap)(H:Hp):(hidT h H).objs.size=h.objs.size:=PySem.W.hideAll_size _ _
theorem zhH{h:Heap}{H:Hp}{b:Addr}{o:Obj}(e:h.get? b=some o)(n:H b=none):(hidT h H).get? b=some o :=
 PySem.W.hideAll_get _ e fun hm=>by
  have q:(H b).isSome=true:=(List.mem_filter.mp hm).2
  rw[n]at q;simp at q
theorem zlr{h:Heap}{H:Hp}{b:Addr}{o:Obj}(e:(hidT h H).get? b=some o):h.get? b=some o∧H b=none:=by
 have e':h.get? b=some o:=PySem.W.of_hideAll (trk h H) e
 refine⟨e',?_⟩
 cases q:H b with
 | none=>rfl
 | some x =>
  have hm:b∈trk h H:=List.mem_filter.mpr ⟨List.mem_range.mpr (Heap.lt_size e'),by simp[q]⟩
  have z:(hidT h H).get? b=none:=PySem.W.hideAll_none (trk h H) hm
  rw[z]at e;cases e
def zls(g h:Heap)(L:Addr):List (Addr×Obj):=(List.range h.objs.size).filterMap fun a=>if a=L∨(g.get? a).isSome=true then none else(h.get? a).map fun o=>(a,o)
def rest(g h:Heap)(L d:Addr):List (Addr×Obj):=(zls g h L).filter fun p=>decide (p.1≠d)
end L2
namespace L2
open PySem PySem.Spec PyProof.Rows
structure Mod(K:PySem.W.Frag)(mg:Str→Option Value)(base:Heap):Prop where
 kin:K.In base
 glob:base.Ns mainGlobals mg
 blt:∃ mb,base.Ns builtinsNs mb∧∀ x:Str,x ≠ "__name__" → mb x=bootBuiltins x
 nolimit:base.NoLimit
structure Cx where
 prog:Program
 w:World
 K:PySem.W.Frag
 mg:Str→Option Value
 base:Heap
 A:Around
 N:List Str
 s₀:Shared
 H₀:Hp
 env:Env
 outer:List Env
 stack:List Env
 ex:List Addr
 fn:Str→Bool
 calm:Bool
 pn:List (Addr×Obj)
 xe:Value→Shared→Prop
def frs(l:List Env):List Addr:=l.filterMap (·.frame)
abbrev Cx.fs(X:Cx):List Addr:=frs X.outer
def Vis(sc:Scope)(x:Str):Prop:=sc.names.lookup x=some .local∨sc.names.lookup x=some .cell∨sc.names.lookup x=some .free
def Loc(sc:Scope)(x:Str):Prop:=sc.names.lookup x=some .local∨sc.names.lookup x=some .cell
def Look(env:Env)(h:Heap)(m:Str→Option Value)(x:Str)(u:Value):Prop :=
 (env.kindOf x=some .local∧m x=some u)∨((env.kindOf x=some .cell∨env.kindOf x=some .free)∧∃ c,env.cells.lookup x=some c∧h.IsCell c (some u))
structure Cx.Ok(X:Cx):Prop where
 mod:Mod X.K X.mg X.base
 kind:X.env.scope.kind = .function
 glob:X.env.globals=mainGlobals
 blt:X.env.builtins=builtinsNs
 above:X.s₀.heap.objs.size≤X.env.locals
 inj:∀ x y c,X.env.cells.lookup x=some c→X.env.cells.lookup y=some c→x=y
 has:∀ x,(X.env.kindOf x=some .cell∨X.env.kindOf x=some .free)→∃ c,X.env.cells.lookup x=some c
 cab:∀ x c,X.fn x=true→X.env.cells.lookup x=some c→X.s₀.heap.objs.size≤c
 hd:X.calm=true→X.A.handled=none
 frames:X.A.frames=some X.stack
 stk:X.stack=X.outer∨(X.stack=X.env::X.outer∧X.env.frame=some X.env.locals)
 exf:∀ b∈X.ex,b≠X.env.locals∧∀ x c,X.env.cells.lookup x=some c→c≠b
 bs:∀ b o,X.base.get? b=some o→X.s₀.heap.get? b=some o∧X.H₀ b=none
 bsz:X.base.objs.size≤X.s₀.heap.objs.size
 noex:∀ b o,X.base.get? b=some o→b ∉ X.ex
 exfs:∀ b∈X.ex,b ∉ X.fs
 funs:X.s₀.heap.FunFrames X.base X.outer
 frf:∀ b∈X.fs,X.H₀ b=none
structure Inv(X:Cx)(pins:List (Addr×Obj))(σ:List (Option V))(H:Hp)(s:Shared):Prop where
 ok:X.Ok
 os:s.os=X.s₀.os
 bare:AllBare s.gens
 base:Un X.fs X.ex X.H₀ H X.s₀.heap s.heap
 loc:∃ m,s.heap.Ns X.env.locals m∧∀(i:Nat) (x:Str) (v:V),X.N[i]?=some x→σ[i]?=some (some v)→Vis X.env.scope x→∃ u,RelV v u∧Look X.env s.heap m x u
 cell:∀ x c,X.env.cells.lookup x=some c→∃ v,s.heap.IsCell c v
 free:H X.env.locals=none
 freeC:∀ x c,X.env.cells.lookup x=some c→H c=none
 pin:∀ p∈X.pn++pins,s.heap.get? p.1=some p.2∧H p.1=none∧p.1≠X.env.locals∧p.1 ∉ X.fs∧∀ v,p.2.data ≠ .cell v
 hok:HOk X.prog X.w H s.heap
 len:σ.length=X.N.length
section
variable {X:Cx}{pins:List (Addr×Obj)}{σ:List (Option V)}{H H':Hp}{s:Shared}{h':Heap}
theorem Cx.Ok.nofr(ok:X.Ok){b:Addr}{o:Obj}(e:X.base.get? b=some o):b ∉ X.fs:=fun hb=>by
 have:=(ok.funs.mem hb).1
 rw[e]at this;cases this
theorem Inv.bs(I:Inv X pins σ H s):∀ b o,X.base.get? b=some o→s.heap.get? b=some o∧H b=none:=fun b o e =>
 ⟨I.base.keep b o (I.ok.bs b o e).1 (I.ok.bs b o e).2 (I.ok.nofr e) (I.ok.noex b o e),I.base.free b o (I.ok.bs b o e).1 (I.ok.bs b o e).2 (I.ok.noex b o e)⟩
theorem Inv.bk(I:Inv X pins σ H s):∀ b o,X.base.get? b=some o→s.heap.get? b=some o:=fun b o e=>(I.bs b o e).1
theorem Inv.mod(I:Inv X pins σ H s):Mod X.K X.mg X.base:=I.ok.mod
theorem Inv.kIn(I:Inv X pins σ H s):X.K.In s.heap:=I.ok.mod.kin.keeps I.bk
theorem Inv.nolimit(I:Inv X pins σ H s):s.heap.NoLimit:=I.ok.mod.nolimit.keeps I.bk
theorem Inv.fr(I:Inv X pins σ H s):∃ m,Fr X.base X.env.locals s.heap m :=
 let ⟨m,hn,_⟩:=I.loc
 ⟨m,hn,I.bk,Nat.le_trans I.ok.bsz I.ok.above⟩
theorem Inv.lt(I:Inv X pins σ H s):X.env.locals<s.heap.objs.size:=let ⟨_,hn,_⟩:=I.loc;hn.lt
theorem Inv.sz(I:Inv X pins σ H s):X.s₀.heap.objs.size≤s.heap.objs.size:=Nat.le_trans I.ok.above (Nat.le_of_lt I.lt)
theorem Inv.nofs(I:Inv X pins σ H s){a:Addr}(h:s.heap.objs.size≤a):a ∉ X.fs:=fun hb=>by
 obtain⟨_,o,ho,_⟩:=I.ok.funs.mem hb
 exact absurd (Nat.lt_of_lt_of_le (Heap.lt_size ho) (Nat.le_trans I.sz h)) (Nat.lt_irrefl _)
theorem Inv.cne(I:Inv X pins σ H s):∀ x c,X.env.cells.lookup x=some c→c≠X.env.locals:=fun x c e z=>by
 obtain⟨v,o,ho,hd⟩:=I.cell x c e
 obtain⟨m,⟨o',es,ep,ho',hd',_⟩,_⟩:=I.loc
 rw[z,ho']at ho;cases ho;rw[hd']at hd;cases hd
theorem Inv.funs(I:Inv X pins σ H s):s.heap.FunFrames X.base X.outer:=by
 have all:∀(l:List Env),(∀ b∈frs l,b∈X.fs)→X.s₀.heap.FunFrames X.base l→s.heap.FunFrames X.base l:=by
  intro l
  induction l with
  | nil=>intro _ _;trivial
  | cons env r ih =>
   intro hs hl
   obtain⟨hk,⟨L,o,hf,hn,ho,hd⟩,hr⟩:=hl
   have hL:L∈X.fs:=hs L (by unfold frs;rw[List.filterMap_cons,hf];exact List.mem_cons_self)
   obtain⟨sl,e⟩:=I.base.slot L o ho (I.ok.frf L hL) hL fun z=>I.ok.exfs L z hL
   exact⟨hk,⟨L,_,hf,hn,e,hd⟩,ih (fun b hb=>hs b (by unfold frs;rw[List.filterMap_cons,hf];exact List.mem_cons_of_mem _ hb)) hr⟩
 exact all X.outer (fun _ hb=>hb) I.ok.funs
theorem Inv.stack(I:Inv X pins σ H s):s.heap.FunFrames X.base X.stack:=by
 rcases I.ok.stk with e|⟨e,hf⟩
 · rw[e];exact I.funs
 · rw[e]
   obtain⟨m,hn,_⟩:=I.loc
   refine .cons (by rw[I.ok.kind];decide) hf hn ?_ I.funs
   exact Heap.get?_none_of_le (Nat.le_trans I.ok.bsz I.ok.above)
theorem Inv.stkSub(I:Inv X pins σ H s):∀ b∈frs X.stack,b∈X.env.locals::X.fs:=fun b hb=>by
 rcases I.ok.stk with e|⟨e,hf⟩
 · rw[e]at hb;exact List.mem_cons_of_mem _ hb
 · rw[e]at hb
   unfold frs at hb
   rw[List.filterMap_cons,hf]at hb
   exact hb
theorem Inv.stkFree(I:Inv X pins σ H s):∀ b∈frs X.stack,H b=none:=fun b hb=>by
 rcases List.mem_cons.mp (I.stkSub b hb)with e|hb
 · rw[e];exact I.free
 · obtain⟨_,o,ho,_⟩:=I.ok.funs.mem hb
   exact I.base.free b o ho (I.ok.frf b hb) fun z=>I.ok.exfs b z hb
theorem Inv.step{g':Array GenState}{t':Nat}{d':Drawn}{ch:List Addr}(I:Inv X pins σ H s)
   (hch:∀ b∈ch,(b∈X.ex∨X.s₀.heap.objs.size≤b)∧b≠X.env.locals∧(∀ x c,X.env.cells.lookup x=some c→c≠b)∧∀ p∈X.pn++pins,p.1≠b)
   (keep:∀ b o,b≠X.env.locals→b ∉ X.fs→b ∉ ch→s.heap.get? b=some o→H b=none→h'.get? b=some o)
   (slot:∀ b o,b≠X.env.locals→b∈X.fs→b ∉ ch→s.heap.get? b=some o→H b=none→∃ sl,h'.get? b=some { o with slots:=sl }) (free:∀ b o,b ∉ ch→s.heap.get? b=some o→H b=none→H' b=none)
   (there:∀ b o,b ∉ ch→s.heap.get? b=some o→∃ o',h'.get? b=some o')
   (tups:∀ b xs,H b=some (.tup xs)→H' b=some (.tup xs)) (frzs:∀ b o u,H b=some (.frz o u)→H' b=some (.frz o u)) (tbls:∀ b ps,H b=some (.tbl ps)→∃ more,H' b=some (.tbl (ps++more)))
   (ns:∀ m,s.heap.Ns X.env.locals m→h'.Ns X.env.locals m) (hok:HOk X.prog X.w H' h') (hg:AllBare g') :
   Inv X pins σ H' { s with heap:=h',gens:=g',drawn:=d',toks:=t' }:=by
 have neL:∀ b o,X.s₀.heap.get? b=some o→b≠X.env.locals:=fun b o e=>Nat.ne_of_lt (Nat.lt_of_lt_of_le (Heap.lt_size e) I.ok.above)
 have neC:∀ b o,X.s₀.heap.get? b=some o→b ∉ X.ex→b ∉ ch:=fun b o e hx hb=>by
   rcases(hch b hb).1 with z|z
   · exact hx z
   · exact absurd (Nat.lt_of_lt_of_le (Heap.lt_size e) z) (Nat.lt_irrefl _)
 have cellK:∀ x c,X.env.cells.lookup x=some c→∀ v,s.heap.IsCell c v→h'.IsCell c v:=fun x c e v hZ=>hZ.elim fun o hZ=>hZ.elim fun ho hd=>by
   have nch:c ∉ ch:=fun z=>(hch c z).2.2.1 x c e rfl
   by_cases hc:c∈X.fs
   · obtain⟨sl,q⟩:=slot c o (I.cne x c e) hc nch ho (I.freeC x c e)
     exact⟨_,q,hd⟩
   · exact⟨o,keep c o (I.cne x c e) hc nch ho (I.freeC x c e),hd⟩
 refine⟨I.ok,I.os,hg,⟨fun b o e n hb hx=>?_,fun b o e n hb hx=>?_,fun b o e n hx=>?_,fun b o e hx=>?_,fun b xs e=>tups b xs (I.base.tups b xs e),fun b o xs e=>frzs b o xs (I.base.frzs b o xs e),fun b ps e=>?_⟩,?_,fun x c e=>?_,?_,fun x c e=>?_,fun p hp=>?_,hok,I.len⟩
 · exact keep b o (neL b o e) hb (neC b o e hx) (I.base.keep b o e n hb hx) (I.base.free b o e n hx)
 · obtain⟨sl,e1⟩:=I.base.slot b o e n hb hx
   obtain⟨sl',e2⟩:=slot b _ (neL b o e) hb (neC b o e hx) e1 (I.base.free b o e n hx)
   exact⟨sl',e2⟩
 · obtain⟨o',e1⟩:=I.base.there b o e hx
   exact free b o' (neC b o e hx) e1 (I.base.free b o e n hx)
 · obtain⟨o',e1⟩:=I.base.there b o e hx
   exact there b o' (neC b o e hx) e1
 · obtain⟨m1,e1⟩:=I.base.tbls b ps e
   obtain⟨m2,e2⟩:=tbls b _ e1
   exact⟨m1++m2,by rw[e2,Array.append_assoc]⟩
 · obtain⟨m,hn,hl⟩:=I.loc
   refine⟨m,ns m hn,fun i x v e1 e2 e3=>?_⟩
   obtain⟨u,r,l⟩:=hl i x v e1 e2 e3
   refine⟨u,r,?_⟩
   rcases l with l|⟨k,c,e,z⟩
   · exact .inl l
   · exact .inr ⟨k,c,e,cellK x c e _ z⟩
 · obtain⟨v,z⟩:=I.cell x c e
   exact⟨v,cellK x c e v z⟩
 · obtain⟨m,⟨o,_,_,ho,_⟩,_⟩:=I.loc
   exact free _ o (fun z=>(hch _ z).2.1 rfl) ho I.free
 · obtain⟨v,o,ho,hd⟩:=I.cell x c e
   exact free c o (fun z=>(hch c z).2.2.1 x c e rfl) ho (I.freeC x c e)
 · obtain⟨e,n,ne,nf,d⟩:=I.pin p hp
   have nch:p.1 ∉ ch:=fun z=>(hch p.1 z).2.2.2 p hp rfl
   exact⟨keep p.1 p.2 ne nf nch e n,free p.1 p.2 nch e n,ne,nf,d⟩
theorem Inv.un{t':Nat}(I:Inv X pins σ H s)(u:Un X.fs [] H H' s.heap h')(hok:HOk X.prog X.w H' h'):Inv X pins σ H' { s with heap:=h',toks:=t' }:=by
 obtain⟨m,⟨o,es,ep,ho,r⟩,_⟩:=id I.loc
 obtain⟨sl,hL⟩:=u.any ho I.free (by simp)
 exact I.step (g':=s.gens) (d':=s.drawn) (ch:=[]) (fun _ z=>nomatch z) (fun b o _ hb _ e n=>u.keep b o e n hb (by simp)) (fun b o _ hb _ e n=>u.slot b o e n hb (by simp)) (fun b o _ e n=>u.free b o e n (by simp)) (fun b o _ e=>u.there b o e (by simp)) u.tups u.frzs u.tbls (fun m' hm=>by
  obtain⟨o',es',ep',ho',r'⟩:=hm
  rw[ho]at ho';cases ho'
  exact⟨_,es',ep',hL,r'⟩) hok I.bare
theorem Inv.call{g':Array GenState}{t':Nat}{d':Drawn}{ch:List Addr}(I:Inv X pins σ H s)(u:Un (frs X.stack) ch H H' s.heap h')(hok:HOk X.prog X.w H' h')(hg:AllBare g')
  (hch:∀ b∈ch,(b∈X.ex∨X.s₀.heap.objs.size≤b)∧b≠X.env.locals∧(∀ x c,X.env.cells.lookup x=some c→c≠b)∧∀ p∈X.pn++pins,p.1≠b) :
  Inv X pins σ H' { s with heap:=h',gens:=g',drawn:=d',toks:=t' }:=by
 obtain⟨m,⟨o,es,ep,ho,r⟩,_⟩:=id I.loc
 obtain⟨sl,hL⟩:=u.any ho I.free fun z=>(hch _ z).2.1 rfl
 exact I.step (ch:=ch) hch (fun b o hL hb hc e n=>u.keep b o e n (fun z=>(List.mem_cons.mp (I.stkSub b z)).elim hL hb) hc) (fun b o _ _ hc e n=>u.any e n hc) (fun b o hc e n=>u.free b o e n hc) (fun b o hc e=>u.there b o e hc) u.tups u.frzs u.tbls (fun m' hm=>by
  obtain⟨o',es',ep',ho',r'⟩:=hm
  rw[ho]at ho';cases ho'
  exact⟨_,es',ep',hL,r'⟩) hok hg
theorem Inv.turned{t':Nat}{it:Addr}(I:Inv X pins σ H s)(k:∀ b o,b≠it→s.heap.get? b=some o→h'.get? b=some o)(hn:H it=none)(hL:it≠X.env.locals)
   (h1:it∈X.ex∨X.s₀.heap.objs.size≤it) (h2:∀ x c,X.env.cells.lookup x=some c→c≠it) (h3:∀ p∈X.pn++pins,p.1≠it):Inv X pins σ H { s with heap:=h',toks:=t' }:=by
 have nit:∀ b u,H b=some u→b≠it:=fun b u e z=>by rw[z,hn]at e;cases e
 refine I.step (g':=s.gens) (d':=s.drawn) (ch:=[it]) (fun b hb=>?_) (fun b o _ _ hc e _=>k b o (fun z=>hc (by simp[z])) e) (fun b o _ _ hc e _=>⟨o.slots,k b o (fun z=>hc (by simp[z])) e⟩) (fun _ _ _ _ n=>n)
   (fun b o hc e=>⟨o,k b o (fun z=>hc (by simp[z])) e⟩) (fun _ _ e=>e) (fun _ _ _ e=>e) (fun b ps e=>⟨#[],by rw[e];simp⟩) (fun m hm=>?_) (fun b u e=>?_) I.bare
 · have e:b=it:=by simpa using hb
   subst e
   exact⟨h1,hL,h2,h3⟩
 · obtain⟨o,es,ep,ho,r⟩:=hm
   exact⟨o,es,ep,k _ o (Ne.symm hL) ho,r⟩
 · refine(I.hok b u e).stay (fun c v hc q=>k c v ?_ q) (fun _ q=>q) fun _ _ q=>q
   rcases hc with z|z
   · rw[z];exact nit b u e
   · exact nit c _ z
theorem Inv.tok(I:Inv X pins σ H s)(t:Nat):Inv X pins σ H { s with toks:=t }:=I.un (h':=s.heap) (t':=t) Un.refl I.hok
theorem Inv.kept{t':Nat}(I:Inv X pins σ H s)(k:∀ b u,s.heap.get? b=some u→h'.get? b=some u):Inv X pins σ H { s with heap:=h',toks:=t' }:=I.un (Un.kept k) (I.hok.kept k)
theorem Inv.laid{a:Addr}{o:HO}{t':Nat}(I:Inv X pins σ H s)(k:∀ b u,s.heap.get? b=some u→h'.get? b=some u)(hp:s.heap.objs.size≤a)(new:ObjOk X.prog X.w (upd H a o) h' a o):
 Inv X pins σ (upd H a o) { s with heap:=h',toks:=t' }:=I.un (Un.laid k hp (I.hok.fresh hp)) (I.hok.laid k hp new)
theorem Inv.write{x e:Addr}{o:HO}{t':Nat}(I:Inv X pins σ H s)(mu:Mut (H x))(he:e=x∨H e=some (.own x))(k:∀ b u,b≠e→s.heap.get? b=some u→h'.get? b=some u)(heo:∃ u,h'.get? e=some u)
 (new:ObjOk X.prog X.w (upd H x o) h' x o):Inv X pins σ (upd H x o) { s with heap:=h',toks:=t' }:=I.un (Un.write mu he k heo) (I.hok.write mu he k heo new)
theorem Inv.weak{σ':List (Option V)}(I:Inv X pins σ H s)(hl:σ'.length=σ.length)(w:∀(i:Nat) v,σ'[i]?=some (some v)→σ[i]?=some (some v)):Inv X pins σ' H s :=
 ⟨I.ok,I.os,I.bare,I.base,let ⟨m,hn,hl'⟩:=I.loc;⟨m,hn,fun i x v e1 e2 e3=>hl' i x v e1 (w i v e2) e3⟩,I.cell,I.free,I.freeC,I.pin,I.hok,hl.trans I.len⟩
theorem Inv.pins_of{pins':List (Addr×Obj)}(I:Inv X pins σ H s)(h:∀ p∈pins',s.heap.get? p.1=some p.2∧H p.1=none∧p.1≠X.env.locals∧p.1 ∉ X.fs∧∀ v,p.2.data ≠ .cell v):Inv X pins' σ H s :=
 ⟨I.ok,I.os,I.bare,I.base,I.loc,I.cell,I.free,I.freeC,fun p hp=>(List.mem_append.mp hp).elim (fun z=>I.pin p (List.mem_append_left _ z)) (h p),I.hok,I.len⟩
theorem z7U{N:List Str}(hN:N.Nodup){i j:Nat}{x:Str}(a:N[i]?=some x)(b:N[j]?=some x):i=j:=by
 obtain⟨h1,e1⟩:=List.getElem?_eq_some_iff.mp a
 obtain⟨h2,e2⟩:=List.getElem?_eq_some_iff.mp b
 exact(List.getElem_inj hN).mp (e1.trans e2.symm)
theorem z9o{M:Model}{A:Around}{E:Value→Shared→Prop}{i:Nat}{x:Str}{v:V}{u:Value}{Q:Unit→Shared→Prop}(I:Inv X pins σ H s)(hN:X.N.Nodup)(hi:X.N[i]?=some x)(hx:Loc X.env.scope x)(r:RelV v u)
   (h:∀ s',Inv X pins (σ.set i (some v)) H s'→(∃ a,Heap.SameBut a s.heap s'.heap∧(a=X.env.locals∨X.env.cells.lookup x=some a))→Q () s') (hf:X.fn x=true∨X.env.scope.names.lookup x=some .local:=by first|exact .inl rfl|exact .inr rfl|assumption):wpAny M A (storeName X.env x u) Q E s:=by
 obtain⟨m,hn,hl⟩:=id I.loc
 have hcls:(X.env.scope.kind == .class||(X.env.scope.kind == .module&&X.env.locals != X.env.globals))=false:=by rw[I.ok.kind];rfl
 have hiσ:i<σ.length:=by rw[I.len];exact(List.getElem?_eq_some_iff.mp hi).1
 have cne:=I.cne
 have tracked:∀{a:Addr} {h':Heap},(∃ o,s.heap.get? a=some o∧H a=none)→Heap.SameBut a s.heap h'→HOk X.prog X.w H h':=fun{a h'} ha hs b ob e=>by
   obtain⟨_,_,hfree⟩:=ha
   refine(I.hok b ob e).stay (fun c w' hc q=>(hs.2 c ?_).trans q) (fun _ q=>q) fun _ _ q=>q
   rintro rfl
   rcases hc with rfl|hc
   · rw[hfree]at e;cases e
   · rw[hfree]at hc;cases hc
 rcases hx with hk|hk
 · refine wpAny_storeName_local hk hn (fun h' hn' hs=>?_) hcls
   obtain⟨oL,_,_,hoL,_⟩:=id hn
   refine h _ ⟨I.ok,I.os,I.bare,⟨fun b o e n hb hx=>?_,fun b o e n hb hx=>?_,I.base.free,fun b o e hx=>?_,I.base.tups,I.base.frzs,I.base.tbls⟩,⟨_,hn',fun j y v' e1 e2 e3=>?_⟩,fun y c e=>?_,I.free,I.freeC,fun p hp=>?_,tracked ⟨oL,hoL,I.free⟩ hs,by simpa using I.len⟩ ⟨_,hs,.inl rfl⟩
   · exact(hs.2 b (Nat.ne_of_lt (Nat.lt_of_lt_of_le (Heap.lt_size e) I.ok.above))).trans (I.base.keep b o e n hb hx)
   · obtain⟨sl,e1⟩:=I.base.slot b o e n hb hx
     exact⟨sl,(hs.2 b (Nat.ne_of_lt (Nat.lt_of_lt_of_le (Heap.lt_size e) I.ok.above))).trans e1⟩
   · obtain⟨o',e1⟩:=I.base.there b o e hx
     exact⟨o',(hs.2 b (Nat.ne_of_lt (Nat.lt_of_lt_of_le (Heap.lt_size e) I.ok.above))).trans e1⟩
   · by_cases hj:j=i
     · subst hj
       rw[hi]at e1;cases e1
       rw[List.getElem?_set_self hiσ]at e2
       cases e2
       exact⟨u,r,.inl ⟨hk,by simp⟩⟩
     · rw[List.getElem?_set_ne (Ne.symm hj)]at e2
       obtain⟨u',r',q⟩:=hl j y v' e1 e2 e3
       refine⟨u',r',?_⟩
       rcases q with⟨k,e⟩|⟨k,c,e,z⟩
       · refine .inl ⟨k,?_⟩
         have:y≠x:=fun e=>hj (z7U hN e1 (e ▸ hi))
         simp[this,e]
       · exact .inr ⟨k,c,e,z.sameBut hs (cne y c e)⟩
   · obtain⟨w',z⟩:=I.cell y c e
     exact⟨w',z.sameBut hs (cne y c e)⟩
   · obtain⟨e,n,ne,nf,d⟩:=I.pin p hp
     exact⟨(hs.2 p.1 ne).trans e,n,ne,nf,d⟩
 · have hfn:X.fn x=true:=by
     rcases hf with z|z
     · exact z
     · rw[z]at hk;cases hk
   obtain⟨c,hc⟩:=I.ok.has x (.inl hk)
   obtain⟨w',z⟩:=I.cell x c hc
   refine wpAny_storeName_cell I.ok.kind hk hc z (fun h' hc' hs=>?_)
   obtain⟨oc,hoc,hocd⟩:=id z
   refine h { s with heap:=h' } ⟨I.ok,I.os,I.bare,⟨fun b o e n hb hx=>?_,fun b o e n hb hx=>?_,I.base.free,fun b o e hx=>?_,I.base.tups,I.base.frzs,I.base.tbls⟩,⟨m,hn.sameBut hs (Ne.symm (cne x c hc)),fun j y v' e1 e2 e3=>?_⟩,fun y c' e=>?_,I.free,I.freeC,fun p hp=>?_,tracked ⟨oc,hoc,I.freeC x c hc⟩ hs,by simpa using I.len⟩ ⟨c,hs,.inr hc⟩
   · exact(hs.2 b (Nat.ne_of_lt (Nat.lt_of_lt_of_le (Heap.lt_size e) (I.ok.cab x c hfn hc)))).trans (I.base.keep b o e n hb hx)
   · obtain⟨sl,e1⟩:=I.base.slot b o e n hb hx
     exact⟨sl,(hs.2 b (Nat.ne_of_lt (Nat.lt_of_lt_of_le (Heap.lt_size e) (I.ok.cab x c hfn hc)))).trans e1⟩
   · obtain⟨o',e1⟩:=I.base.there b o e hx
     exact⟨o',(hs.2 b (Nat.ne_of_lt (Nat.lt_of_lt_of_le (Heap.lt_size e) (I.ok.cab x c hfn hc)))).trans e1⟩
   · by_cases hj:j=i
     · subst hj
       rw[hi]at e1;cases e1
       rw[List.getElem?_set_self hiσ]at e2
       cases e2
       exact⟨u,r,.inr ⟨.inl hk,c,hc,hc'⟩⟩
     · rw[List.getElem?_set_ne (Ne.symm hj)]at e2
       obtain⟨u',r',q⟩:=hl j y v' e1 e2 e3
       refine⟨u',r',?_⟩
       rcases q with q|⟨k,c',e,z'⟩
       · exact .inl q
       · refine .inr ⟨k,c',e,z'.sameBut hs ?_⟩
         rintro rfl
         exact hj (z7U hN e1 (I.ok.inj _ _ _ e hc ▸ hi))
   · by_cases hcc:c'=c
     · subst hcc;exact⟨_,hc'⟩
     · obtain⟨w2,z2⟩:=I.cell y c' e
       exact⟨w2,z2.sameBut hs hcc⟩
   · obtain⟨e,n,ne,nf,d⟩:=I.pin p hp
     refine⟨(hs.2 p.1 ?_).trans e,n,ne,nf,d⟩
     intro q
     rw[q,hoc]at e
     have q':oc=p.2:=Option.some.inj e
     exact d w' (by rw[←q'];exact hocd)
theorem z7V{M:Model}{A:Around}{E:Value→Shared→Prop}{i:Nat}{x:Str}{v:V}{u:Value}{Q:Unit→Shared→Prop}(I:Inv X pins σ H s)(hN:X.N.Nodup)(hi:X.N[i]?=some x)(hx:Loc X.env.scope x)(r:RelV v u)
  (h:∀ s',Inv X pins (σ.set i (some v)) H s'→Q () s') (hf:X.fn x=true∨X.env.scope.names.lookup x=some .local:=by first|exact .inl rfl|exact .inr rfl|assumption):wpAny M A (storeName X.env x u) Q E s :=
 z9o I hN hi hx r (fun s' I' _=>h s' I') hf
theorem Inv.call'{s':Shared}{ch:List Addr}(I:Inv X pins σ H s)(ho:s'.os=s.os)(u:Un (frs X.stack) ch H H' s.heap s'.heap)(hok:HOk X.prog X.w H' s'.heap)(hg:AllBare s'.gens)
  (hch:∀ b∈ch,(b∈X.ex∨X.s₀.heap.objs.size≤b)∧b≠X.env.locals∧(∀ x c,X.env.cells.lookup x=some c→c≠b)∧∀ p∈X.pn++pins,p.1≠b):Inv X pins σ H' s':=by
 obtain⟨h',g',d',t',o'⟩:=s'
 have e:o'=s.os:=ho
 subst e
 exact I.call (g':=g') (t':=t') (d':=d') u hok hg hch
end
abbrev XK:=Value→Option Addr→Hp→Prop
abbrev St:=List (Option V)
abbrev VK:=V→Hp→Prop
abbrev TE:=St→Hp→VK→Prop
abbrev TT:=St→Hp→(Bool→Hp→Prop)→Prop
abbrev TA:=St→Hp→(List V→Hp→Prop)→Prop
structure Ends where
 nx:St→Hp→Prop
 rt:VK
 bk:St→Hp→Prop:=fun _ _=>False
 ct:St→Hp→Prop:=fun _ _=>False
abbrev TS:=Ends→St→Hp→Prop
def EP(X:Cx)(pins:List (Addr×Obj))(σ:St)(Q:VK)(u:Value)(s':Shared):Prop:=∃ v H',Inv X pins σ H' s'∧RelV v u∧Q v H'
def TP(X:Cx)(pins:List (Addr×Obj))(σ:St)(Q:Bool→Hp→Prop)(b:Bool)(s':Shared):Prop:=∃ H',Inv X pins σ H' s'∧Q b H'
def AP(X:Cx)(pins:List (Addr×Obj))(σ:St)(Q:List V→Hp→Prop)(us:List Value)(s':Shared):Prop:=∃ vs H',Inv X pins σ H' s'∧Vals vs us∧Q vs H'
def SP(X:Cx)(pins:List (Addr×Obj))(D:Ends)(f:Flow)(s':Shared):Prop :=
 match f with
 | .next=>∃ σ' H',Inv X pins σ' H' s'∧D.nx σ' H'
 | .brk=>∃ σ' H',Inv X pins σ' H' s'∧D.bk σ' H'
 | .cont=>∃ σ' H',Inv X pins σ' H' s'∧D.ct σ' H'
 | .ret u=>∃ v σ' H',Inv X pins σ' H' s'∧RelV v u∧D.rt v H'
def PE(X:Cx)(e:Expr)(t:TE):Prop :=
 ∀(pins:List (Addr×Obj)) (s:Shared) (σ:St) (H:Hp) (Q:VK),Inv X pins σ H s→t σ H Q→wpAny (model X.prog X.w) X.A (eval e X.env) (EP X pins σ Q) X.xe s
def PT(X:Cx)(e:Expr)(t:TT):Prop :=
 ∀(pins:List (Addr×Obj)) (s:Shared) (σ:St) (H:Hp) (Q:Bool→Hp→Prop),Inv X pins σ H s→t σ H Q→wpAny (model X.prog X.w) X.A (isTrue e X.env (eval e X.env)) (TP X pins σ Q) X.xe s
def PW(X:Cx)(e:Expr)(t:TT):Prop :=
 ∀(whole:Sem Value) (pins:List (Addr×Obj)) (s:Shared) (σ:St) (H:Hp) (Q:Bool→Hp→Prop),Inv X pins σ H s→t σ H Q→wpAny (model X.prog X.w) X.A (isTrue e X.env whole) (TP X pins σ Q) X.xe s
theorem PW.pt{X:Cx}{e:Expr}{t:TT}(h:PW X e t):PT X e t:=h _
def PA(X:Cx)(es:List Expr)(t:TA):Prop :=
 ∀(pos:Pos) (pins:List (Addr×Obj)) (s:Shared) (σ:St) (H:Hp) (Q:List V→Hp→Prop),Inv X pins σ H s→t σ H Q→wpAny (model X.prog X.w) X.A (spliced (backTo pos (starEach es X.env))) (AP X pins σ Q) X.xe s
def PS(X:Cx)(st:Stmt)(t:TS):Prop :=
 ∀(pins:List (Addr×Obj)) (s:Shared) (σ:St) (H:Hp) (D:Ends),Inv X pins σ H s→t D σ H→wpAny (model X.prog X.w) X.A (exec st X.env) (SP X pins D) X.xe s
def PSs(X:Cx)(st:List Stmt)(t:TS):Prop :=
 ∀(pins:List (Addr×Obj)) (s:Shared) (σ:St) (H:Hp) (D:Ends),Inv X pins σ H s→t D σ H→wpAny (model X.prog X.w) X.A (execs st X.env) (SP X pins D) X.xe s
theorem thn{α:Type}{t:Sem α}{Q Q':α→Shared→Prop}{M:Model}{A:Around}{E:Value→Shared→Prop}{s:Shared}(h:wpAny M A t Q E s)(hQ:∀ a s,Q a s→Q' a s):wpAny M A t Q' E s:=wpAny_mono h hQ fun _ _ x=>x
end L2
namespace L2
open PySem PySem.Spec PyProof.Rows
section
variable {X:Cx}
def tVar(i:Nat):TE:=fun σ H Q=>∃ v,σ[i]?=some (some v)∧Q v H
def tC(v:V):TE:=fun _ H Q=>Q v H
theorem z7W{i:Nat}{x:Str}{pos:Pos}(hN:X.N[i]?=some x)(hv:Vis X.env.scope x)(hd:(x==("__debug__" : Str))=false:=by decide)(hcd:(x==("__classdict__" : Str))=false:=by decide):PE X (.Name x pos) (tVar i):=by
 intro pins s σ H Q I h
 obtain⟨v,e,h⟩:=h
 obtain⟨m,hn,hl⟩:=I.loc
 obtain⟨u,r,l⟩:=hl i x v hN e hv
 have fin:EP X pins σ Q u s:=⟨v,H,I,r,h⟩
 rcases l with⟨hk,hm⟩|⟨hk,c,hc,hcell⟩
 · exact wpAny_Name (wpAny_loadName_local I.ok.kind hk hn hm fin) hd
 · rcases hk with hk|hk
   · exact wpAny_Name (wpAny_loadName_cell I.ok.kind hk hc hcell fin) hd
   · exact wpAny_Name (wpAny_loadName_free I.ok.kind hk hc hcell fin hcd) hd
theorem pe_int{i j pos}:PE X (.Constant (.int i) j pos) (tC (.int i)):=fun _ _ _ H _ I h=>wpAny_Constant_int ⟨.int i,H,I.tok _,⟨_,rfl⟩,h⟩
theorem pe_bl{b j pos}:PE X (.Constant (.bool b) j pos) (tC (.bl b)):=fun _ _ _ H _ I h=>Constant_bool ⟨.bl b,H,I,rfl,h⟩
theorem pe_non{j pos}:PE X (.Constant .none j pos) (tC .non):=fun _ _ _ H _ I h=>Constant_none ⟨.non,H,I,rfl,h⟩
theorem pe_str{x j pos}:PE X (.Constant (.str x) j pos) (tC (.str x)):=fun _ _ _ H _ I h=>Calls.Constant_str ⟨.str x,H,I.tok _,⟨_,rfl⟩,h⟩
def Gl(X:Cx)(x:Str):Prop:=X.env.kindOf x=some .globalImplicit
theorem z5L{E:Value→Shared→Prop}{pins:List (Addr×Obj)}{s:Shared}{σ:St}{H:Hp}{x:Str}{u:Value}{pos:Pos}{Q:Value→Shared→Prop}(I:Inv X pins σ H s)(hg:Gl X x)(hm:X.mg x=some u)(h:Q u s)
  (hd:(x==("__debug__" : Str))=false:=by decide):wpAny (model X.prog X.w) X.A (eval (.Name x pos) X.env) Q E s :=
 Calls.Name_function_global I.ok.kind hg (Calls.loadGlobal_global (by rw[I.ok.glob];exact I.mod.glob.keeps I.bk) hm h) hd
theorem z3E{E:Value→Shared→Prop}{pins:List (Addr×Obj)}{s:Shared}{σ:St}{H:Hp}{x:Str}{u:Value}{pos:Pos}{Q:Value→Shared→Prop}(I:Inv X pins σ H s)(hg:Gl X x)(hm:X.mg x=none)(hv:bootBuiltins x=some u)(h:Q u s)
  (hn:x ≠ "__name__" := by decide) (hd:(x==("__debug__" : Str))=false:=by decide):wpAny (model X.prog X.w) X.A (eval (.Name x pos) X.env) Q E s:=by
 obtain⟨mb,h1,h2⟩:=I.mod.blt
 exact Calls.Name_function_global I.ok.kind hg (Calls.loadGlobal_builtin (by rw[I.ok.glob];exact I.mod.glob.keeps I.bk) hm (by rw[I.ok.blt];exact h1.keeps I.bk) ((h2 x hn).trans hv) h) hd
theorem zfU{x:Str}{v:V}{u:Value}{pos:Pos}(hg:Gl X x)(hm:X.mg x=some u)(r:RelV v u)(hd:(x==("__debug__" : Str))=false:=by decide):PE X (.Name x pos) (tC v) :=
 fun _ _ _ H _ I h=>z5L I hg hm ⟨v,H,I,r,h⟩ hd
theorem zlt{x:Str}{v:V}{u:Value}{pos:Pos}(hg:Gl X x)(hm:X.mg x=none)(hv:bootBuiltins x=some u)(r:RelV v u)(hn:x ≠ "__name__" := by decide)(hd:(x==("__debug__" : Str))=false:=by decide):PE X (.Name x pos) (tC v) :=
 fun _ _ _ H _ I h=>z3E I hg hm hv ⟨v,H,I,r,h⟩ hn hd
variable {a b:Expr}{ta tb:TE}{pos:Pos}
variable {tA tB':TT}{rest:List Expr}
def tAnd(t u:TT):TT:=fun σ H Q=>t σ H fun c H1=>if c=true then u σ H1 Q else Q false H1
def tOr(t u:TT):TT:=fun σ H Q=>t σ H fun c H1=>if c=true then Q true H1 else u σ H1 Q
def tNot(t:TT):TT:=fun σ H Q=>t σ H fun c H1=>Q (!c) H1
theorem zlu(ha:PT X a tA):PW X (.BoolOp .And [a] pos) tA:=by
 intro wh pins s σ H Q I h
 refine isTrue_and (thn (ha pins s σ H Q I h) fun c s1 e=>?_)
 cases c with
 | true=>exact isTrue_and_nil e
 | false=>exact e
theorem pw_or1(ha:PT X a tA):PW X (.BoolOp .Or [a] pos) tA:=by
 intro wh pins s σ H Q I h
 refine isTrue_or (thn (ha pins s σ H Q I h) fun c s1 e=>?_)
 cases c with
 | false=>exact isTrue_or_nil e
 | true=>exact e
theorem pw_and(ha:PT X a tA)(hb:PW X (.BoolOp .And (b::rest) pos) tB'):PW X (.BoolOp .And (a::b::rest) pos) (tAnd tA tB'):=by
 intro wh pins s σ H Q I h
 refine isTrue_and (thn (ha pins s σ H _ I h) ?_)
 rintro c s1 ⟨H1,I1,q1⟩
 cases c with
 | true=>exact hb wh pins s1 σ H1 Q I1 q1
 | false=>exact⟨H1,I1,q1⟩
theorem pw_or(ha:PT X a tA)(hb:PW X (.BoolOp .Or (b::rest) pos) tB'):PW X (.BoolOp .Or (a::b::rest) pos) (tOr tA tB'):=by
 intro wh pins s σ H Q I h
 refine isTrue_or (thn (ha pins s σ H _ I h) ?_)
 rintro c s1 ⟨H1,I1,q1⟩
 cases c with
 | true=>exact⟨H1,I1,q1⟩
 | false=>exact hb wh pins s1 σ H1 Q I1 q1
theorem pt_not(ha:PT X a tA):PT X (.UnaryOp .Not a pos) (tNot tA):=by
 intro pins s σ H Q I h
 exact isTrue_not (ha pins s σ H (fun c H1=>Q (!c) H1) I h)
def tAndV(ta tb:TE):TE:=fun σ H Q=>ta σ H fun x H1=>∃ c,x = .bl c∧if c=true then tb σ H1 Q else Q (.bl false) H1
def tNotV(ta:TE):TE:=fun σ H Q=>ta σ H fun x H1=>∃ c,x = .bl c∧Q (.bl (!c)) H1
theorem pe_one{op}{t:TE}(h:PE X a t):PE X (.BoolOp op [a] pos) t:=fun pins s σ H Q I hw=>BoolOp_one (h pins s σ H Q I hw)
theorem pe_and(ha:PE X a ta)(hb:PE X (.BoolOp .And (b::rest) pos) tb):PE X (.BoolOp .And (a::b::rest) pos) (tAndV ta tb):=by
 intro pins s σ H Q I h
 refine BoolOp_and (thn (ha pins s σ H _ I h) ?_)
 rintro v s1 ⟨x,H1,I1,r1,q1⟩
 obtain⟨c,rfl,q1⟩:=q1
 cases r1
 refine wpAny_truthy_bool ?_
 cases c with
 | true=>exact hb pins s1 σ H1 Q I1 q1
 | false=>exact⟨.bl false,H1,I1,rfl,q1⟩
theorem pe_not(ha:PE X a ta):PE X (.UnaryOp .Not a pos) (tNotV ta):=by
 intro pins s σ H Q I h
 refine UnaryOp_ (thn (ha pins s σ H _ I h) ?_)
 rintro v s1 ⟨x,H1,I1,r1,q1⟩
 obtain⟨c,rfl,q1⟩:=q1
 cases r1
 exact not_of (wpAny_truthy_bool ⟨.bl (!c),H1,I1,rfl,q1⟩)
def tIf(t:TT)(ta tb:TE):TE:=fun σ H Q=>t σ H fun c H1=>if c=true then ta σ H1 Q else tb σ H1 Q
theorem zhI{c:Expr}(hc:PT X c tA)(ha:PE X a ta)(hb:PE X b tb):PE X (.IfExp c a b pos) (tIf tA ta tb):=by
 intro pins s σ H Q I h
 refine wpAny_IfExp (thn (hc pins s σ H _ I h) ?_)
 rintro d s1 ⟨H1,I1,q1⟩
 cases d with
 | true=>exact ha pins s1 σ H1 Q I1 q1
 | false=>exact hb pins s1 σ H1 Q I1 q1
end
end L2
namespace L2
open PySem PySem.Spec PyProof.Rows
def SqL(K:PySem.W.Frag)(H:Hp)(a:Addr)(xs:List V):Prop :=
 Rd H a (.lst xs) ∨
  ∃(o:Obj) (its:Array Value) (n:Nat),K.lookup a=some o∧o.cls = .type "list" ∧ o.dict=none∧o.data = .seq its n∧its.size≤sizeLine∧Vals xs its.toList
def SqT(K:PySem.W.Frag)(H:Hp)(a:Addr)(xs:List V):Prop :=
 Rd H a (.tup xs) ∨
  ∃(o:Obj) (its:Array Value) (n:Nat),K.lookup a=some o∧o.cls = .type "tuple" ∧ o.data = .seq its n∧its.size≤sizeLine∧Vals xs its.toList
def absV:Value→Option V
 | .none=>some .non
 | .bool b=>some (.bl b)
 | .int i _=>some (.int i)
 | .str x _=>some (.str x)
 | .bytes b _=>some (.byt b)
 | .float b _=>some (.flt b)
 | .ref a=>some (.ref a)
 | .type n=>some (.ty n)
 | _=>none
theorem RelV.abs{x:V}{u:Value}(r:RelV x u):absV u=some x:=by
 cases x with
 | non=>cases r;rfl
 | bl _=>cases r;rfl
 | int _=>obtain⟨t,rfl⟩:=r;rfl
 | str _=>obtain⟨t,rfl⟩:=r;rfl
 | byt _=>obtain⟨t,rfl⟩:=r;rfl
 | flt _=>obtain⟨t,rfl⟩:=r;rfl
 | ref _=>cases r;rfl
 | ty _=>cases r;rfl
theorem RelV.inj{x y:V}{u:Value}(r:RelV x u)(q:RelV y u):x=y:=Option.some.inj (r.abs.symm.trans q.abs)
theorem Vals.inj:∀{xs ys:List V} {us:List Value},Vals xs us→Vals ys us→xs=ys
 | _,_,_,.nil,.nil=>rfl
 | _,_,_,.cons r t,.cons r' t'=>by rw[r.inj r',Vals.inj t t']
section
variable {X:Cx}{pins:List (Addr×Obj)}{σ:St}{H:Hp}{s:Shared}{a:Addr}{xs ys:List V}
theorem SqL.of{K:PySem.W.Frag}(h:H a=some (.lst xs)):SqL K H a xs := .inl (.inl h)
theorem SqT.of{K:PySem.W.Frag}(h:H a=some (.tup xs)):SqT K H a xs := .inl (.inl h)
theorem Inv.list(I:Inv X pins σ H s)(h:SqL X.K H a xs):∃ its:List Value,Vals xs its∧PlainL s.heap a its.toArray∧xs.length≤sizeLine:=by
 rcases h with h|⟨o,its,n,hk,hc,hd,hs,hz,r⟩
 · obtain⟨z,its,n,r,e⟩:=h.ok I.hok
   exact⟨its,r,⟨_,n,e,rfl,rfl,rfl⟩,z⟩
 · refine⟨its.toList,r,⟨o,n,I.kIn a o hk,hc,hd,by simpa using hs⟩,?_⟩
   have e:=r.length
   simp only[Array.length_toList]at e
   omega
theorem Inv.tuple(I:Inv X pins σ H s)(h:SqT X.K H a xs):∃ its:List Value,Vals xs its∧IsTup s.heap a its.toArray∧xs.length≤sizeLine:=by
 rcases h with h|⟨o,its,n,hk,hc,hs,hz,r⟩
 · obtain⟨z,its,r,p⟩:=h.ok I.hok
   exact⟨its,r,p,z⟩
 · refine⟨its.toList,r,⟨o,I.kIn a o hk,hc,n,by simpa using hs⟩,?_⟩
   have e:=r.length
   simp only[Array.length_toList]at e
   omega
theorem Inv.list_inj(I:Inv X pins σ H s)(h:SqL X.K H a xs)(h':SqL X.K H a ys):xs=ys:=by
 obtain⟨its,r,⟨o,n,e,_,_,d⟩,_⟩:=I.list h
 obtain⟨its',r',⟨o',n',e',_,_,d'⟩,_⟩:=I.list h'
 rw[e]at e';cases e'
 rw[d]at d'
 injection d' with d1 _
 have:its=its':=by simpa using congrArg Array.toList d1
 subst this
 exact r.inj r'
theorem Inv.tuple_inj(I:Inv X pins σ H s)(h:SqT X.K H a xs)(h':SqT X.K H a ys):xs=ys:=by
 obtain⟨its,r,⟨o,e,_,n,d⟩,_⟩:=I.tuple h
 obtain⟨its',r',⟨o',e',_,n',d'⟩,_⟩:=I.tuple h'
 rw[e]at e';cases e'
 rw[d]at d'
 injection d' with d1 _
 have:its=its':=by simpa using congrArg Array.toList d1
 subst this
 exact r.inj r'
end
abbrev Cx.wish(X:Cx)(E:Value→Shared→Prop):Cx:={ X with xe:=E }
abbrev Cx.nox(X:Cx):Cx:=X.wish fun _ _=>False
theorem Cx.Ok.wish{X:Cx}(ok:X.Ok)(E:Value→Shared→Prop):(X.wish E).Ok :=
 ⟨ok.mod,ok.kind,ok.glob,ok.blt,ok.above,ok.inj,ok.has,ok.cab,ok.hd,ok.frames,ok.stk,ok.exf,ok.bs,ok.bsz,ok.noex,ok.exfs,ok.funs,ok.frf⟩
theorem Cx.Ok.unwish{X:Cx}{E:Value→Shared→Prop}(ok:(X.wish E).Ok):X.Ok :=
 ⟨ok.mod,ok.kind,ok.glob,ok.blt,ok.above,ok.inj,ok.has,ok.cab,ok.hd,ok.frames,ok.stk,ok.exf,ok.bs,ok.bsz,ok.noex,ok.exfs,ok.funs,ok.frf⟩
section
variable {X:Cx}{pins:List (Addr×Obj)}{σ:St}{H:Hp}{s:Shared}{E:Value→Shared→Prop}
theorem Inv.wish(I:Inv X pins σ H s)(E:Value→Shared→Prop):Inv (X.wish E) pins σ H s:=⟨I.ok.wish E,I.os,I.bare,I.base,I.loc,I.cell,I.free,I.freeC,I.pin,I.hok,I.len⟩
theorem Inv.unwish(I:Inv (X.wish E) pins σ H s):Inv X pins σ H s:=⟨I.ok.unwish,I.os,I.bare,I.base,I.loc,I.cell,I.free,I.freeC,I.pin,I.hok,I.len⟩
theorem SP.unwish{D:Ends}{f:Flow}{s':Shared}(h:SP (X.wish E) pins D f s'):SP X pins D f s':=by
 cases f with
 | next=>obtain⟨σ',H',I,q⟩:=h;exact⟨σ',H',I.unwish,q⟩
 | brk=>obtain⟨σ',H',I,q⟩:=h;exact⟨σ',H',I.unwish,q⟩
 | cont=>obtain⟨σ',H',I,q⟩:=h;exact⟨σ',H',I.unwish,q⟩
 | ret u=>obtain⟨v,σ',H',I,r,q⟩:=h;exact⟨v,σ',H',I.unwish,r,q⟩
theorem PE.nox{e:Expr}{t:TE}(h:PE X.nox e t):PE X e t:=fun pins s σ H Q I hw =>
 wpAny_mono (h pins s σ H Q (I.wish _) hw) (fun _ _ hZ=>hZ.elim fun v hZ=>hZ.elim fun H' hZ=>hZ.elim fun I' hZ=>hZ.elim fun r q=>⟨v,H',I'.unwish,r,q⟩) fun _ _ z=>False.elim z
theorem PT.nox{e:Expr}{t:TT}(h:PT X.nox e t):PT X e t:=fun pins s σ H Q I hw =>
 wpAny_mono (h pins s σ H Q (I.wish _) hw) (fun _ _ hZ=>hZ.elim fun H' hZ=>hZ.elim fun I' q=>⟨H',I'.unwish,q⟩) fun _ _ z=>False.elim z
theorem PSs.nox{st:List Stmt}{t:TS}(h:PSs X.nox st t):PSs X st t:=fun pins s σ H D I hw =>
 wpAny_mono (h pins s σ H D (I.wish _) hw) (fun _ _ q=>q.unwish) fun _ _ z=>False.elim z
end
section
variable {X:Cx}{st:Stmt}{rest:List Stmt}{t u:TS}{e:Expr}{te:TE}{pos:Pos}
def tNext:TS:=fun D σ H=>D.nx σ H
def tSeq(t u:TS):TS:=fun D σ H=>t { D with nx:=u D } σ H
theorem zlv:PSs X [] tNext:=fun _ _ σ H _ I h=>wpAny_execs_nil ⟨σ,H,I,h⟩
theorem zhJ(h1:PS X st t)(h2:PSs X rest u):PSs X (st::rest) (tSeq t u):=by
 intro pins s σ H D I h
 refine wpAny_execs_cons (thn (h1 pins s σ H { D with nx:=u D } I h) fun f s1 q=>?_)
 cases f with
 | next =>
  obtain⟨σ',H',I',q⟩:=q
  exact h2 pins s1 σ' H' D I' q
 | ret v=>exact q
 | brk=>exact q
 | cont=>exact q
theorem zlw(h1:PS X st t):PSs X [st] t:=by
 intro pins s σ H D I h
 refine wpAny_execs_cons (thn (h1 pins s σ H D I h) fun f s1 q=>?_)
 cases f with
 | next=>exact wpAny_execs_nil q
 | ret v=>exact q
 | brk=>exact q
 | cont=>exact q
theorem Inv.quiet{pins:List (Addr×Obj)}{σ:St}{H:Hp}{s:Shared}(I:Inv X pins σ H s):interactive X.env=false:=by simp[interactive,I.ok.kind]
def tDrop(te:TE):TS:=fun D σ H=>te σ H fun _ H1=>D.nx σ H1
theorem z5M(he:PE X e te)(hs:swapsWith e none pos.line X.env=pure false:=by rfl):PS X (.Expr e pos) (tDrop te):=by
 intro pins s σ H D I h
 exact wpAny_Expr_any (thn (he pins s σ H _ I h) fun v s1 hZ=>hZ.elim fun x hZ=>hZ.elim fun H1 hZ=>hZ.elim fun I1 hZ=>hZ.elim fun r1 q1=>⟨σ,H1,I1,q1⟩) I.quiet hs
def tRet(te:TE):TS:=fun D σ H=>te σ H D.rt
theorem ps_ret(he:PE X e te):PS X (.Return (some e) pos) (tRet te):=by
 intro pins s σ H D I h
 exact wpAny_Return_some (thn (he pins s σ H _ I h) fun v s1 hZ=>hZ.elim fun x hZ=>hZ.elim fun H1 hZ=>hZ.elim fun I1 hZ=>hZ.elim fun r1 q1=>⟨x,σ,H1,I1,r1,q1⟩)
def tIfS(c:TT)(t u:TS):TS:=fun D σ H=>c σ H fun b H1=>if b=true then t D σ H1 else u D σ H1
theorem ps_if{c:Expr}{a b:List Stmt}{tc:TT}(hc:PT X c tc)(ha:PSs X a t)(hb:PSs X b u):PS X (.If c a b pos) (tIfS tc t u):=by
 intro pins s σ H D I h
 refine wpAny_If (thn (hc pins s σ H _ I h) ?_)
 rintro d s1 ⟨H1,I1,q1⟩
 cases d with
 | true=>exact ha pins s1 σ H1 D I1 q1
 | false=>exact hb pins s1 σ H1 D I1 q1
end
abbrev TG:=V→St→Hp→(St→Hp→Prop)→Prop
abbrev TGs:=List V→St→Hp→(St→Hp→Prop)→Prop
def PG(X:Cx)(target:Expr)(t:TG):Prop :=
 ∀(pins:List (Addr×Obj)) (s:Shared) (σ:St) (H:Hp) (v:V) (u:Value) (Q:St→Hp→Prop),Inv X pins σ H s→RelV v u→t v σ H Q →
  wpAny (model X.prog X.w) X.A (assign target X.env u) (fun _ s'=>∃ σ' H',Inv X pins σ' H' s'∧Q σ' H') X.xe s
def PGs(X:Cx)(ts:List Expr)(t:TGs):Prop :=
 ∀(pins:List (Addr×Obj)) (s:Shared) (σ:St) (H:Hp) (vs:List V) (us:List Value) (Q:St→Hp→Prop),Inv X pins σ H s→Vals vs us→t vs σ H Q →
  wpAny (model X.prog X.w) X.A (assignInOrder ((assignEach ts X.env).map (·.2)) us) (fun _ s'=>∃ σ' H',Inv X pins σ' H' s'∧Q σ' H') X.xe s
abbrev TSet:=V→V→V→Hp→(Hp→Prop)→Prop
def PSet(X:Cx)(t:TSet):Prop :=
 ∀(pins:List (Addr×Obj)) (s:Shared) (σ:St) (H:Hp) (o i v:V) (ov iv u:Value) (Q:Hp→Prop),Inv X pins σ H s→RelV o ov→RelV i iv→RelV v u→t o i v H Q →
  wpAny (model X.prog X.w) X.A (setItem ov iv u) (fun _ s'=>∃ H',Inv X pins σ H' s'∧Q H') X.xe s
section
variable {X:Cx}{pos:Pos}
def z7X(i:Nat):TG:=fun v σ H Q=>Q (σ.set i (some v)) H
theorem z0B{i:Nat}{x:Str}(hN:X.N.Nodup)(hi:X.N[i]?=some x)(hx:Loc X.env.scope x)(hf:X.fn x=true∨X.env.scope.names.lookup x=some .local:=by first|exact .inl rfl|exact .inr rfl|assumption):PG X (.Name x pos) (z7X i):=by
 intro pins s σ H v u Q I r h
 exact wpAny_assign_Name (z7V I hN hi hx r (fun s' I'=>⟨_,H,I',h⟩) hf)
def gNil:TGs:=fun vs σ H Q=>vs=[]∧Q σ H
def gCons(t:TG)(u:TGs):TGs:=fun vs σ H Q=>∃ v r,vs=v::r∧t v σ H fun σ' H'=>u r σ' H' Q
theorem zlx:PGs X [] gNil:=by
 intro pins s σ H vs us Q I r h
 obtain⟨e,h⟩:=h
 subst e
 cases r
 exact assignInOrder_nil ⟨σ,H,I,h⟩
theorem zhK{e:Expr}{es:List Expr}{t:TG}{u:TGs}(h1:PG X e t)(h2:PGs X es u)
  (hs:(assignEach (e::es) X.env).map (·.2)=assign e X.env::(assignEach es X.env).map (·.2):=by rfl):PGs X (e::es) (gCons t u):=by
 intro pins s σ H vs us Q I r h
 obtain⟨v,vr,e1,h⟩:=h
 subst e1
 cases r with
 | cons r rr =>
  rw[hs]
  refine assignInOrder_cons (thn (h1 pins s σ H _ _ _ I r h) ?_)
  rintro _ s1 ⟨σ1,H1,I1,q1⟩
  exact h2 pins s1 σ1 H1 _ _ Q I1 rr q1
def gTup(K:PySem.W.Frag)(n:Nat)(t:TGs):TG:=fun v σ H Q=>∃ a xs,v = .ref a∧SqT K H a xs∧xs.length=n∧t xs σ H Q
theorem pg_tup{es:List Expr}{k:Nat}{t:TGs}{n:Nat}(hc:X.calm=true)(h:PGs X es t)
  (hn:(assignEach es X.env).length=n:=by rfl) (hst:(assignEach es X.env).findIdx? (·.1)=none:=by rfl):PG X (.Tuple es k pos) (gTup X.K n t):=by
 intro pins s σ H v u Q I r hw
 obtain⟨a,xs,e1,hq,hl,hw⟩:=hw
 subst e1
 cases r
 obtain⟨its,rv,ht,hz⟩:=I.tuple hq
 refine assign_Tuple_tuple (I.ok.hd hc) ht (by simp[hn,←hl,rv.length]) hst fun h' hx=>?_
 have I1:Inv X pins σ H { s with heap:=h' }:=I.kept (t':=s.toks) fun b o e=>hx b o (Nat.ne_of_lt (Heap.lt_size e)) e
 exact h pins _ σ H xs _ Q I1 (by simpa using rv) hw
def gSub(to ti:TE)(t:TSet):TG:=fun v σ H Q=>to σ H fun o H1=>ti σ H1 fun i H2=>t o i v H2 fun H3=>Q σ H3
theorem pg_sub{o i:Expr}{to ti:TE}{t:TSet}(ho:PE X o to)(hi:PE X i ti)(hs:PSet X t)
  (ha:∀ v,assign (.Subscript o i pos) X.env v=(do
   let ov ←holding [v] (eval o X.env)
   let iv ←holding [v,ov] (eval i X.env)
   standAt pos
   holding [v,ov,iv] (setItem ov iv v)
   release [v,ov,iv] []):=by intro _;rfl):PG X (.Subscript o i pos) (gSub to ti t):=by
 intro pins s σ H v u Q I r h
 rw[ha]
 refine wpAny_bind (wpAny_holding (thn (ho pins s σ H _ I h) ?_))
 rintro ov s1 ⟨x,H1,I1,r1,q1⟩
 refine wpAny_bind (wpAny_holding (thn (hi pins s1 σ H1 _ I1 q1) ?_))
 rintro iv s2 ⟨y,H2,I2,r2,q2⟩
 refine wpAny_bind (wpAny_standAt (wpAny_bind (wpAny_holding (thn (hs pins s2 σ H2 x y v ov iv u _ I2 r1 r2 r q2) ?_))))
 rintro _ s3 ⟨H3,I3,q3⟩
 exact wpAny_release ⟨σ,H3,I3,q3⟩
def tAsg(te:TE)(g:TG):TS:=fun D σ H=>te σ H fun x H1=>g x σ H1 D.nx
theorem ps_asg{tg e:Expr}{te:TE}{g:TG}(he:PE X e te)(hg:PG X tg g)(hs:swapsWithSole [tg] e pos.line X.env=pure false:=by rfl)(hw:swappedStores [tg] e X.env=pure none:=by rfl)
  (h1:(assignEach [tg] X.env).map (·.2)=[assign tg X.env]:=by rfl):PS X (.Assign [tg] e pos) (tAsg te g):=by
 intro pins s σ H D I h
 refine wpAny_Assign_stores (thn (he pins s σ H _ I h) fun v s1 hZ=>hZ.elim fun x hZ=>hZ.elim fun H1 hZ=>hZ.elim fun I1 hZ=>hZ.elim fun r1 q1=>?_) hs hw
 rw[h1]
 exact thn (hg pins s1 σ H1 x v _ I1 r1 q1) fun _ s2 q=>q
theorem ps_set{i:Nat}{x:Str}{e:Expr}{te:TE}{pos':Pos}(hN:X.N.Nodup)(hi:X.N[i]?=some x)(hx:Loc X.env.scope x)(he:PE X e te)(hs:swapsWith e (some (.Name x pos')) pos.line X.env=pure false:=by rfl)(hf:X.fn x=true∨X.env.scope.names.lookup x=some .local:=by first|exact .inl rfl|exact .inr rfl|assumption):
  PS X (.Assign [.Name x pos'] e pos) (tAsg te (z7X i)):=by
 intro pins s σ H D I h
 refine wpAny_Assign_Name (thn (he pins s σ H _ I h) fun v s1 hZ=>hZ.elim fun y hZ=>hZ.elim fun H1 hZ=>hZ.elim fun I1 hZ=>hZ.elim fun r1 q1=>?_) hs
 exact z7V I1 hN hi hx r1 (fun s2 I2=>⟨_,H1,I2,q1⟩) hf
end
section
variable {X:Cx}{pos:Pos}
def tWhile(c:TT)(tb:TS):TS:=fun D σ H=>∃ W:Nat→St→Hp→Prop,(∃ m,W m σ H)∧∀ m σ H,W m σ H →
 c σ H fun b H1=>if b=true then ∃ N:St→Hp→Prop,(∀ σ' H',N σ' H'→∃ m',m'<m∧W m' σ' H')∧tb { D with nx:=N,ct:=N,bk:=D.nx } σ H1 else D.nx σ H1
theorem zhL{c:Expr}{body:List Stmt}{tc:TT}{tb:TS}(hp:PassesOwn (model X.prog X.w) X.A X.env X.xe)(hc:PT X c tc)(hb:PSs X body tb):PS X (.While c body [] pos) (tWhile tc tb):=by
 intro pins s σ H D I h
 obtain⟨W,⟨m0,w0⟩,turn⟩:=h
 refine wpAny_While (codeAny_whileLoop (fun n s'=>∃ σ' H',Inv X pins σ' H' s'∧W n σ' H') ?_ m0 ⟨σ,H,I,w0⟩)
 rintro n s1 ⟨σ1,H1,I1,w1⟩
 refine wpAny_passesOwn hp (thn (hc pins s1 σ1 H1 _ I1 (turn n σ1 H1 w1)) ?_)
 rintro b s2 ⟨H2,I2,q2⟩
 cases b with
 | true =>
  obtain⟨N,hN,q2⟩:=q2
  rw[if_pos rfl]
  refine wpAny_passesOwn hp (thn (hb pins s2 σ1 H2 _ I2 q2) fun f s3 q3=>?_)
  cases f with
  | next =>
   obtain⟨σ3,H3,I3,n3⟩:=q3
   obtain⟨m',hm,w3⟩:=hN σ3 H3 n3
   exact⟨m',hm,σ3,H3,I3,w3⟩
  | cont =>
   obtain⟨σ3,H3,I3,n3⟩:=q3
   obtain⟨m',hm,w3⟩:=hN σ3 H3 n3
   exact⟨m',hm,σ3,H3,I3,w3⟩
  | brk=>exact q3
  | ret v=>exact q3
 | false =>
  rw[if_neg Bool.false_ne_true]
  exact wpAny_execs_nil ⟨σ1,H2,I2,q2⟩
end
structure It where
 go:Nat→Hp→Prop
 yld:Nat→Hp→V→Hp→Prop
 stop:Nat→Hp→Prop
def FpOk(X:Cx)(pins:List (Addr×Obj))(H:Hp)(b:Addr):Prop :=
 H b=none∧b≠X.env.locals∧b ∉ X.fs∧(b∈X.ex∨X.s₀.heap.objs.size≤b)∧(∀ x c,X.env.cells.lookup x=some c→c≠b)∧∀ p∈X.pn++pins,p.1≠b
theorem Inv.fpOk{X:Cx}{pins:List (Addr×Obj)}{σ:St}{H H':Hp}{s:Shared}{b:Addr}(I:Inv X pins σ H s)(hb:s.heap.objs.size≤b)(hn:H' b=none):FpOk X pins H' b:=by
 refine⟨hn,Nat.ne_of_gt (Nat.lt_of_lt_of_le I.lt hb),I.nofs hb,.inr (Nat.le_trans I.sz hb),fun x c e z=>?_,fun p hp z=>?_⟩
 · obtain⟨v,q⟩:=I.cell x c e
   exact absurd (Nat.lt_of_lt_of_le q.lt (by rw[z];exact hb)) (Nat.lt_irrefl _)
 · exact absurd (Nat.lt_of_lt_of_le (Heap.lt_size (I.pin p hp).1) (by rw[z];exact hb)) (Nat.lt_irrefl _)
structure Turn(P:Program)(w:World)(K:PySem.W.Frag)(tg:Expr)(J:It)(fp:List Addr)(it:Addr)(tn:Nat→Heap→Prop):Prop where
 mem:it∈fp
 obj:∀ i h,tn i h→∀ b∈fp,∃ o,h.get? b=some o∧∀ v,o.data ≠ .cell v
 keep:∀ i h h',tn i h→(∀ b∈fp,∀ o,h.get? b=some o→h'.get? b=some o)→tn i h'
 item:∀(X:Cx),X.prog=P→X.w=w→X.K=K→X.calm=true→∀(i:Nat) (pins:List (Addr×Obj)) (s:Shared) (σ:St) (H:Hp) (E:Value→Shared→Prop),Inv X pins σ H s→(∀ b∈fp,FpOk X pins H b)→tn i s.heap→J.go i H →
  wpAny (model P w) X.A (pyNext (.ref it)) (fun r s1=>∃ u,r=some u ∧
   wpAny (model P w) X.A (letOwnedTupleGo tg (.ref it) u) (fun _ s2=>∃ x H',Inv X pins σ H' s2∧RelV x u∧J.yld i H x H'∧tn (i+1) s2.heap∧∀ b∈fp,H' b=none) E s1) E s
 done:∀(X:Cx),X.prog=P→X.w=w→X.K=K→X.calm=true→∀(i:Nat) (pins:List (Addr×Obj)) (s:Shared) (σ:St) (H:Hp) (E:Value→Shared→Prop),Inv X pins σ H s→(∀ b∈fp,FpOk X pins H b)→tn i s.heap→J.stop i H →
  wpAny (model P w) X.A (pyNext (.ref it)) (fun r s1=>r=none∧Inv X pins σ H s1) E s
 self:∀(A:Around) (i:Nat) (s:Shared) (Q:Value→Shared→Prop) (E:Value→Shared→Prop),tn i s.heap→Q (.ref it) s→wpAny (model P w) A (pyIter (.ref it)) Q E s
abbrev TI:=St→Hp→(It→Hp→Prop)→Prop
def PIE(X:Cx)(pins:List (Addr×Obj))(σ:St)(tg:Expr)(R:It→Hp→Prop)(itv:Value)(s2:Shared):Prop :=
 ∃(it:Addr) (fp:List Addr) (tn:Nat→Heap→Prop) (J:It) (H':Hp),itv = .ref it∧Inv X pins σ H' s2∧Turn X.prog X.w X.K tg J fp it tn∧tn 0 s2.heap∧(∀ b∈fp,FpOk X pins H' b)∧R J H'
def PI(X:Cx)(tg iter:Expr)(wi:TI):Prop :=
 ∀(pins:List (Addr×Obj)) (s:Shared) (σ:St) (H:Hp) (R:It→Hp→Prop),Inv X pins σ H s→wi σ H R →
  wpAny (model X.prog X.w) X.A (eval iter X.env) (fun v s1=>wpAny (model X.prog X.w) X.A (pyIter v) (PIE X pins σ tg R) X.xe s1) X.xe s
theorem zfV{M:Model}{A:Around}{E:Value→Shared→Prop}{s:Shared}{tg:Expr}{it:Addr}{u:Value}{o:Obj}{n:String}{vs:Array Value}{Q:Unit→Shared→Prop}(ho:s.heap.get? it=some o)(hc:o.cls = .type n)(hd:o.data = .fields vs)
    (hn:["enumerate", "zip", "dict_itemiterator", "dict_reverseitemiterator", "odict_iterator", "itertools.zip_longest", "itertools.pairwise"].contains n=false) (hQ:Q () s):wpAny M A (letOwnedTupleGo tg (.ref it) u) Q E s:=by
  unfold letOwnedTupleGo
  cases tg<;>first
    | exact wpAny_pure hQ
    | (cases u<;>first
        | exact wpAny_pure hQ
        | (refine wpAny_bind (wpAny_load ho ?_)
           rw[hc,hd]
           show wpAny M A (if(["enumerate", "zip", "dict_itemiterator", "dict_reverseitemiterator", "odict_iterator", "itertools.zip_longest", "itertools.pairwise"].contains n&&vs[0]?==some (rawInt _))=true then _ else _) Q E s
           rw[if_neg (by intro h;rw[hn,Bool.false_and]at h;cases h)]
           exact wpAny_pure hQ))
def Itl(K:PySem.W.Frag)(a:Addr):It :=
 ⟨fun i H=>∃ xs x,SqL K H a xs∧xs[i]?=some x,fun i H x H'=>H'=H∧∀ xs,SqL K H a xs→xs[i]?=some x,fun i H=>∃ xs,SqL K H a xs∧xs.length≤i⟩
def Itt(K:PySem.W.Frag)(a:Addr):It :=
 ⟨fun i H=>∃ xs x,SqT K H a xs∧xs[i]?=some x,fun i H x H'=>H'=H∧∀ xs,SqT K H a xs→xs[i]?=some x,fun i H=>∃ xs,SqT K H a xs∧xs.length≤i⟩
def Itr(lo:Int)(n:Nat):It:=⟨fun i _=>i<n,fun i H x H'=>H'=H∧x = .int (lo+i),fun i _=>n≤i⟩
theorem zgV{P:Program}{w:World}{K:PySem.W.Frag}{tg:Expr}(a it:Addr):Turn P w K tg (Itl K a) [it] it (fun i h=>h.IsListIter it a i) where
 mem:=by simp
 obj:=fun i h st b hb=>by
  have e:b=it:=by simpa using hb
  subst e
  obtain⟨o,e,c,d⟩:=st
  exact⟨o,e,fun v z=>by rw[d]at z;cases z⟩
 keep:=fun i h h' st k=>st.at fun o e=>k it (by simp) o e
 item:=by
  intro X hP hw hK hc i pins s σ H E I hf st hg
  subst hP hw hK
  obtain⟨xs,x,hq,hx⟩:=hg
  obtain⟨its,rv,p,hz⟩:=I.list hq
  obtain⟨u,hu,ru⟩:=rv.get hx
  obtain⟨f0,f1,f2,f3,f4,f5⟩:=hf it (by simp)
  refine wpAny_pyNext_list_item st p.isList (x:=u) (by simpa using hu) fun h' st' sb=>?_
  have I1:Inv X pins σ H { s with heap:=h' }:=I.turned (t':=s.toks) (fun b o hb e=>(sb.2 b hb).trans e) f0 f1 f3 f4 f5
  obtain⟨o,e,c,d⟩:=id st'
  exact⟨u,rfl,zfV (s:={ s with heap:=h' }) e c d (by decide) ⟨x,H,I1,ru,⟨rfl,fun ys hy=>by rw[I.list_inj hy hq];exact hx⟩,st',fun b hb=>(hf b hb).1⟩⟩
 done:=by
  intro X hP hw hK hc i pins s σ H E I hf st hg
  subst hP hw hK
  obtain⟨xs,hq,hx⟩:=hg
  obtain⟨its,rv,p,hz⟩:=I.list hq
  obtain⟨f0,f1,f2,f3,f4,f5⟩:=hf it (by simp)
  have hl:=rv.length
  exact wpAny_pyNext_list_end (I.ok.hd hc) st p.isList (by simp;omega) fun h' eb=>⟨rfl,I.turned (t':=s.toks) (fun b o hb e=>eb b o hb e) f0 f1 f3 f4 f5⟩
 self:=fun _ _ _ _ _ st h=>wpAny_pyIter_listiter st h
theorem zcx{P:Program}{w:World}{K:PySem.W.Frag}{tg:Expr}(a it:Addr):Turn P w K tg (Itt K a) [it] it (fun i h=>h.IsTupleIter it a i) where
 mem:=by simp
 obj:=fun i h st b hb=>by
  have e:b=it:=by simpa using hb
  subst e
  obtain⟨o,e,c,d⟩:=st
  exact⟨o,e,fun v z=>by rw[d]at z;cases z⟩
 keep:=fun i h h' st k=>st.at fun o e=>k it (by simp) o e
 item:=by
  intro X hP hw hK hc i pins s σ H E I hf st hg
  subst hP hw hK
  obtain⟨xs,x,hq,hx⟩:=hg
  obtain⟨its,rv,p,hz⟩:=I.tuple hq
  obtain⟨u,hu,ru⟩:=rv.get hx
  obtain⟨f0,f1,f2,f3,f4,f5⟩:=hf it (by simp)
  refine wpAny_pyNext_tuple_item st (show s.heap.IsTuple a its.toArray from p) (x:=u) (by simpa using hu) fun h' st' sb=>?_
  have I1:Inv X pins σ H { s with heap:=h' }:=I.turned (t':=s.toks) (fun b o hb e=>(sb.2 b hb).trans e) f0 f1 f3 f4 f5
  obtain⟨o,e,c,d⟩:=id st'
  exact⟨u,rfl,zfV (s:={ s with heap:=h' }) e c d (by decide) ⟨x,H,I1,ru,⟨rfl,fun ys hy=>by rw[I.tuple_inj hy hq];exact hx⟩,st',fun b hb=>(hf b hb).1⟩⟩
 done:=by
  intro X hP hw hK hc i pins s σ H E I hf st hg
  subst hP hw hK
  obtain⟨xs,hq,hx⟩:=hg
  obtain⟨its,rv,p,hz⟩:=I.tuple hq
  obtain⟨f0,f1,f2,f3,f4,f5⟩:=hf it (by simp)
  have hl:=rv.length
  exact wpAny_pyNext_tuple_end (I.ok.hd hc) st (show s.heap.IsTuple a its.toArray from p) (by simp;omega) fun h' eb=>⟨rfl,I.turned (t':=s.toks) (fun b o hb e=>eb b o hb e) f0 f1 f3 f4 f5⟩
 self:=fun _ _ _ _ _ st h=>wpAny_pyIter_tupleiter st h
theorem zcy{P:Program}{w:World}{K:PySem.W.Frag}{tg:Expr}(it:Addr)(lo:Int)(n:Nat):Turn P w K tg (Itr lo n) [it] it (fun i h=>IsRangeIter h it (lo+(i:Nat)*1) ((n:Int)-(i:Nat)) 1) where
 mem:=by simp
 obj:=fun i h st b hb=>by
  have e:b=it:=by simpa using hb
  subst e
  exact⟨_,st,fun v z=>by
   have z':Data.fields _=Data.cell v:=z
   cases z'⟩
 keep:=fun i h h' st k=>k it (by simp) _ st
 item:=by
  intro X hP hw hK hc i pins s σ H E I hf st hg
  subst hP hw hK
  obtain⟨f0,f1,f2,f3,f4,f5⟩:=hf it (by simp)
  have W:=Walks.range (prog:=X.prog) (w:=X.w) (I.ok.hd hc) it lo 1 n
  refine W.item i s _ _ hg st fun v h' tk hv st' kk=>?_
  obtain⟨t,rfl⟩:=hv
  have I1:Inv X pins σ H { s with heap:=h',toks:=tk }:=I.turned (fun b o hb e=>kk b o (by simpa using hb) e) f0 f1 f3 f4 f5
  refine⟨_,rfl,zfV (s:={ s with heap:=h',toks:=tk }) (n := "range_iterator") st' rfl rfl (by decide) ⟨.int (lo+i),H,I1,⟨t,?_⟩,⟨rfl,rfl⟩,st',fun b hb=>(hf b hb).1⟩⟩
  rw[Int.mul_one]
 done:=by
  intro X hP hw hK hc i pins s σ H E I hf st hg
  subst hP hw hK
  obtain⟨f0,f1,f2,f3,f4,f5⟩:=hf it (by simp)
  exact wpAny_pyNext_range_end (I.ok.hd hc) st (by have:n≤i:=hg;omega) fun h' eb=>⟨rfl,I.turned (t':=s.toks) (fun b o hb e=>eb b o hb e) f0 f1 f3 f4 f5⟩
 self:=fun _ _ _ _ _ st h=>wpAny_pyIter_rangeiter st h
end L2
namespace L2
open PySem PySem.Spec PyProof.Rows
section
variable {X:Cx}{tg:Expr}
theorem zbk{pins:List (Addr×Obj)}{σ:St}{H:Hp}{s:Shared}{R:It→Hp→Prop}{E:Value→Shared→Prop}{lo hi:Int}{t u v:Tok}{tk:Nat}(I:Inv X pins σ H s)(h1 : -(2 ^ 62)≤lo)(h2:lo<2 ^ 62)(h3 : -(2 ^ 62)≤hi)(h4:hi<2 ^ 62)
   (q:R (Itr lo (hi-lo).toNat) H):wpAny (model X.prog X.w) X.A (pyIter (.ref s.heap.objs.size)) (PIE X pins σ tg R) E { s with heap:=s.heap.push { cls := .type "range",data := .fields #[.int lo t,.int hi u,.int 1 v] },toks:=tk }:=by
 refine wpAny_pyIter_range (IsRange.new ..) (small_one h1 h2 h3 h4) ?_
 have I1:Inv X pins σ H { s with heap:=s.heap.push { cls := .type "range",data := .fields #[.int lo t,.int hi u,.int 1 v] },toks:=tk }:=I.kept fun b o e=>Heap.get?_push_of_some _ e
 refine⟨(s.heap.push { cls := .type "range",data := .fields #[.int lo t,.int hi u,.int 1 v] }).objs.size,[(s.heap.push { cls := .type "range",data := .fields #[.int lo t,.int hi u,.int 1 v] }).objs.size],_,_,H,rfl,
   I1.kept (t':=tk) fun b o e=>Heap.get?_push_of_some _ e,zcy _ lo (hi-lo).toNat,?_,fun b hb=>?_,q⟩
 · have e1:lo+((0:Nat):Int)*1=lo:=by simp
   have e2:(((hi-lo).toNat:Nat):Int)-((0:Nat):Int)=Builtin.Range.rangeSize lo hi 1:=by rw[rangeSize_one];split<;>omega
   show IsRangeIter _ _ (lo+((0:Nat):Int)*1) ((((hi-lo).toNat:Nat):Int)-((0:Nat):Int)) 1
   rw[e1,e2]
   exact Heap.get?_push_size _ rfl
 · have e:b=(s.heap.push { cls := .type "range",data := .fields #[.int lo t,.int hi u,.int 1 v] }).objs.size:=by simpa using hb
   subst e
   exact I1.fpOk (Nat.le_refl _) (I1.hok.fresh (Nat.le_refl _))
def iRng1(ta:TA):TI:=fun σ H R=>ta σ H fun vs H1=>∃ j:Int,vs=[.int j] ∧ -(2 ^ 62)≤j∧j<2 ^ 62∧R (Itr 0 j.toNat) H1
def iRng2(ta:TA):TI:=fun σ H R=>ta σ H fun vs H1=>∃ i j:Int,vs=[.int i,.int j]∧(-(2 ^ 62)≤i∧i<2 ^ 62 ∧ -(2 ^ 62)≤j∧j<2 ^ 62)∧R (Itr i (j-i).toNat) H1
theorem z9p{a:Expr}{ta:TA}{p pos:Pos}(hg:Gl X "range")(hm:X.mg "range" = none)(ha:PA X [a] ta)(hs:starEach [a] X.env=[(false,eval a X.env)]:=by rfl):PI X tg (.Call (.Name "range" p) [a] [] pos) (iRng1 ta):=by
 intro pins s σ H R I h
 refine Call_ (z3E I hg hm boot_range (PyProof.Rows.callWith_type1 (thn (ha pos pins s σ H _ I h) fun us s1 hZ=>hZ.elim fun vs hZ=>hZ.elim fun H1 hZ=>hZ.elim fun I1 hZ=>hZ.elim fun r1 q1=>?_) hs rfl))
 obtain⟨j,e,q1,q2,q⟩:=q1
 subst e
 cases r1 with
 | cons r rr =>
  cases rr
  obtain⟨t,rfl⟩:=r
  exact call_range_1 (zbk I1 (by omega) (by omega) q1 q2 (by simpa using q))
theorem zgW{a b:Expr}{ta:TA}{p pos:Pos}(hg:Gl X "range")(hm:X.mg "range" = none)(ha:PA X [a,b] ta)(hs:starEach [a,b] X.env=[(false,eval a X.env),(false,eval b X.env)]:=by rfl)(hs2:starEach [b] X.env=[(false,eval b X.env)]:=by rfl):
  PI X tg (.Call (.Name "range" p) [a,b] [] pos) (iRng2 ta):=by
 intro pins s σ H R I h
 refine Call_ (z3E I hg hm boot_range (PyProof.Rows.callWith_type1 (thn (ha pos pins s σ H _ I h) fun us s1 hZ=>hZ.elim fun vs hZ=>hZ.elim fun H1 hZ=>hZ.elim fun I1 hZ=>hZ.elim fun r1 q1=>?_) (by rw[hs,hs2]) (by rw[hs2];rfl)))
 obtain⟨i,j,e,⟨q1,q2,q3,q4⟩,q⟩:=q1
 subst e
 cases r1 with
 | cons r rr =>
  cases rr with
  | cons r' rr =>
   cases rr
   obtain⟨t,rfl⟩:=r
   obtain⟨t',rfl⟩:=r'
   exact call_range_2 (zbk I1 q1 q2 q3 q4 q)
def tFor(wi:TI)(g:TG)(tb:TS):TS:=fun D σ H=>wi σ H fun J H1=>∃ W:Nat→Nat→St→Hp→Prop,(∃ m,W 0 m σ H1)∧∀ i m σ H,W i m σ H →
 (J.stop i H∧D.nx σ H)∨(J.go i H∧∃ N:St→Hp→Prop,(∀ σ' H',N σ' H'→∃ m',m'<m∧W (i+1) m' σ' H')∧∀ x H',J.yld i H x H'→g x σ H' fun σ2 H2=>tb { D with nx:=N,ct:=N,bk:=D.nx } σ2 H2)
def z7Y(fp:List Addr)(h:Heap):List (Addr×Obj):=fp.filterMap fun b=>(h.get? b).map fun o=>(b,o)
theorem z3F{fp:List Addr}{h:Heap}{b:Addr}{o:Obj}(hb:b∈fp)(e:h.get? b=some o):(b,o)∈z7Y fp h:=List.mem_filterMap.mpr ⟨b,hb,by rw[e];rfl⟩
theorem zgX{fp:List Addr}{h:Heap}{p:Addr×Obj}(hp:p∈z7Y fp h):p.1∈fp∧h.get? p.1=some p.2:=by
 obtain⟨b,hb,e⟩:=List.mem_filterMap.mp hp
 cases q:h.get? b with
 | none=>rw[q]at e;cases e
 | some o =>
  rw[q]at e
  have e':(b,o)=p:=Option.some.inj e
  subst e'
  exact⟨hb,q⟩
theorem Inv.pinned{pins:List (Addr×Obj)}{σ:St}{H:Hp}{s:Shared}{fp:List Addr}(I:Inv X pins σ H s)(hf:∀ b∈fp,FpOk X pins H b)(ho:∀ b∈fp,∃ o,s.heap.get? b=some o∧∀ v,o.data ≠ .cell v):Inv X (pins++z7Y fp s.heap) σ H s :=
 I.pins_of fun p hp=>(List.mem_append.mp hp).elim (fun z=>I.pin p (List.mem_append_right _ z)) fun z=>by
  obtain⟨hb,e⟩:=zgX z
  obtain⟨f0,f1,f2,_⟩:=hf p.1 hb
  obtain⟨o,e',d⟩:=ho p.1 hb
  rw[e]at e';cases e'
  exact⟨e,f0,f1,f2,d⟩
theorem Inv.unpinned{pins pl:List (Addr×Obj)}{σ:St}{H:Hp}{s:Shared}(I:Inv X (pins++pl) σ H s):Inv X pins σ H s:=I.pins_of fun p hp=>I.pin p (List.mem_append_right _ (List.mem_append_left _ hp))
theorem zhM{iter:Expr}{body:List Stmt}{wi:TI}{g:TG}{tb:TS}{pos:Pos}(hp:PassesOwn (model X.prog X.w) X.A X.env X.xe)(hc:X.calm=true)(hi:PI X tg iter wi)(hg:PG X tg g)(hb:PSs X body tb)
   (hs:∀ x,foldedSetIterable iter X.env x=pure x:=by intro _;rfl):PS X (.For tg iter body [] pos) (tFor wi g tb):=by
 intro pins s σ H D I h
 refine wpAny_For (thn (hi pins s σ H _ I h) fun v s1 h1=>thn h1 fun itv s2 h2=>?_) hs
 obtain⟨it,fp,tn,J,H2,e,I2,T,st2,f2,W,⟨m0,w0⟩,turn⟩:=h2
 subst e
 have stat:∀{H':Hp},(∀ b∈fp,H' b=none)→∀ b∈fp,FpOk X pins H' b:=fun hn b hb=>⟨hn b hb,(f2 b hb).2⟩
 refine codeAny_forLoop_any (fun n s'=>∃ i σ' H',Inv X pins σ' H' s'∧tn i s'.heap∧(∀ b∈fp,H' b=none)∧W i n σ' H') ?_ m0 ⟨0,σ,H2,I2,st2,fun b hb=>(f2 b hb).1,w0⟩
 rintro n s3 ⟨i,σ3,H3,I3,st3,fr3,w3⟩
 rcases turn i n σ3 H3 w3 with⟨stop,qn⟩|⟨go,N,hN,step⟩
 · refine wpAny_passesOwn hp (thn (T.done X rfl rfl rfl hc i pins s3 σ3 H3 X.xe I3 (stat fr3) st3 stop) ?_)
   rintro r s4 ⟨hr,I4⟩
   subst hr
   exact wpAny_execs_nil ⟨σ3,H3,I4,qn⟩
 · refine wpAny_passesOwn hp (thn (T.item X rfl rfl rfl hc i pins s3 σ3 H3 X.xe I3 (stat fr3) st3 go) ?_)
   rintro r s4 ⟨u,hr,h4⟩
   subst hr
   refine wpAny_passesOwn hp (thn h4 ?_)
   rintro _ s5 ⟨x,H5,I5,r5,y5,st5,fr5⟩
   have I5':=I5.pinned (stat fr5) (T.obj _ _ st5)
   refine wpAny_passesOwn hp (thn (hg _ s5 σ3 H5 x u _ I5' r5 (step x H5 y5)) ?_)
   rintro _ s6 ⟨σ6,H6,I6,q6⟩
   refine wpAny_passesOwn hp (thn (hb _ s6 σ6 H6 _ I6 q6) fun f s7 q7=>?_)
   have again:∀{σ7:St} {H7:Hp},Inv X (pins++z7Y fp s5.heap) σ7 H7 s7→N σ7 H7→∃ m,m<n∧∃ i σ' H',Inv X pins σ' H' s7∧tn i s7.heap∧(∀ b∈fp,H' b=none)∧W i m σ' H':=fun{σ7 H7} I7 n7=>by
    obtain⟨m',hm,w7⟩:=hN σ7 H7 n7
    refine⟨m',hm,i+1,σ7,H7,I7.unpinned,T.keep _ _ _ st5 fun b hb o e=>(I7.pin (b,o) (List.mem_append_right _ (List.mem_append_right _ (z3F hb e)))).1,fun b hb=>?_,w7⟩
    obtain⟨o,e,d⟩:=T.obj _ _ st5 b hb
    exact(I7.pin (b,o) (List.mem_append_right _ (List.mem_append_right _ (z3F hb e)))).2.1
   cases f with
   | next=>obtain⟨σ7,H7,I7,n7⟩:=q7;exact again I7 n7
   | cont=>obtain⟨σ7,H7,I7,n7⟩:=q7;exact again I7 n7
   | brk=>obtain⟨σ7,H7,I7,q7⟩:=q7;exact⟨σ7,H7,I7.unpinned,q7⟩
   | ret v=>obtain⟨x7,σ7,H7,I7,r7,q7⟩:=q7;exact⟨x7,σ7,H7,I7.unpinned,r7,q7⟩
end
end L2
namespace L2
open PySem PySem.Spec PyProof.Rows
abbrev R2:=V→V→Hp→VK→Prop
def OpR(X:Cx)(f:Value→Value→Sem Value)(r:R2):Prop :=
 ∀(pins:List (Addr×Obj)) (s:Shared) (σ:St) (H:Hp) (x y:V) (v u:Value) (Q:VK),Inv X pins σ H s→RelV x v→RelV y u→r x y H Q →
  wpAny (model X.prog X.w) X.A (f v u) (EP X pins σ Q) X.xe s
def UnR(X:Cx)(f:Value→Sem Value)(r:V→Hp→VK→Prop):Prop :=
 ∀(pins:List (Addr×Obj)) (s:Shared) (σ:St) (H:Hp) (x:V) (v:Value) (Q:VK),Inv X pins σ H s→RelV x v→r x H Q →
  wpAny (model X.prog X.w) X.A (f v) (EP X pins σ Q) X.xe s
def CallR(X:Cx)(f:Value)(r:List V→Hp→VK→Prop):Prop :=
 ∀(pins:List (Addr×Obj)) (s:Shared) (σ:St) (H:Hp) (xs:List V) (us:List Value) (Q:VK),Inv X pins σ H s→Vals xs us→r xs H Q →
  wpAny (model X.prog X.w) X.A (call f us) (EP X pins σ Q) X.xe s
def TruR(X:Cx)(r:V→Hp→(Bool→Hp→Prop)→Prop):Prop :=
 ∀(pins:List (Addr×Obj)) (s:Shared) (σ:St) (H:Hp) (x:V) (v:Value) (Q:Bool→Hp→Prop),Inv X pins σ H s→RelV x v→r x H Q →
  wpAny (model X.prog X.w) X.A (truthy v) (TP X pins σ Q) X.xe s
def tOp(r:R2)(ta tb:TE):TE:=fun σ H Q=>ta σ H fun x H1=>tb σ H1 fun y H2=>r x y H2 Q
def tUn(r:V→Hp→VK→Prop)(ta:TE):TE:=fun σ H Q=>ta σ H fun x H1=>r x H1 Q
def rI(C:Int→Int→Prop)(g:Int→Int→V):R2:=fun x y H Q=>∃ i j,x = .int i∧y = .int j∧C i j∧Q (g i j) H
def rI0(g:Int→Int→V):R2:=fun x y H Q=>∃ i j,x = .int i∧y = .int j∧Q (g i j) H
def rU(g:Int→V):V→Hp→VK→Prop:=fun x H Q=>∃ i,x = .int i∧Q (g i) H
section
variable {X:Cx}{a b c:Expr}{ta tb tc:TE}{pos:Pos}
theorem binT(ha:PE X a ta)(hb:PE X b tb){pins:List (Addr×Obj)}{s:Shared}{σ:St}{H:Hp}{R:V→V→Hp→Prop}(I:Inv X pins σ H s)
  (h:ta σ H fun x H1=>tb σ H1 fun y H2=>R x y H2) {Q:Value→Shared→Prop} {f:Value→Value→Sem Value}
  (hf:∀ v u s2 x y H2,Inv X pins σ H2 s2→RelV x v→RelV y u→R x y H2→wpAny (model X.prog X.w) X.A (f v u) Q X.xe s2) :
  wpAny (model X.prog X.w) X.A (eval a X.env) (fun v s₁=>wpAny (model X.prog X.w) X.A (eval b X.env) (fun u s₂=>wpAny (model X.prog X.w) X.A (f v u) Q X.xe s₂) X.xe s₁) X.xe s:=by
 refine thn (ha pins s σ H _ I h) ?_
 rintro v s1 ⟨x,H1,I1,r1,q1⟩
 refine thn (hb pins s1 σ H1 _ I1 q1) ?_
 rintro u s2 ⟨y,H2,I2,r2,q2⟩
 exact hf v u s2 x y H2 I2 r1 r2 q2
theorem pe_op{op:Operator}{r:R2}(ho:OpR X (binaryOp op) r)(ha:PE X a ta)(hb:PE X b tb):PE X (.BinOp a op b pos) (tOp r ta tb):=by
 intro pins s σ H Q I h
 exact wpAny_BinOp (binT ha hb I h fun v u s2 x y H2 I2 rx ry q=>ho pins s2 σ H2 x y v u Q I2 rx ry q)
theorem pe_un{op:UnaryOp}{r:V→Hp→VK→Prop}(ho:UnR X (unaryOp op) r)(ha:PE X a ta):PE X (.UnaryOp op a pos) (tUn r ta):=by
 intro pins s σ H Q I h
 exact UnaryOp_ (thn (ha pins s σ H _ I h) fun v s1 hZ=>hZ.elim fun x hZ=>hZ.elim fun H1 hZ=>hZ.elim fun I1 hZ=>hZ.elim fun r1 q1=>ho pins s1 σ H1 x v Q I1 r1 q1)
theorem opI{f:Value→Value→Sem Value}{C:Int→Int→Prop}{g:Int→Int→Int}
  (rule:∀(i j:Int) (t u:Tok) (s:Shared) (Q:Value→Shared→Prop) (E:Value→Shared→Prop),C i j→Q (.int (g i j) s.toks) { s with toks:=s.toks+1 }→wpAny (model X.prog X.w) X.A (f (.int i t) (.int j u)) Q E s) :
  OpR X f (rI C fun i j => .int (g i j)):=by
 intro pins s σ H x y v u Q I rx ry h
 obtain⟨i,j,rfl,rfl,hc,q⟩:=h
 obtain⟨t,rfl⟩:=rx
 obtain⟨t',rfl⟩:=ry
 exact rule i j t t' s _ _ hc ⟨.int (g i j),H,I.tok _,⟨_,rfl⟩,q⟩
theorem opI0{f:Value→Value→Sem Value}{g:Int→Int→Int}
  (rule:∀(i j:Int) (t u:Tok) (s:Shared) (Q:Value→Shared→Prop) (E:Value→Shared→Prop),Q (.int (g i j) s.toks) { s with toks:=s.toks+1 }→wpAny (model X.prog X.w) X.A (f (.int i t) (.int j u)) Q E s) :
  OpR X f (rI0 fun i j => .int (g i j)):=by
 intro pins s σ H x y v u Q I rx ry h
 obtain⟨i,j,rfl,rfl,q⟩:=h
 obtain⟨t,rfl⟩:=rx
 obtain⟨t',rfl⟩:=ry
 exact rule i j t t' s _ _ ⟨.int (g i j),H,I.tok _,⟨_,rfl⟩,q⟩
theorem opB0{f:Value→Value→Sem Value}{g:Int→Int→Bool}
  (rule:∀(i j:Int) (t u:Tok) (s:Shared) (Q:Value→Shared→Prop) (E:Value→Shared→Prop),Q (.bool (g i j)) s→wpAny (model X.prog X.w) X.A (f (.int i t) (.int j u)) Q E s) :
  OpR X f (rI0 fun i j => .bl (g i j)):=by
 intro pins s σ H x y v u Q I rx ry h
 obtain⟨i,j,rfl,rfl,q⟩:=h
 obtain⟨t,rfl⟩:=rx
 obtain⟨t',rfl⟩:=ry
 exact rule i j t t' s _ _ ⟨.bl (g i j),H,I,rfl,q⟩
def CPow(i j:Int):Prop:=0≤j∧j≤1000000∧i.natAbs<2 ^ 64
def CMul(i j:Int):Prop:=(-(2 ^ 64)<i∧i<2 ^ 64)∨(-(2 ^ 64)<j∧j<2 ^ 64)
theorem CMul.ok{i j:Int}(h:CMul i j):IntMulOk i j:=by
 rcases h with⟨h1,h2⟩|⟨h1,h2⟩
 · exact .of_left (intBits_le_64 h1 h2)
 · exact .of_right (intBits_le_64 h1 h2)
theorem op_add:OpR X (binaryOp .Add) (rI0 fun i j => .int (i+j)):=opI0 fun _ _ _ _ _ _ _ q=>add_int q
theorem op_sub:OpR X (binaryOp .Sub) (rI0 fun i j => .int (i-j)):=opI0 fun _ _ _ _ _ _ _ q=>sub_int q
theorem zly:OpR X (binaryOp .Mod) (rI (fun _ j=>j≠0) fun i j => .int (i.fmod j)):=opI fun _ _ _ _ _ _ _ hc q=>mod_int' hc q
theorem op_pow:OpR X (binaryOp .Pow) (rI CPow fun i j => .int (i ^ j.toNat)):=opI fun _ _ _ _ _ _ _ hc q=>pow_int_small hc.1 hc.2.1 hc.2.2 q
theorem unI{f:Value→Sem Value}{g:Int→Int}
  (rule:∀(i:Int) (t:Tok) (s:Shared) (Q:Value→Shared→Prop) (E:Value→Shared→Prop),Q (.int (g i) s.toks) { s with toks:=s.toks+1 }→wpAny (model X.prog X.w) X.A (f (.int i t)) Q E s) :
  UnR X f (rU fun i => .int (g i)):=by
 intro pins s σ H x v Q I rx h
 obtain⟨i,rfl,q⟩:=h
 obtain⟨t,rfl⟩:=rx
 exact rule i t s _ _ ⟨.int (g i),H,I.tok _,⟨_,rfl⟩,q⟩
theorem un_neg:UnR X (unaryOp .USub) (rU fun i => .int (-i)):=unI fun _ _ _ _ _ q=>neg_int q
end
def scal:V→V→Bool
 | .non,.non=>true|.non,.int _=>true|.int _,.non=>true|.non,.bl _=>true|.bl _,.non=>true|.non,.str _=>true|.str _,.non=>true
 | .int _,.int _=>true|.bl _,.bl _=>true|.str _,.str _=>true|.byt _,.byt _=>true
 | .int _,.str _=>true|.str _,.int _=>true|.bl _,.str _=>true|.str _,.bl _=>true
 | _,_=>false
section
variable {X:Cx}{a b c:Expr}{ta tb tc:TE}{pos:Pos}
theorem op_lt:OpR X (compareOp .Lt) (rI0 fun i j => .bl (decide (i<j))):=opB0 fun _ _ _ _ _ _ _ q=>lt_int q
theorem op_le:OpR X (compareOp .LtE) (rI0 fun i j => .bl (decide (i≤j))):=opB0 fun _ _ _ _ _ _ _ q=>le_int q
theorem op_gt:OpR X (compareOp .Gt) (rI0 fun i j => .bl (decide (j<i))):=opB0 fun _ _ _ _ _ _ _ q=>gt_int q
theorem op_ge:OpR X (compareOp .GtE) (rI0 fun i j => .bl (decide (j≤i))):=opB0 fun _ _ _ _ _ _ _ q=>ge_int q
theorem OpR.or{f:Value→Value→Sem Value}{r r':R2}(h:OpR X f r)(h':OpR X f r'):OpR X f (fun x y H Q=>r x y H Q∨r' x y H Q):=by
 intro pins s σ H x y v u Q I rx ry q
 rcases q with q|q
 · exact h pins s σ H x y v u Q I rx ry q
 · exact h' pins s σ H x y v u Q I rx ry q
theorem z0y(b:Expr){op:CmpOp}(h:op ≠ .In:=by decide)(h2:op ≠ .NotIn:=by decide):behindInMarks op b=false:=by
 have e1:(op==CmpOp.In)=false:=by cases op<;>first|rfl|exact absurd rfl h
 have e2:(op==CmpOp.NotIn)=false:=by cases op<;>first|rfl|exact absurd rfl h2
 cases b<;>simp[behindInMarks,e1,e2]
theorem zlz{op:CmpOp}{r:R2}(ho:OpR X (compareOp op) r)(ha:PE X a ta)(hb:PE X b tb)(hm:behindInMarks op b=false):PE X (.Compare a [op] [b] pos) (tOp r ta tb):=by
 intro pins s σ H Q I h
 exact wpAny_Compare1 (binT ha hb I h fun v u s2 x y H2 I2 rx ry q=>ho pins s2 σ H2 x y v u Q I2 rx ry q) hm
def tTest(t:TE):TT:=fun σ H Q=>t σ H fun x H'=>∃ k,x = .bl k∧Q k H'
theorem zlA{op:CmpOp}{r:R2}(ho:OpR X (compareOp op) r)(ha:PE X a ta)(hb:PE X b tb)(hm:behindInMarks op b=false):PT X (.Compare a [op] [b] pos) (tTest (tOp r ta tb)):=by
 intro pins s σ H Q I h
 refine wpAny_isTrue_Compare1 (thn (ha pins s σ H _ I h) fun v s1 hZ=>hZ.elim fun x hZ=>hZ.elim fun H1 hZ=>hZ.elim fun I1 hZ=>hZ.elim fun r1 q1=>thn (hb pins s1 σ H1 _ I1 q1) fun u s2 ⟨y,H2,I2,r2,q2⟩ =>
  thn (ho pins s2 σ H2 x y v u _ I2 r1 r2 q2) fun c s3 hZ=>hZ.elim fun z hZ=>hZ.elim fun H3 hZ=>hZ.elim fun I3 hZ=>hZ.elim fun r3 hZ=>hZ.elim fun k hZ=>hZ.elim fun e q3=>?_) hm
 subst e
 cases r3
 exact wpAny_truthy_bool ⟨H3,I3,q3⟩
def zhN(r r':R2)(ta tb tc:TE):TE:=fun σ H Q=>ta σ H fun x H1=>tb σ H1 fun y H2=>r x y H2 fun z H3=>∃ k,z = .bl k ∧
 (if k=true then tc σ H3 fun w' H4=>r' y w' H4 Q else Q (.bl false) H3)
theorem zhO{op op':CmpOp}{r r':R2}(ho:OpR X (compareOp op) r)(ho':OpR X (compareOp op') r')(ha:PE X a ta)(hb:PE X b tb)(hc:PE X c tc)
  (hm:lastMarks [op,op'] [b,c]=false:=by with_unfolding_all rfl):PE X (.Compare a [op,op'] [b,c] pos) (zhN r r' ta tb tc):=by
 intro pins s σ H Q I h
 refine Compare_chain (thn (ha pins s σ H _ I h) fun v s1 hZ=>hZ.elim fun x hZ=>hZ.elim fun H1 hZ=>hZ.elim fun I1 hZ=>hZ.elim fun r1 q1=>chain_link (thn (hb pins s1 σ H1 _ I1 q1) fun u s2 ⟨y,H2,I2,r2,q2⟩ =>
  thn (ho pins s2 σ H2 x y v u _ I2 r1 r2 q2) fun d s3 hZ=>hZ.elim fun z hZ=>hZ.elim fun H3 hZ=>hZ.elim fun I3 hZ=>hZ.elim fun r3 hZ=>hZ.elim fun k hZ=>hZ.elim fun e q3=>?_)) hm
 subst e
 cases r3
 refine wpAny_truthy_bool ?_
 cases k with
 | false=>exact ite_ff ⟨.bl false,H3,I3,rfl,q3⟩
 | true=>exact ite_tt (chain_last (thn (hc pins s3 σ H3 _ I3 q3) fun w' s4 hZ=>hZ.elim fun z' hZ=>hZ.elim fun H4 hZ=>hZ.elim fun I4 hZ=>hZ.elim fun r4 q4=>ho' pins s4 σ H4 y z' u w' Q I4 r2 r4 q4))
def TruV(K:PySem.W.Frag)(x:V)(H:Hp)(k:Bool):Prop :=
 match x with
 | .non=>k=false
 | .bl b=>k=b
 | .int i=>k=(i != 0)
 | .str y=>y.length≤sizeLine∧k=((y.length:Int) != 0)
 | .byt y=>y.size≤sizeLine∧k=((y.size:Int) != 0)
 | .ref p=>(∃ xs,SqL K H p xs∧k=!xs.isEmpty)∨(∃ xs,SqT K H p xs∧k=!xs.isEmpty)∨∃ kvs,H p=some (.dK kvs)∧k=!kvs.isEmpty
 | _=>False
theorem zcz{κ:Type}{kvs:List (κ×V)}{vs:List (κ×Value)}(r:KV kvs vs):(!vs.isEmpty)=!kvs.isEmpty:=by
 cases r<;>rfl
theorem z7Z{xs:List V}{its:List Value}(r:Vals xs its):(!its.toArray.isEmpty)=!xs.isEmpty:=by
 cases r<;>simp
theorem z6v:(sizeLine:Nat)<2 ^ 63:=by rw[sizeLine_eq];decide
theorem tru_ok:TruR X (fun x H Q=>∃ k,TruV X.K x H k∧Q k H):=by
 intro pins s σ H x v Q I rx h
 obtain⟨k,e,q⟩:=h
 have hl:=z6v
 have hs:sizeLine=16777216:=sizeLine_eq
 cases x with
 | non =>
  cases rx
  have e':k=false:=e
  subst e'
  exact truthy_none ⟨H,I,q⟩
 | bl b =>
  cases rx
  have e':k=b:=e
  subst e'
  exact wpAny_truthy_bool ⟨H,I,q⟩
 | int i =>
  obtain⟨t,rfl⟩:=rx
  have e':k=(i != 0):=e
  subst e'
  exact PySem.P.truthy_int ⟨H,I,q⟩
 | str y =>
  obtain⟨t,rfl⟩:=rx
  obtain⟨hy,e'⟩:y.length≤sizeLine∧k=((y.length:Int) != 0):=e
  subst e'
  exact PySem.P.truthy_str (by omega) ⟨H,I.tok _,q⟩
 | byt y =>
  obtain⟨t,rfl⟩:=rx
  obtain⟨hy,e'⟩:y.size≤sizeLine∧k=((y.size:Int) != 0):=e
  subst e'
  exact PySem.W.truthy_bytes (by omega) ⟨H,I.tok _,q⟩
 | ref p =>
  cases rx
  have e':(∃ xs,SqL X.K H p xs∧k=!xs.isEmpty)∨(∃ xs,SqT X.K H p xs∧k=!xs.isEmpty)∨∃ kvs,H p=some (.dK kvs)∧k=!kvs.isEmpty:=e
  rcases e' with⟨xs,hx,e'⟩|⟨xs,hx,e'⟩|⟨kvs,hx,e'⟩
  · subst e'
    obtain⟨its,r,pl,hz⟩:=I.list hx
    have hlen:=r.length
    exact wpAny_truthy_list pl.isList (by simp only[List.size_toArray];omega) ⟨H,I.tok _,by rw[z7Z r];exact q⟩
  · subst e'
    obtain⟨its,r,pl,hz⟩:=I.tuple hx
    have hlen:=r.length
    exact truthy_tuple pl (by simp only[List.size_toArray];omega) ⟨H,I.tok _,by rw[z7Z r];exact q⟩
  · subst e'
    obtain⟨hz,hS,vs,r,m⟩:kvs.length≤sizeLine∧(p==sysModules)=false∧∃ vs,KV kvs vs∧s.heap.DictOf (zax X.prog X.w) p vs:=I.hok p _ hx
    have hlen:kvs.length=vs.length:=Paired.length r
    exact wpAny_truthy_dict hS m (by omega) ⟨H,I.tok _,by rw[zcz r];exact q⟩
 | _=>exact(show False from e).elim
theorem zhP(ha:PE X a ta)(he:∀ whole,isTrue a X.env whole=(do let v ←whole;standAt a.pos;holding [v] (truthy v))):
  PT X a (fun σ H Q=>ta σ H fun x H'=>∃ k,TruV X.K x H' k∧Q k H'):=by
 intro pins s σ H Q I h
 exact isTrue_plain (thn (ha pins s σ H _ I h) fun v s1 hZ=>hZ.elim fun x hZ=>hZ.elim fun H1 hZ=>hZ.elim fun I1 hZ=>hZ.elim fun r1 q1=>tru_ok pins s1 σ H1 x v Q I1 r1 q1) (he _)
theorem z9q{x:V}{us:List Value}(r:Vals [x] us):∃ u,us=[u]∧RelV x u:=by
 cases r with
 | cons r1 r2=>cases r2;exact⟨_,rfl,r1⟩
theorem vals2{x y:V}{us:List Value}(r:Vals [x,y] us):∃ u w',us=[u,w']∧RelV x u∧RelV y w':=by
 cases r with
 | cons r1 r2 =>
  cases r2 with
  | cons r3 r4=>cases r4;exact⟨_,_,rfl,r1,r3⟩
theorem zhQ:CallR X (.builtin "abs") (fun xs H Q=>∃ i,xs=[.int i]∧Q (.int (if i<0 then -i else i)) H):=by
 intro pins s σ H xs us Q I r h
 obtain⟨i,rfl,q⟩:=h
 obtain⟨u,rfl,t,rfl⟩:=z9q r
 exact call_abs_int fun u tk=>⟨.int (if i<0 then -i else i),H,I.tok _,⟨_,rfl⟩,q⟩
theorem z9r:CallR X (.type "int") (fun xs H Q=>(∃ i,xs=[.int i]∧Q (.int i) H)∨∃ k,xs=[.bl k]∧Q (.int (if k then 1 else 0)) H):=by
 intro pins s σ H xs us Q I r h
 rcases h with⟨i,rfl,q⟩|⟨k,rfl,q⟩
 · obtain⟨u,rfl,t,rfl⟩:=z9q r
   exact call_int_int ⟨.int i,H,I,⟨_,rfl⟩,q⟩
 · obtain⟨u,rfl,r1⟩:=z9q r
   cases r1
   exact call_int_bool ⟨.int (if k then 1 else 0),H,I.tok _,⟨_,rfl⟩,q⟩
end
end L2
namespace L2
open PySem PySem.Spec PyProof.Rows
structure ObjM(h:Heap)(x dx C:Addr)(mA:Str→Option Value):Prop where
 obj:h.get? x=some (PySem.W.instObj C dx)
 ns:h.Ns1 dx mA
 ne:dx≠x
theorem zgY{h:Heap}{dx:Addr}{mA:Str→Option Value}(n:h.Ns1 dx mA):∃ od,h.get? dx=some od∧∀ name,PySem.W.lookIn name od=some (mA name):=by
 obtain⟨o,es,ep,ho,hd,hk,_,hm⟩:=n
 refine⟨o,ho,fun name=>?_⟩
 have e:=hm name
 unfold nsFind findBy at e
 rw[←Array.find?_toList]at e
 unfold PySem.W.lookIn
 rw[hd]
 dsimp only
 split
 · rename_i y q
   rw[q]at e
   exact congrArg some e
 · rename_i q
   rw[q]at e
   have a:es.toList.any (·.refKey)=false:=by
    rw[List.any_eq_false]
    intro y hy
    obtain⟨z,t,hkey⟩:=hk y (Array.mem_toList_iff.mp hy)
    simp[DictEntry.refKey,hkey]
   have a':¬es.toList.any (·.refKey)=true:=by rw[a];exact Bool.false_ne_true
   rw[if_neg a']
   exact congrArg some e
theorem ObjM.look{h:Heap}{x dx C:Addr}{mA:Str→Option Value}(I:ObjM h x dx C mA):∃ od,PySem.W.InstAt h x (PySem.W.instObj C dx) C (some od)∧∀ name,PySem.W.lookIn name od=some (mA name) :=
 let ⟨od,ho,hl⟩:=zgY I.ns
 ⟨od,⟨I.obj,rfl,rfl,ho⟩,hl⟩
section
variable {prog:Program}{w:World}{A:Around}{E:Value→Shared→Prop}{s:Shared}{K:PySem.W.Frag}{x dx C f:Addr}{mA:Str→Option Value}{name:Str}{v:Value}
end
theorem RelO.none_of{o:Option Value}(r:RelO none o):o=none:=by
 cases o with
 | none=>rfl
 | some u=>exact(show False from r).elim
section
variable {P:Program}{w:World}{H H':Hp}{h h':Heap}{a C dx:Addr}{fs fs':List (Str×V)}
theorem zlB(hok:HOk P w H h)(e:H a=some (.ins C dx fs)):∃ mA,ObjM h a dx C mA∧(∀ f,RelO (fs.lookup f) (mA f))∧PySem.Within mA (fs.map (·.1))∧fs.length≤1000∧H dx=some (.own a):=by
 obtain⟨d,z,ne,ob,mA,n,r,q⟩:=(show ObjOk P w H h a (.ins C dx fs)from hok a _ e)
 exact⟨mA,⟨ob,n,ne⟩,r,q,z,d⟩
end
structure Cls(K:PySem.W.Frag)(C:Addr):Prop where
 pg:PySem.W.plainGet K C Str.empty=true
 hd:PySem.W.hasDictIn K C=true
 po:PySem.W.plainOver K C=true
 sa:PySem.W.findIn K (.ref C) "__setattr__" = some (some (.builtin "object.__setattr__"))
theorem Cls.get{K:PySem.W.Frag}{C:Addr}(c:Cls K C)(f:Str):PySem.W.plainGet K C f=true:=c.pg
structure Con(K:PySem.W.Frag)(C:Addr)(f:Str)(v:V)(u:Value):Prop where
 at_:PySem.W.findIn K (.ref C) f=some (some u)
 rel:RelV v u
 get:PySem.W.specialIn K u "__get__" = some none
 cp:PySem.W.copiedNames.contains f=false
structure Meth(K:PySem.W.Frag)(C:Addr)(m:Str)(f:Addr):Prop where
 at_:PySem.W.findIn K (.ref C) m=some (some (.ref f))
 fn:PySem.W.isFn K (.ref f)=true
 kp:PySem.W.keepIn K (.ref f)=true
section
variable {X:Cx}{pins:List (Addr×Obj)}{σ:St}{H:Hp}{s:Shared}{a C dx:Addr}{fs:List (Str×V)}{f:Str}{v:V}{A:Around}{E:Value→Shared→Prop}
theorem Inv.made(I:Inv X pins σ H s):Inv X pins σ (upd (upd H s.heap.objs.size (.own (s.heap.objs.size+1))) (s.heap.objs.size+1) (.ins C s.heap.objs.size []))
  { s with heap:=(s.heap.push PySem.W.emptyDict).push (PySem.W.instObj C s.heap.objs.size) }:=by
 have e1:(s.heap.push PySem.W.emptyDict).get? s.heap.objs.size=some PySem.W.emptyDict:=Heap.get?_push_size s.heap rfl
 have e2:((s.heap.push PySem.W.emptyDict).push (PySem.W.instObj C s.heap.objs.size)).get? (s.heap.objs.size+1)=some (PySem.W.instObj C s.heap.objs.size):=by
  have:=Heap.get?_push_size (s.heap.push PySem.W.emptyDict) (o:=PySem.W.instObj C s.heap.objs.size) rfl
  rwa [Heap.size_push]at this
 have e3:(s.heap.push PySem.W.emptyDict).Ns s.heap.objs.size (fun _=>none):=⟨PySem.W.emptyDict,#[],_,e1,rfl,(fun e he=>absurd he (by simp)),fun _=>rfl⟩
 have I1:=I.laid (a:=s.heap.objs.size) (o := .own (s.heap.objs.size+1)) (h':=s.heap.push PySem.W.emptyDict) (t':=s.toks) (fun b u q=>Heap.get?_push_of_some _ q) (Nat.le_refl _) ⟨_,e1⟩
 refine I1.laid (a:=s.heap.objs.size+1) (o := .ins C s.heap.objs.size []) (t':=s.toks) (fun b u q=>Heap.get?_push_of_some _ q) (Nat.le_of_eq (Heap.size_push _ _)) ?_
 have ne:s.heap.objs.size≠s.heap.objs.size+1:=Nat.ne_of_lt (Nat.lt_succ_self _)
 refine⟨by rw[z0m ne,z0A],Nat.zero_le _,ne,e2,fun _=>none,(Heap.Ns1.of_empty e3).at fun o q=>Heap.get?_push_of_some _ q,fun _=>True.intro,fun y hy=>absurd rfl hy⟩
end
section
variable {X:Cx}{o e value:Expr}{f:Str}{pos pos' tpos:Pos}{ta tv:TE}
end
section
variable {X:Cx}{pins:List (Addr×Obj)}{σ:St}{H:Hp}{s:Shared}{A:Around}{E:Value→Shared→Prop}{Q:Value→Shared→Prop}{c:Value}{b:Bool}
inductive TyOf (K:PySem.W.Frag) (H:Hp):V→Value→Prop where
 | non:TyOf K H .non (.type "NoneType")
 | bl (x:Bool):TyOf K H (.bl x) (.type "bool")
 | int (i:Int):TyOf K H (.int i) (.type "int")
 | str (x:Str):TyOf K H (.str x) (.type "str")
 | flt (x:UInt64):TyOf K H (.flt x) (.type "float")
 | lst {a:Addr} {xs:List V} (e:H a=some (.lst xs)):TyOf K H (.ref a) (.type "list")
 | frz {a:Addr} {o:Obj} {xs:List V} (e:H a=some (.frz o (.lst xs))):TyOf K H (.ref a) (.type "list")
 | tup {a:Addr} {xs:List V} (e:H a=some (.tup xs)):TyOf K H (.ref a) (.type "tuple")
 | dK {a:Addr} {kvs:List (Key×V)} (e:H a=some (.dK kvs)):TyOf K H (.ref a) (.type "dict")
 | dT {a:Addr} {kvs:List (List Key×V)} (e:H a=some (.dT kvs)):TyOf K H (.ref a) (.type "dict")
 | ins {a C dx:Addr} {fs:List (Str×V)} (e:H a=some (.ins C dx fs)) (cl:Cls K C) (ha:PySem.W.findIn K (.ref C) "__class__" = some (some (.builtin "object.__class__")))
  (hn:PySem.W.specialIn K (.builtin "object.__class__") "__get__" = some (some (.builtin "getset_descriptor.__get__"))) (htk:PySem.W.takesIn K (.builtin "object.__class__")=some true)
  (hm:PySem.W.mroIn K C (.type "object")=some true):TyOf K H (.ref a) (.ref C)
theorem z4Q{x:V}{u t:Value}(I:Inv X pins σ H s)(rx:RelV x u)(ty:TyOf X.K H x t)(e:PySem.W.kitOne X.K t c=some b)(h:∀ tk,Q (.bool b) { s with toks:=tk }):
  wpAny (model X.prog X.w) A (call (.builtin "isinstance") [u,c]) Q E s:=by
 cases ty with
 | non=>cases (show u=Value.none from rx);exact PySem.W.kia_one PySem.W.kitx_none I.kIn True.intro e (fun z=>nomatch z) h
 | bl y=>cases (show u=Value.bool y from rx);exact PySem.W.kia_one PySem.W.kitx_bool I.kIn True.intro e (fun z=>nomatch z) h
 | int i=>obtain⟨t,q⟩:=(show ∃ t,u=Value.int i t from rx);cases q;exact PySem.W.kia_one PySem.W.kitx_int I.kIn True.intro e (fun z=>nomatch z) h
 | str y=>obtain⟨t,q⟩:=(show ∃ t,u=Value.str y t from rx);cases q;exact PySem.W.kia_one PySem.W.kitx_str I.kIn True.intro e (fun z=>nomatch z) h
 | flt y=>obtain⟨t,q⟩:=(show ∃ t,u=Value.float y t from rx);cases q;exact PySem.W.kia_one PySem.W.kitx_float I.kIn True.intro e (fun z=>nomatch z) h
 | @lst a xs ea =>
  cases (show u=Value.ref a from rx)
  obtain⟨_,_,n,_,h1⟩:=(show ObjOk X.prog X.w H s.heap a (.lst xs)from I.hok a _ ea)
  exact PySem.W.kia_one PySem.W.kitx_list I.kIn ⟨_,h1,rfl⟩ e (fun z=>nomatch z) h
 | @frz a ob xs ea =>
  cases (show u=Value.ref a from rx)
  obtain⟨_,_,_,n,_,h1⟩:=(show ObjOk X.prog X.w H s.heap a (.frz ob (.lst xs))from I.hok a _ ea)
  exact PySem.W.kia_one PySem.W.kitx_list I.kIn ⟨_,h1,rfl⟩ e (fun z=>nomatch z) h
 | @tup a xs ea =>
  cases (show u=Value.ref a from rx)
  obtain⟨_,_,_,p⟩:=(show ObjOk X.prog X.w H s.heap a (.tup xs)from I.hok a _ ea)
  obtain⟨o,h1,h2,_⟩:=p
  exact PySem.W.kia_one PySem.W.kitx_tuple I.kIn ⟨o,h1,h2⟩ e (fun z=>nomatch z) h
 | @dK a kvs ea =>
  cases (show u=Value.ref a from rx)
  obtain⟨_,_,vs,_,p⟩:=(show ObjOk X.prog X.w H s.heap a (.dK kvs)from I.hok a _ ea)
  obtain⟨o,es,ep,h1,h2,_⟩:=p
  exact PySem.W.kia_one PySem.W.kitx_dict I.kIn ⟨o,h1,h2.1⟩ e (fun z=>nomatch z) h
 | @dT a kvs ea =>
  cases (show u=Value.ref a from rx)
  obtain⟨_,_,xs,_,o,es,ep,h1,h2,_⟩:=(show ObjOk X.prog X.w H s.heap a (.dT kvs)from I.hok a _ ea)
  exact PySem.W.kia_one PySem.W.kitx_dict I.kIn ⟨o,h1,h2.1⟩ e (fun z=>nomatch z) h
 | @ins a C dx fs ea cl ha hn htk hm =>
  cases (show u=Value.ref a from rx)
  obtain⟨mA,O,_⟩:=zlB I.hok ea
  obtain⟨od,J,_⟩:=O.look
  exact PySem.W.kia_one (PySem.W.kitx_own (cl.get _) cl.hd ha hn htk hm) I.kIn J e (fun z=>nomatch z) h
end
end L2
namespace L2
open PySem PySem.Spec PyProof.Rows
structure Room(k:Nat)(A:Around):Prop where
 hd:A.handled=none
 dp:A.depth+3*k+5<recursionLimit
 un:A.units+16*k+200<cLine
theorem Room.mono{j k:Nat}{A:Around}(r:Room k A)(h:j≤k):Room j A:=⟨r.hd,by have:=r.dp;omega,by have:=r.un;omega⟩
theorem Room.deeper{k:Nat}{A:Around}(r:Room (k+1) A)(env:Env):Room k (A.deeper env) :=
 ⟨r.hd,by have:=r.dp;show A.depth+1+3*k+5<_;omega,by have:=r.un;show A.units+3+16*k+200<_;omega⟩
theorem Room.in1{k:Nat}{A:Around}(r:Room (k+1) A):Room k A.in1 :=
 ⟨r.hd,by have:=r.dp;show A.depth+3*k+5<_;omega,by have:=r.un;show A.units+1+16*k+200<_;omega⟩
theorem Room.depth{k:Nat}{A:Around}(r:Room k A):A.depth<recursionLimit:=by have:=r.dp;omega
theorem Room.units{k:Nat}{A:Around}(r:Room k A):A.units+64<cLine:=by have:=r.un;omega
def tNil:TA:=fun _ H Q=>Q [] H
def tCons(ta:TE)(tr:TA):TA:=fun σ H Q=>ta σ H fun x H1=>tr σ H1 fun xs H2=>Q (x::xs) H2
section
variable {X:Cx}{e:Expr}{es:List Expr}{te:TE}{t:TA}{pos:Pos}
theorem z6w:PA X [] tNil:=fun _ _ _ _ H Q I h=>Calls.spliced_nil ⟨[],H,I,.nil,h⟩
theorem z2C(ha:PE X e te)(hr:PA X es t)(hs:starEach (e::es) X.env=(false,eval e X.env)::starEach es X.env:=by rfl):PA X (e::es) (tCons te t):=by
 intro pos pins s σ H Q I h
 rw[hs]
 show wpAny _ _ (spliced ((false,eval e X.env)::backTo pos (starEach es X.env))) _ _ s
 refine Calls.spliced_cons (thn (ha pins s σ H _ I h) ?_)
 rintro u s1 ⟨x,H1,I1,r1,q1⟩
 exact thn (hr pos pins s1 σ H1 _ I1 q1) fun us s2 hZ=>hZ.elim fun xs hZ=>hZ.elim fun H2 hZ=>hZ.elim fun I2 hZ=>hZ.elim fun r2 q2=>⟨x::xs,H2,I2,.cons r1 r2,q2⟩
def tTup(t:TA):TE:=fun σ H Q=>t σ H fun xs H1=>xs.length≤sizeLine∧∀ p,H1 p=none→Q (.ref p) (upd H1 p (.tup xs))
def tLst(t:TA):TE:=fun σ H Q=>t σ H fun xs H1=>xs.length≤sizeLine∧∀ p,H1 p=none→Q (.ref p) (upd H1 p (.lst xs))
theorem pe_tup{x1}(h:PA X es t):PE X (.Tuple es x1 pos) (tTup t):=by
 intro pins s σ H Q I hq
 refine wpAny_Tuple_spliced (thn (h pos pins s σ H _ I hq) fun us s1 hZ=>hZ.elim fun xs hZ=>hZ.elim fun H1 hZ=>hZ.elim fun I1 hZ=>hZ.elim fun r hZ=>hZ.elim fun z q=>⟨by rw[←r.length];exact z,?_⟩)
 have hf:H1 s1.heap.objs.size=none:=I1.hok.fresh (Nat.le_refl _)
 refine⟨.ref s1.heap.objs.size,upd H1 s1.heap.objs.size (.tup xs),I1.laid (t':=s1.toks) (fun b u e=>Heap.get?_push_of_some _ e) (Nat.le_refl _) ?_,rfl,q _ hf⟩
 exact⟨z,us,r,⟨_,Heap.get?_push_size _ rfl,rfl,_,rfl⟩⟩
theorem pe_lst(h:PA X es t):PE X (.List es pos) (tLst t):=by
 intro pins s σ H Q I hq
 refine wpAny_List_spliced (thn (h pos pins s σ H _ I hq) fun us s1 hZ=>hZ.elim fun xs hZ=>hZ.elim fun H1 hZ=>hZ.elim fun I1 hZ=>hZ.elim fun r hZ=>hZ.elim fun z q=>⟨by rw[←r.length];exact z,?_⟩)
 have hf:H1 s1.heap.objs.size=none:=I1.hok.fresh (Nat.le_refl _)
 refine⟨.ref s1.heap.objs.size,upd H1 s1.heap.objs.size (.lst xs),I1.laid (t':=s1.toks) (fun b u e=>Heap.get?_push_of_some _ e) (Nat.le_refl _) ?_,rfl,q _ hf⟩
 exact⟨z,us,0,r,Heap.get?_push_size _ rfl⟩
end
abbrev Sp:=List V→Hp→VK→XK→Prop
abbrev CXT:=List Env→Hp→Shared→XK→Value→Shared→Prop
structure Env0(P:Program)(w:World)(K:PySem.W.Frag)(mg:Str→Option Value)(base:Heap)(A:Around)(outer:List Env)(s:Shared)(H:Hp):Prop where
 frames:A.frames=some outer
 mod:Mod K mg base
 bs:∀ b o,base.get? b=some o→s.heap.get? b=some o∧H b=none
 bsz:base.objs.size≤s.heap.objs.size
 funs:s.heap.FunFrames base outer
 frf:∀ b∈frs outer,H b=none
 hok:HOk P w H s.heap
 bare:AllBare s.gens
def CE(outer:List Env)(P:Program)(w:World)(H:Hp)(s:Shared)(Q:VK)(u:Value)(s':Shared):Prop :=
 ∃ v H',s'.os=s.os∧AllBare s'.gens∧Un (frs outer) [] H H' s.heap s'.heap∧HOk P w H' s'.heap∧RelV v u∧Q v H'
def CR(CX:CXT)(outer:List Env)(P:Program)(w:World)(H:Hp)(s:Shared)(Q:VK)(E:XK)(r:Result)(s':Shared):Prop :=
 match r with
 | .ok (.ret u)=>CE outer P w H s Q u s'
 | .ok _=>False
 | .error e=>CX outer H s E e s'
structure FnOk(P:Program)(w:World)(K:PySem.W.Frag)(mg:Str→Option Value)(base:Heap)(CX:CXT)(k:Nat)(f:Addr)(fd:FuncData)(ps:List Str)(sp:Sp):Prop where
 len:∀ vs H Q E,sp vs H Q E→vs.length=ps.length
 run:∀(A:Around) (outer:List Env) (s:Shared) (H:Hp) (args:Args) (us:List Value) (vs:List V) (Q:VK) (E:XK),Room k A→Env0 P w K mg base A outer s H→BindsTo s fd args (ps.zip us)→Vals vs us→sp vs H Q E →
  codeAny (model P w) A (.call (.ref f) args) (CR CX outer P w H s Q E) s
theorem FnOk.mono{P:Program}{w:World}{K:PySem.W.Frag}{mg:Str→Option Value}{base:Heap}{CX:CXT}{j k:Nat}{f:Addr}{fd:FuncData}{ps:List Str}{sp:Sp}(F:FnOk P w K mg base CX j f fd ps sp)(h:j≤k):
 FnOk P w K mg base CX k f fd ps sp:=⟨F.len,fun A outer s H args us vs Q E hr=>F.run A outer s H args us vs Q E (hr.mono h)⟩
theorem FnOk.imp{P:Program}{w:World}{K:PySem.W.Frag}{mg:Str→Option Value}{base:Heap}{CX:CXT}{k:Nat}{f:Addr}{fd:FuncData}{ps:List Str}{sp sp':Sp}(F:FnOk P w K mg base CX k f fd ps sp)
  (h:∀ vs H Q E,sp' vs H Q E→sp vs H Q E):FnOk P w K mg base CX k f fd ps sp' :=
 ⟨fun vs H Q E q=>F.len vs H Q E (h _ _ _ _ q),fun A outer s H args us vs Q E hr he hb hv hs=>F.run A outer s H args us vs Q E hr he hb hv (h _ _ _ _ hs)⟩
theorem Env0.in1{P:Program}{w:World}{K:PySem.W.Frag}{mg:Str→Option Value}{base:Heap}{A:Around}{outer:List Env}{s:Shared}{H:Hp}(e:Env0 P w K mg base A outer s H):
 Env0 P w K mg base A.in1 outer s H:=⟨e.frames,e.mod,e.bs,e.bsz,e.funs,e.frf,e.hok,e.bare⟩
section
variable {X:Cx}{pins:List (Addr×Obj)}{σ:St}{H:Hp}{s s':Shared}
theorem Inv.env0(I:Inv X pins σ H s):Env0 X.prog X.w X.K X.mg X.base X.A X.stack s H :=
 ⟨I.ok.frames,I.ok.mod,I.bs,Nat.le_trans I.ok.bsz I.sz,I.stack,I.stkFree,I.hok,I.bare⟩
theorem Inv.after{Q:VK}{u:Value}(I:Inv X pins σ H s)(h:CE X.stack X.prog X.w H s Q u s'):EP X pins σ Q u s':=by
 obtain⟨v,H',os,bare,un,hok,r,q⟩:=h
 obtain⟨hh,g,d,t,os'⟩:=s'
 obtain rfl:os'=s.os:=os
 exact⟨v,H',I.call (h':=hh) (g':=g) (d':=d) (t':=t) (ch:=[]) un hok bare (fun b z=>absurd z (by simp)),r,q⟩
end
def tCall(sp:Sp)(dvs:List V)(E:XK)(t:TA):TE:=fun σ H Q=>t σ H fun vs H1=>sp (vs++dvs) H1 Q E
def Binds(K:PySem.W.Frag)(fd:FuncData)(ps:List Str)(ds:List Value):Prop :=
 ∀(s:Shared) (us:List Value),K.In s.heap→(us++ds).length=ps.length→BindsTo s fd ⟨us,[]⟩ (ps.zip (us++ds))
theorem Binds.all{K:PySem.W.Frag}{fd:FuncData}{ps:List Str}(h:∀ us:List Value,us.length=ps.length→bindArgs fd ⟨us,[]⟩=pure (ps.zip us)):Binds K fd ps []:=fun s us _ hl=>by
 rw[List.append_nil]at hl ⊢
 exact .of_eq (h us hl)
def z5m(CX:CXT)(X:Cx)(E:XK):Prop:=∀(pins:List (Addr×Obj)) (σ:St) (H:Hp) (s:Shared) (e:Value) (s':Shared),Inv X pins σ H s→CX X.stack H s E e s'→X.xe e s'
section
variable {X:Cx}{CX:CXT}{k:Nat}{f C:Addr}{fd:FuncData}{ps:List Str}{sp:Sp}{dvs:List V}{ds:List Value}{E:XK}{x m:Str}{p pos apos:Pos}{e o:Expr}{es:List Expr}{ta:TE}{t:TA}
theorem run_fn{pins:List (Addr×Obj)}{σ:St}{H:Hp}{s:Shared}{Q:VK}{us:List Value}{vs:List V}(F:FnOk X.prog X.w X.K X.mg X.base CX k f fd ps sp)(hr:Room k X.A)(hb:Binds X.K fd ps ds)(hd:Vals dvs ds)(hx:z5m CX X E)
  (I:Inv X pins σ H s) (r:Vals vs us) (h:sp (vs++dvs) H Q E):wpAny (model X.prog X.w) X.A (call (.ref f) us) (EP X pins σ Q) X.xe s:=by
 have r2:Vals (vs++dvs) (us++ds):=r.append hd
 have hl:(us++ds).length=ps.length:=by rw[←r2.length];exact F.len _ _ _ _ h
 refine wpAny_call (codeAny_mono (F.run X.A X.stack s H ⟨us,[]⟩ (us++ds) (vs++dvs) Q E hr I.env0 (hb s us I.kIn hl) r2 h) fun r s' hq=>?_)
 cases r with
 | error e=>exact hx pins σ H s e s' I hq
 | ok fl =>
  cases fl with
  | ret u=>exact I.after hq
  | next=>exact False.elim hq
  | brk=>exact False.elim hq
  | cont=>exact False.elim hq
theorem zay(F:FnOk X.prog X.w X.K X.mg X.base CX k f fd ps sp)(hr:Room k X.A)(hg:Gl X x)(hm:X.mg x=some (.ref f))(hk:PySem.W.keepIn X.K (.ref f)=true)(hb:Binds X.K fd ps ds)(hd:Vals dvs ds)(hx:z5m CX X E)
  (ha:PA X (e::es) t) (hdb:(x==("__debug__" : Str))=false:=by decide) (he:starEach (e::es) X.env=(false,eval e X.env)::starEach es X.env:=by rfl) (hpl:(backTo pos (starEach es X.env)).any (·.1)=false:=by rfl) :
  PE X (.Call (.Name x p) (e::es) [] pos) (tCall sp dvs E t):=by
 intro pins s σ H Q I h
 refine wpAny_Call_Name_kw (z5L I hg hm ?_ hdb)
 refine PySem.W.callWith_K (h₀:=X.base) I.ok.mod.kin hk (thn (ha pos pins s σ H _ I h) fun us s1 hZ=>hZ.elim fun vs hZ=>hZ.elim fun H1 hZ=>hZ.elim fun I1 hZ=>hZ.elim fun r q=>⟨I1.kIn,?_⟩) he hpl
 exact run_fn F hr hb hd hx I1 r q
structure Mk(K:PySem.W.Frag)(C f:Addr):Prop where
 makes:PySem.W.makesIn K C=true
 init:PySem.W.findIn K (.ref C) "__init__" = some (some (.ref f))
 fn:PySem.W.isFn K (.ref f)=true
 kp:PySem.W.keepIn K (.ref C)=true
end
def PK(X:Cx)(kws:List Keyword)(t:TA):Prop :=
 ∀(pos:Pos) (pins:List (Addr×Obj)) (s:Shared) (σ:St) (H:Hp) (Q:List V→Hp→Prop),Inv X pins σ H s→t σ H Q→wpAny (model X.prog X.w) X.A (evalAll ((backToKw pos (keywordEach kws X.env)).map (·.2))) (AP X pins σ Q) X.xe s
section
variable {X:Cx}{CX:CXT}{k:Nat}{f C:Addr}{fd:FuncData}{ps ks:List Str}{sp:Sp}{E:XK}{x m:Str}{p pos apos kpos:Pos}{e o:Expr}{es:List Expr}{kws:List Keyword}{te ta:TE}{t tk:TA}{nm:Option Str}
theorem zhR:PK X [] tNil:=fun _ _ _ _ H Q I h=>wpAny_evalAll_nil ⟨[],H,I,.nil,h⟩
theorem zfW(ha:PE X e te)(hr:PK X kws t):PK X (⟨nm,e,kpos⟩::kws) (tCons te t):=by
 intro pos pins s σ H Q I h
 show wpAny _ _ (evalAll ((do let v ←eval e X.env;standAt pos;pure v)::(backToKw pos (keywordEach kws X.env)).map (·.2))) _ _ s
 refine wpAny_evalAll_cons (wpAny_bind (thn (ha pins s σ H _ I h) fun u s1 hZ=>hZ.elim fun x hZ=>hZ.elim fun H1 hZ=>hZ.elim fun I1 hZ=>hZ.elim fun r1 q1=>wpAny_bind (wpAny_standAt (wpAny_pure ?_))))
 exact thn (hr pos pins s1 σ H1 _ I1 q1) fun us s2 hZ=>hZ.elim fun xs hZ=>hZ.elim fun H2 hZ=>hZ.elim fun I2 hZ=>hZ.elim fun r2 q2=>⟨x::xs,H2,I2,.cons r1 r2,q2⟩
structure KBinds(K:PySem.W.Frag)(fd:FuncData)(ps ks:List Str)(g:List Value→List Value→List Value)(gV:List V→List V→List V):Prop where
 to:∀(s:Shared) (us ws:List Value),K.In s.heap→(g us ws).length=ps.length→BindsTo s fd ⟨us,ks.zip ws⟩ (ps.zip (g us ws))
 rel:∀{vs:List V} {us:List Value} {zs:List V} {ws:List Value},Vals vs us→Vals zs ws→Vals (gV vs zs) (g us ws)
variable {g:List Value→List Value→List Value}{gV:List V→List V→List V}
end
structure FnScope(N P:List Str)(sc:Scope):Prop where
 kind:sc.kind = .function
 co:sc.isCoroutine=false
 gen:sc.isGenerator=false
 nd:N.Nodup
 pre:N.take P.length=P
 par:∀ x∈P,sc.names.lookup x=some .local∨sc.names.lookup x=some .cell
 nofree:∀ y∈sc.names,y.2 ≠ .free
theorem z9s{kindOf:Str→Option NameKind}{x:Str}:∀{binds:List (Str×Value)} {m:Str→Option Value},(∀ v,(x,v) ∉ binds)→bindL kindOf binds m x=m x
 | [],_,_=>rfl
 | (n,v)::r,m,h=>by
  unfold bindL
  rw[z9s fun w hw=>h w (List.mem_cons_of_mem _ hw)]
  split
  · have:x≠n:=by rintro rfl;exact h v List.mem_cons_self
    simp[this]
  · rfl
theorem z9t{kindOf:Str→Option NameKind}{x:Str}:∀{binds:List (Str×Value)} {m:Str→Option Value},(∀ v,(x,v) ∉ binds)→bindC kindOf binds m x=m x
 | [],_,_=>rfl
 | (n,v)::r,m,h=>by
  unfold bindC
  rw[z9t fun w hw=>h w (List.mem_cons_of_mem _ hw)]
  split
  · rfl
  · have:x≠n:=by rintro rfl;exact h v List.mem_cons_self
    simp[this]
theorem z9u{kindOf:Str→Option NameKind}{x:Str}{v:Value}:∀{P:List Str} {vs:List Value} {i:Nat} {m:Str→Option Value},P.Nodup→P[i]?=some x→vs[i]?=some v→kindOf x=some .local →
  bindL kindOf (P.zip vs) m x=some v
 | [],_,_,_,_,h,_,_=>by simp at h
 | _::_,[],_,_,_,_,h,_=>by simp at h
 | p::P,w::vs,0,m,nd,h1,h2,hk=>by
  simp at h1 h2;subst h1;subst h2
  show bindL kindOf ((p,w)::P.zip vs) m p=_
  unfold bindL
  rw[z9s fun v hv=>(List.nodup_cons.mp nd).1 (List.of_mem_zip hv).1,if_pos hk]
  simp
 | p::P,w::vs,i+1,m,nd,h1,h2,hk=>by
  show bindL kindOf ((p,w)::P.zip vs) m x=_
  unfold bindL
  exact z9u (i:=i) (List.nodup_cons.mp nd).2 (by simpa using h1) (by simpa using h2) hk
theorem z9v{kindOf:Str→Option NameKind}{x:Str}{v:Value}:∀{P:List Str} {vs:List Value} {i:Nat} {m:Str→Option Value},P.Nodup→P[i]?=some x→vs[i]?=some v→kindOf x≠some .local →
  bindC kindOf (P.zip vs) m x=some v
 | [],_,_,_,_,h,_,_=>by simp at h
 | _::_,[],_,_,_,_,h,_=>by simp at h
 | p::P,w::vs,0,m,nd,h1,h2,hk=>by
  simp at h1 h2;subst h1;subst h2
  show bindC kindOf ((p,w)::P.zip vs) m p=_
  unfold bindC
  rw[z9t fun v hv=>(List.nodup_cons.mp nd).1 (List.of_mem_zip hv).1,if_neg hk]
  simp
 | p::P,w::vs,i+1,m,nd,h1,h2,hk=>by
  show bindC kindOf ((p,w)::P.zip vs) m x=_
  unfold bindC
  exact z9v (i:=i) (List.nodup_cons.mp nd).2 (by simpa using h1) (by simpa using h2) hk
def start(N:List Str)(vs:List V):St:=vs.map some++List.replicate (N.length-vs.length) none
def cxOf(CX:CXT)(P:Program)(w:World)(K:PySem.W.Frag)(mg:Str→Option Value)(base:Heap)(N:List Str)(qual:Str)(scope:Scope)(f:Addr)(cd:Value)(A:Around)(outer:List Env)(s:Shared)(H:Hp)(E:XK):Cx where
 prog:=P
 w:=w
 K:=K
 mg:=mg
 base:=base
 A:=A.deeper (envOfC qual scope s.heap.objs.size f cd)
 N:=N
 s₀:=s
 H₀:=H
 env:=envOfC qual scope s.heap.objs.size f cd
 outer:=outer
 stack:=envOfC qual scope s.heap.objs.size f cd::outer
 ex:=[]
 calm:=true
 fn:=fun _=>true
 pn:=[]
 xe:=fun e s'=>wpAny (model P w) (A.deeper (envOfC qual scope s.heap.objs.size f cd)) (leaving (envOfC qual scope s.heap.objs.size f cd) e) (fun _ s''=>CX outer H s E e s'') (fun e' s''=>CX outer H s E e' s'') s'
theorem zbl{sc:Scope}{n:Nat}{x:Str}(h:sc.names.lookup x=some .cell):∃ c,(cellsFrom n sc.names []).lookup x=some c:=by
 have q:=PySem.W.cellsFrom_some sc.names n [] (.inl h)
 exact Option.isSome_iff_exists.mp q
theorem zgZ{CX:CXT}{P:Program}{w:World}{K:PySem.W.Frag}{mg:Str→Option Value}{base:Heap}{N ps:List Str}{qual:Str}{scope:Scope}{f:Addr}{cd:Value}{A:Around}{outer:List Env}{s s1:Shared}{H:Hp}{E:XK}{us:List Value}{vs:List V}
   (S:FnScope N ps scope) (hd:A.handled=none) (e0:Env0 P w K mg base A outer s H) (hl:vs.length=ps.length) (r:Vals vs us)
   (x:InCallC s s.heap.objs.size (bindL (envOfC qual scope s.heap.objs.size f cd).kindOf (ps.zip us) fun _=>none) (cellsFrom (s.heap.objs.size+1) scope.names []) (bindC (envOfC qual scope s.heap.objs.size f cd).kindOf (ps.zip us) fun _=>none) s1) :
   Inv (cxOf CX P w K mg base N qual scope f cd A outer s H E) [] (start N vs) H s1:=by
 have hpl:ps.length≤N.length:=by have:=congrArg List.length S.pre;rw[List.length_take]at this;omega
 obtain⟨h1,tk,rfl,hk⟩:=x.done
 have noA:∀ b:Addr,b ∉ (cxOf CX P w K mg base N qual scope f cd A outer s H E).ex:=fun b z=>absurd (show b∈([]:List Addr)from z) (by simp)
 refine⟨⟨e0.mod,S.kind,rfl,rfl,Nat.le_refl _,fun y z c h1 h2=>?_,fun y hy=>?_,fun y c _ h=>?_,fun _=>hd,Around.frames_deeper e0.frames,.inr ⟨rfl,rfl⟩,fun b z=>absurd z (noA b),e0.bs,e0.bsz,fun b _ _=>noA b,fun b z=>absurd z (noA b),e0.funs,e0.frf⟩,
   rfl,e0.bare,Un.kept hk,⟨_,x.toInCall.ns,fun i y v h1 h2 h3=>?_⟩,fun y c h=>⟨_,x.cell y c h⟩,e0.hok.fresh (Nat.le_refl _),fun y c h=>?_,fun p hp=>absurd (show p∈([]:List (Addr×Obj))from hp) (by simp),e0.hok.kept hk,?_⟩
 · exact name_of_addr x.apart (PySem.mem_of_lookup h1) (PySem.mem_of_lookup h2)
 · have hy:scope.names.lookup y=some .cell∨scope.names.lookup y=some .free:=hy
   rcases hy with hy|hy
   · exact zbl hy
   · exact absurd rfl (S.nofree _ (PySem.mem_of_lookup hy))
 · exact Nat.le_of_lt (x.above y c (PySem.mem_of_lookup h))
 · have hi:i<vs.length:=by
     unfold start at h2
     by_cases hi:i<vs.length
     · exact hi
     · rw[List.getElem?_append_right (by simpa using hi)]at h2
       rw[List.getElem?_replicate]at h2
       split at h2<;>cases h2
   have ha:vs[i]?=some v:=by
     unfold start at h2
     rw[List.getElem?_append_left (by simpa using hi),List.getElem?_map]at h2
     cases e:vs[i]? with
     | none=>rw[e]at h2;cases h2
     | some a=>rw[e]at h2;cases h2;rfl
   obtain⟨u,hu,rv⟩:=r.get ha
   have hp:ps[i]?=some y:=by
     rw[←S.pre,List.getElem?_take_of_lt (by omega)];exact h1
   have ndP:ps.Nodup:=by rw[←S.pre];exact S.nd.sublist (List.take_sublist _ _)
   refine⟨u,rv,?_⟩
   rcases S.par y (List.mem_of_getElem? hp)with k|k
   · exact .inl ⟨k,z9u ndP hp hu k⟩
   · obtain⟨c,e⟩:=zbl (n:=s.heap.objs.size+1) k
     refine .inr ⟨.inl k,c,e,?_⟩
     have q:=x.cell y c e
     rw[z9v ndP hp hu (by show scope.names.lookup y≠_;rw[k];decide)]at q
     exact q
 · exact e0.hok.fresh (Nat.le_of_lt (x.above y c (PySem.mem_of_lookup h)))
 · unfold start
   show _=N.length
   rw[List.length_append,List.length_map,List.length_replicate]
   omega
theorem fn_of{CX:CXT}{P:Program}{w:World}{K:PySem.W.Frag}{mg:Str→Option Value}{base:Heap}{k:Nat}{f:Addr}{name qual:Str}{params:Arguments}{body:List Stmt}{scope:Scope}{dV kV doc pm cdv ct oc:Value}{an od:Option Addr}
  {osl:Array (Option Value)} {N ps:List Str} {sp:Sp} (lk:K.lookup f=some ⟨oc,od,.func (PySem.W.fnOf name qual params body scope dV kV doc pm an cdv ct),osl⟩) (hcd:PySem.W.codeIn K cdv qual=true) (S:FnScope N ps scope)
  (len:∀ vs H Q E,sp vs H Q E→vs.length=ps.length)
  (hbody:∀(A:Around) (outer:List Env) (s:Shared) (H:Hp) (vs:List V) (Q:VK) (E:XK),Room k (A.deeper (envOfC qual scope s.heap.objs.size f cdv))→sp vs H Q E →
    ∃ t,PSs (cxOf CX P w K mg base N qual scope f cdv A outer s H E) body t∧t { nx:=fun _ H'=>Q .non H',rt:=Q } (start N vs) H) :
  FnOk P w K mg base CX (k+1) f (PySem.W.fnOf name qual params body scope dV kV doc pm an cdv ct) ps sp:=by
 refine⟨len,fun A outer s H args us vs Q E hr e0 hb r hsp=>?_⟩
 have hl:=len _ _ _ _ hsp
 have KX:K.In s.heap:=e0.mod.kin.keeps fun b o e=>(e0.bs b o e).1
 have lim:s.heap.NoLimit:=e0.mod.nolimit.keeps fun b o e=>(e0.bs b o e).1
 have hkind:∀ y∈ps.zip us,scope.names.lookup y.1=some .local∨(scope.names.lookup y.1=some .cell∧((cellsFrom (s.heap.objs.size+1) scope.names []).lookup y.1).isSome=true):=fun⟨n,v⟩ hy=>by
  rcases S.par n (List.of_mem_zip hy).1 with q|q
  · exact .inl q
  · exact .inr ⟨q,PySem.W.cellsFrom_some _ _ _ (.inl q)⟩
 refine codeAny_call_function hr.depth (KX _ _ lk) rfl S.co S.gen rfl (PySem.W.codeRec_of KX hcd) (hb _ _ _ _ ?_)
 refine wpAny_newFunctionEnv_cells S.kind hkind fun env he s1 x=>?_
 subst he
 refine⟨lim.keeps x.toInCall.keep,codeAny_func ?_⟩
 obtain⟨t,ht,hq⟩:=hbody A outer s H vs Q E (hr.deeper _) hsp
 have I:Inv (cxOf CX P w K mg base N qual scope f cdv A outer s H E) [] (start N vs) H s1:=zgZ S hr.hd e0 hl r x
 refine wpAny_mono (ht [] s1 (start N vs) H _ I hq) (fun fl s' hs=>?_) fun e s' hs=>hs
 have fin:∀{σ':St} {H':Hp} {v:V} {u:Value},Inv (cxOf CX P w K mg base N qual scope f cdv A outer s H E) [] σ' H' s'→RelV v u→Q v H'→CE outer P w H s Q u s' :=
  fun{σ' H' v u} J rv q=>⟨v,H',J.os,J.bare,J.base,J.hok,rv,q⟩
 cases fl with
 | ret u =>
  obtain⟨v,σ',H',J,rv,q⟩:=hs
  exact fin J rv q
 | next =>
  obtain⟨σ',H',J,q⟩:=hs
  exact fin (v:=V.non) (u:=Value.none) J rfl q
 | brk =>
  obtain⟨_,_,_,q⟩:=hs
  exact False.elim q
 | cont =>
  obtain⟨_,_,_,q⟩:=hs
  exact False.elim q
end L2
namespace L2
open PySem PySem.Spec PyProof.Rows
section
variable {X:Cx}{x:Str}{p pos:Pos}{e:Expr}{es:List Expr}{t:TA}{id T:String}{r:List V→Hp→VK→Prop}
def tCB(r:List V→Hp→VK→Prop)(t:TA):TE:=fun σ H Q=>t σ H fun vs H1=>r vs H1 Q
theorem z80(hc:CallR X (.builtin id) r)(hg:Gl X x)(hm:X.mg x=none)(hv:bootBuiltins x=some (.builtin id))(ha:PA X (e::es) t)(hn:x ≠ "__name__" := by decide)(hdb:(x==("__debug__" : Str))=false:=by decide)
  (he:starEach (e::es) X.env=(false,eval e X.env)::starEach es X.env:=by rfl) (hpl:(backTo pos (starEach es X.env)).any (·.1)=false:=by rfl):PE X (.Call (.Name x p) (e::es) [] pos) (tCB r t):=by
 intro pins s σ H Q I h
 refine wpAny_Call_Name_kw (z3E I hg hm hv ?_ hn hdb)
 exact PyProof.Rows.callWith_builtin1 (thn (ha pos pins s σ H _ I h) fun us s1 hZ=>hZ.elim fun vs hZ=>hZ.elim fun H1 hZ=>hZ.elim fun I1 hZ=>hZ.elim fun r1 q1=>hc pins s1 σ H1 vs us Q I1 r1 q1) he hpl
theorem zh(hc:CallR X (.type T) r)(hg:Gl X x)(hm:X.mg x=none)(hv:bootBuiltins x=some (.type T))(ha:PA X (e::es) t)(hn:x ≠ "__name__" := by decide)(hdb:(x==("__debug__" : Str))=false:=by decide)
  (he:starEach (e::es) X.env=(false,eval e X.env)::starEach es X.env:=by rfl) (hpl:(backTo pos (starEach es X.env)).any (·.1)=false:=by rfl):PE X (.Call (.Name x p) (e::es) [] pos) (tCB r t):=by
 intro pins s σ H Q I h
 refine wpAny_Call_Name_kw (z3E I hg hm hv ?_ hn hdb)
 exact PyProof.Rows.callWith_type1 (thn (ha pos pins s σ H _ I h) fun us s1 hZ=>hZ.elim fun vs hZ=>hZ.elim fun H1 hZ=>hZ.elim fun I1 hZ=>hZ.elim fun r1 q1=>hc pins s1 σ H1 vs us Q I1 r1 q1) he hpl
end
end L2
namespace HT
open PySem PyProof.Rows
section
open PySem.SeqAt
open PySem.AutoSeq1 (wpAny_loadPart')
open PySem.MeetsSeq PySem.MeetsSeq2 PySem.MeetsSeq3
end
section
variable {prog:Program}{w:World}{A:Around}{E:Value→Shared→Prop}{s:Shared}
def sIx(n d:Nat):Option Int→Nat
 | none=>d
 | some v=>if v<0 then(v+(n:Int)).toNat else min v.toNat n
theorem sIx_none(n d:Nat):sIx n d none=d:=rfl
theorem sIx_nat(n d k:Nat):sIx n d (some (k:Int))=min k n:=by
 show(if(k:Int)<0 then((k:Int)+(n:Int)).toNat else min (k:Int).toNat n)=min k n
 rw[if_neg (by omega),Int.toNat_natCast]
end
end HT
namespace L2
open PySem PySem.Spec PyProof.Rows
abbrev TO:=St→Hp→(Option Int→Hp→Prop)→Prop
def PO(X:Cx)(e:Option Expr)(t:TO):Prop :=
 ∀(pins:List (Addr×Obj)) (s:Shared) (σ:St) (H:Hp) (Q:Option Int→Hp→Prop),Inv X pins σ H s→t σ H Q →
  wpAny (model X.prog X.w) X.A (evalPart e X.env) (fun u s'=>∃ o H',Inv X pins σ H' s'∧IsPart u o∧Q o H') X.xe s
def zlC:TO:=fun _ H Q=>Q none H
def tPart(t:TE):TO:=fun σ H Q=>t σ H fun x H1=>∃ i,x = .int i∧Q (some i) H1
section
variable {X:Cx}{e:Expr}{te:TE}{lo hi:Option Expr}{tl th:TO}{pos p2:Pos}
theorem zlD:PO X none zlC:=by
 intro pins s σ H Q I h
 rw[evalPart_none]
 exact wpAny_pure ⟨none,H,I,.none,h⟩
theorem zlE(h:PE X e te):PO X (some e) (tPart te):=by
 intro pins s σ H Q I hw
 rw[evalPart_some]
 refine thn (h pins s σ H _ I hw) ?_
 rintro u s1 ⟨x,H1,I1,r1,q1⟩
 obtain⟨i,rfl,q⟩:=q1
 obtain⟨t,rfl⟩:=r1
 exact⟨some i,H1,I1,.int i t,q⟩
def SlR(X:Cx)(r:V→Option Int→Option Int→Hp→VK→Prop):Prop :=
 ∀(pins:List (Addr×Obj)) (s:Shared) (σ:St) (H:Hp) (x:V) (v vl vu:Value) (lo hi:Option Int) (sl:Addr) (Q:VK),Inv X pins σ H s→RelV x v→s.heap.IsSliceOf sl vl vu .none→IsPart vl lo→IsPart vu hi→r x lo hi H Q →
  ∃ T id,typeLookup (.type T) "__getitem__" = pure (some (.builtin id))∧s.TypeIs v T∧wpAny (model X.prog X.w) X.A (getItem v (.ref sl)) (EP X pins σ Q) X.xe s
theorem SlR.or{r r':V→Option Int→Option Int→Hp→VK→Prop}(h:SlR X r)(h':SlR X r'):SlR X (fun x lo hi H Q=>r x lo hi H Q∨r' x lo hi H Q):=by
 intro pins s σ H x v vl vu lo hi sl Q I rx hs pl pu q
 rcases q with q|q
 · exact h pins s σ H x v vl vu lo hi sl Q I rx hs pl pu q
 · exact h' pins s σ H x v vl vu lo hi sl Q I rx hs pl pu q
def tSl(r:V→Option Int→Option Int→Hp→VK→Prop)(te:TE)(tl th:TO):TE:=fun σ H Q=>te σ H fun x H1=>tl σ H1 fun l H2=>th σ H2 fun u H3=>r x l u H3 Q
theorem zhS{r:V→Option Int→Option Int→Hp→VK→Prop}(hr:SlR X r)(he:PE X e te)(hl:PO X lo tl)(hu:PO X hi th):PE X (.Subscript e (.Slice lo hi none p2) pos) (tSl r te tl th):=by
 intro pins s σ H Q I h
 refine Subscript_ (thn (he pins s σ H _ I h) ?_)
 rintro v s1 ⟨x,H1,I1,r1,q1⟩
 refine wpAny_Slice (thn (hl pins s1 σ H1 _ I1 q1) fun vl s2 hZ=>hZ.elim fun l hZ=>hZ.elim fun H2 hZ=>hZ.elim fun I2 hZ=>hZ.elim fun pl q2=>thn (hu pins s2 σ H2 _ I2 q2) ?_)
 rintro vu s3 ⟨u,H3,I3,pu,q3⟩
 rw[evalPart_none]
 refine wpAny_pure ?_
 have I4:Inv X pins σ H3 { s3 with heap:=s3.heap.push { cls := .type "slice",data := .fields #[vl,vu,.none] } }:=I3.kept (t':=s3.toks) fun b ob q=>Heap.get?_push_of_some _ q
 obtain⟨T,id,hT,ht,hg⟩:=hr pins { s3 with heap:=s3.heap.push { cls := .type "slice",data := .fields #[vl,vu,.none] } } σ H3 x v vl vu l u s3.heap.objs.size Q I4 r1 (Heap.IsSliceOf.new ..) pl pu q3
 show wpAny (model X.prog X.w) X.A (subscriptTail e (.Slice lo hi none p2) v (.ref s3.heap.objs.size)) (EP X pins σ Q) X.xe { s3 with heap:=s3.heap.push { cls := .type "slice",data := .fields #[vl,vu,.none] } }
 exact tail_any (ops:=[.ref s3.heap.objs.size,v]) ht hT hg (by with_unfolding_all rfl)
def cutV(xs:List V)(lo hi:Option Int):List V:=(xs.drop (HT.sIx xs.length 0 lo)).take (HT.sIx xs.length xs.length hi-HT.sIx xs.length 0 lo)
theorem zbm(xs:List V)(lo hi:Option Int):(cutV xs lo hi).length≤xs.length:=by
 unfold cutV
 rw[List.length_take,List.length_drop]
 omega
end
end L2
namespace L2
open PySem PySem.Spec PyProof.Rows
def ixN(n:Nat)(i:Int):Option Nat:=if 0≤i then(if i<n then some i.toNat else none) else if -(n:Int)≤i then some (i+n).toNat else none
def atI{α:Type}(xs:List α)(i:Int):Option α:=(ixN xs.length i).bind fun j=>xs[j]?
theorem zfX{n:Nat}{i:Int}{j:Nat}(h:ixN n i=some j):seqIndex? i n=some j∧j<n ∧ -(n:Int)≤i∧i<n:=by
 unfold ixN at h
 by_cases h0:0≤i
 · rw[if_pos h0]at h
   by_cases h1:i<n
   · rw[if_pos h1]at h
     have e:i.toNat=j:=Option.some.inj h
     exact⟨by rw[seqIndex_of h0 h1,e],by omega,by omega,h1⟩
   · rw[if_neg h1]at h;cases h
 · rw[if_neg h0]at h
   by_cases h1 : -(n:Int)≤i
   · rw[if_pos h1]at h
     have e:(i+n).toNat=j:=Option.some.inj h
     exact⟨by rw[seqIndex_neg (by omega) h1,e],by omega,h1,by omega⟩
   · rw[if_neg h1]at h;cases h
theorem zaz{α:Type}{xs:List α}{i:Int}{v:α}(h:atI xs i=some v):∃ j,seqIndex? i xs.length=some j∧xs[j]?=some v∧j<xs.length ∧ -(xs.length:Int)≤i∧i<xs.length:=by
 unfold atI at h
 cases e:ixN xs.length i with
 | none=>rw[e]at h;cases h
 | some j =>
  rw[e]at h
  obtain⟨h1,h2,h3,h4⟩:=zfX e
  exact⟨j,h1,h,h2,h3,h4⟩
theorem z37{α:Type}{xs:List α}{j:Nat}{v:α}(h:xs[j]?=some v):atI xs (j:Int)=some v:=by
 have hj:j<xs.length:=(List.getElem?_eq_some_iff.mp h).1
 have e:ixN xs.length (j:Int)=some j:=by
  unfold ixN
  rw[if_pos (by omega),if_pos (by omega)];simp
 unfold atI;rw[e];exact h
def zfY(b:Expr):Prop:=∀ o i,subscripted b false o i=operate [o,i] (getItem o i)
def IxR(X:Cx)(r:R2):Prop :=
 ∀(value slice:Expr) (pins:List (Addr×Obj)) (s:Shared) (σ:St) (H:Hp) (x y:V) (v u:Value) (Q:VK),Inv X pins σ H s→RelV x v→RelV y u→r x y H Q →
  subscripted slice false v u=operate [v,u] (getItem v u)→wpAny (model X.prog X.w) X.A (subscriptTail value slice v u) (EP X pins σ Q) X.xe s
def MtR(X:Cx)(id:String)(r:V→List V→Hp→VK→Prop):Prop :=
 ∀(pins:List (Addr×Obj)) (s:Shared) (σ:St) (H:Hp) (x:V) (xs:List V) (v:Value) (us:List Value) (Q:VK),Inv X pins σ H s→RelV x v→Vals xs us→r x xs H Q →
  wpAny (model X.prog X.w) X.A (call (.builtin id) (v::us)) (EP X pins σ Q) X.xe s
section
variable {X:Cx}{a b:Expr}{ta tb:TE}{pos:Pos}
theorem IxR.or{r r':R2}(h:IxR X r)(h':IxR X r'):IxR X (fun x y H Q=>r x y H Q∨r' x y H Q):=by
 intro value slice pins s σ H x y v u Q I rx ry q hs
 rcases q with q|q
 · exact h value slice pins s σ H x y v u Q I rx ry q hs
 · exact h' value slice pins s σ H x y v u Q I rx ry q hs
theorem MtR.or{id:String}{r r':V→List V→Hp→VK→Prop}(h:MtR X id r)(h':MtR X id r'):MtR X id (fun x xs H Q=>r x xs H Q∨r' x xs H Q):=by
 intro pins s σ H x xs v us Q I rx rs q
 rcases q with q|q
 · exact h pins s σ H x xs v us Q I rx rs q
 · exact h' pins s σ H x xs v us Q I rx rs q
theorem pe_ix{r:R2}(hr:IxR X r)(ha:PE X a ta)(hb:PE X b tb)(hs:zfY b):PE X (.Subscript a b pos) (tOp r ta tb):=by
 intro pins s σ H Q I h
 exact Subscript_ (binT ha hb I h fun v u s2 x y H2 I2 rx ry q=>hr a b pins s2 σ H2 x y v u Q I2 rx ry q (hs _ _))
def rIxL(K:PySem.W.Frag):R2:=fun x y H Q=>∃ p xs i v,x = .ref p∧y = .int i∧SqL K H p xs∧atI xs i=some v∧Q v H
def rIxT(K:PySem.W.Frag):R2:=fun x y H Q=>∃ p xs i v,x = .ref p∧y = .int i∧SqT K H p xs∧atI xs i=some v∧Q v H
def rIxS:R2:=fun x y H Q=>∃ z i c,x = .str z∧y = .int i∧z.length≤sizeLine∧atI z.cps.toList i=some c∧Q (.str ⟨#[c]⟩) H
theorem zlF:IxR X (rIxL X.K):=by
 intro value slice pins s σ H x y v u Q I rx ry h hs
 obtain⟨p,xs,i,z,rfl,rfl,hq,he,q⟩:=h
 cases rx
 obtain⟨t,rfl⟩:=ry
 obtain⟨its,r,pl,hz⟩:=I.list hq
 obtain⟨j,h1,h2,h3,h4,h5⟩:=zaz he
 obtain⟨w,ew,rw'⟩:=r.get h2
 have hl:=r.length
 have hn:=z6v
 have fin:EP X pins σ Q w s:=⟨z,H,I,rw',q⟩
 by_cases h0:0≤i
 · have hj:i.toNat=j:=by
    rw[seqIndex_of h0 h5]at h1
    exact Option.some.inj h1
   exact item_listR pl.isList h0 (by omega) (by rw[hj];simpa using ew) fin hs
 · have hj:(i+(its.toArray.size:Int)).toNat=j:=by
    rw[seqIndex_neg (by omega) h4]at h1
    rw[List.size_toArray,←hl]
    exact Option.some.inj h1
   exact subscriptTail_builtinR (x:=w) pl.isList.typeIs slot_list_getitem.lookup
    (wpAny_getItem_list_neg (Q:=fun r s'=>r=w∧EP X pins σ Q r s') pl.isList (by omega) (by rw[List.size_toArray]<;>omega) (by omega) (by rw[hj];simpa using ew) ⟨rfl,fin⟩) hs
theorem ix_tup:IxR X (rIxT X.K):=by
 intro value slice pins s σ H x y v u Q I rx ry h hs
 obtain⟨p,xs,i,z,rfl,rfl,hq,he,q⟩:=h
 cases rx
 obtain⟨t,rfl⟩:=ry
 obtain⟨its,r,pl,hz⟩:=I.tuple hq
 obtain⟨j,h1,h2,h3,h4,h5⟩:=zaz he
 obtain⟨w,ew,rw'⟩:=r.get h2
 have hl:=r.length
 have hn:=z6v
 have fin:EP X pins σ Q w s:=⟨z,H,I,rw',q⟩
 exact subscriptTail_builtinR (x:=w) pl.typeIs slot_tuple_getitem.lookup
  (getItem_tuple (j:=j) (Q:=fun r s'=>r=w∧EP X pins σ Q r s') pl (by omega) (by omega) (by rw[List.size_toArray,←hl];exact h1) (by simpa using ew) ⟨rfl,fin⟩) hs
theorem ix_str:IxR X rIxS:=by
 intro value slice pins s σ H x y v u Q I rx ry h hs
 obtain⟨z,i,c,rfl,rfl,hz,he,q⟩:=h
 obtain⟨t,rfl⟩:=rx
 obtain⟨t',rfl⟩:=ry
 obtain⟨j,h1,h2,h3,h4,h5⟩:=zaz he
 have hl:z.cps.toList.length=z.length:=by simp[Str.length]
 rw[hl]at h1 h4 h5
 have hn:=z6v
 exact tail_any (typeIs_str s z t) slot_str_getitem.lookup (getItem_str (c:=c) (by
  have e1:decide (i < -(2 ^ 63:Int))=false:=decide_eq_false (by omega)
  have e2:decide (i≥2 ^ 63)=false:=decide_eq_false (by omega)
  rw[e1,e2,Bool.or_false]) (by rw[h1];simpa using h2) ⟨.str ⟨#[c]⟩,H,I.tok _,⟨_,rfl⟩,q⟩) hs
def rIx(K:PySem.W.Frag):R2:=fun x y H Q=>rIxL K x y H Q∨rIxT K x y H Q∨rIxS x y H Q
theorem ix_seq:IxR X (rIx X.K):=zlF.or (ix_tup.or ix_str)
theorem zcA(its:List Value)(n j:Nat)(u:Value):Obj.mapSeq (·.setIfInBounds j u) { cls := .type "list",data := .seq its.toArray n }={ cls := .type "list",data := .seq (its.set j u).toArray n }:=by
 simp[Obj.mapSeq]
theorem Inv.lst{pins:List (Addr×Obj)}{σ:St}{H:Hp}{s:Shared}{p:Addr}{xs:List V}(I:Inv X pins σ H s)(h:H p=some (.lst xs)):
  ∃(its:List Value) (n:Nat),Vals xs its∧s.heap.get? p=some { cls := .type "list",data := .seq its.toArray n }∧xs.length≤sizeLine:=by
 obtain⟨z,its,n,r,e⟩:=I.hok p _ h
 exact⟨its,n,r,e,z⟩
theorem Inv.lstUpd{pins:List (Addr×Obj)}{σ:St}{H:Hp}{s:Shared}{p:Addr}{xs ys:List V}{its its':List Value}{n n':Nat}{f:Obj→Obj}(I:Inv X pins σ H s)(h:H p=some (.lst xs))
  (ho:s.heap.get? p=some { cls := .type "list",data := .seq its.toArray n }) (hf:f { cls := .type "list",data := .seq its.toArray n }={ cls := .type "list",data := .seq its'.toArray n' }) (r:Vals ys its') (hz:ys.length≤sizeLine) (t:Nat) :
  Inv X pins σ (upd H p (.lst ys)) { s with heap:=s.heap.update p f,toks:=t }:=by
 have e:(s.heap.update p f).get? p=some { cls := .type "list",data := .seq its'.toArray n' }:=by
  rw[Heap.get?_update_self f ho (by rw[hf]<;>rfl),hf]
 refine I.write (x:=p) (e:=p) (by rw[h];trivial) (.inl rfl) (fun b u hb q=>(Heap.get?_update_other _ _ (Ne.symm hb)).trans q) ⟨_,e⟩ ?_
 exact⟨hz,its',n',r,e⟩
def rSetL:V→V→V→Hp→(Hp→Prop)→Prop:=fun o i v H Q=>∃ p xs k j,o = .ref p∧i = .int k∧H p=some (.lst xs)∧ixN xs.length k=some j∧Q (upd H p (.lst (xs.set j v)))
theorem zhT:PSet X rSetL:=by
 intro pins s σ H o i v ov iv u Q I ro ri rv h
 obtain⟨p,xs,k,j,rfl,rfl,hp,hj,q⟩:=h
 cases ro
 obtain⟨t,rfl⟩:=ri
 obtain⟨its,n,r,ho,hz⟩:=I.lst hp
 obtain⟨h1,h2,h3,h4⟩:=zfX hj
 have hl:=r.length
 have hn:=z6v
 have I':Inv X pins σ (upd H p (.lst (xs.set j v))) { s with heap:=s.heap.update p (Obj.mapSeq (·.setIfInBounds j u)) } :=
   I.lstUpd hp ho (zcA its n j u) (r.set rv j) (by rw[List.length_set];exact hz) s.toks
 by_cases h0:0≤k
 · have hk:k.toNat=j:=by
    rw[seqIndex_of h0 h4]at h1
    exact Option.some.inj h1
   exact PySem.W.ki_setAt ho h0 (by omega) (by rw[List.size_toArray,←hl];exact h4) (by rw[hk];exact⟨_,I',q⟩)
 · have hk:(k+(its.toArray.size:Int)).toNat=j:=by
    rw[seqIndex_neg (by omega) h3]at h1
    rw[List.size_toArray,←hl]
    exact Option.some.inj h1
   exact PySem.W.ki_setBack ho (by omega) (by rw[List.size_toArray,←hl];exact h3) (by omega) (by rw[hk];exact⟨_,I',q⟩)
theorem zaA(lo hi:Option Int)(n:Nat):(sliceBounds lo hi none n).1=((HT.sIx n 0 lo:Nat):Int)∧(sliceBounds lo hi none n).2.1=((HT.sIx n n hi:Nat):Int)∧(sliceBounds lo hi none n).2.2=1:=by
 refine⟨?_,?_,rfl⟩
 · cases lo with
   | none=>simp[sliceBounds,HT.sIx]
   | some i =>
    simp only[sliceBounds,HT.sIx,Option.getD_none,show(1:Int) > 0 by decide,if_true]
    by_cases h:i<0
    · simp only[h,if_true]<;>omega
    · simp only[h,if_false]<;>omega
 · cases hi with
   | none=>simp[sliceBounds,HT.sIx]
   | some i =>
    simp only[sliceBounds,HT.sIx,Option.getD_none,show(1:Int) > 0 by decide,if_true]
    by_cases h:i<0
    · simp only[h,if_true]<;>omega
    · simp only[h,if_false]<;>omega
theorem z9j(its:List Value)(lo hi:Option Int):slicePick its.toArray lo hi none=((its.drop (HT.sIx its.length 0 lo)).take (HT.sIx its.length its.length hi-HT.sIx its.length 0 lo)).toArray:=by
 obtain⟨h1,h2,h3⟩:=zaA lo hi its.toArray.size
 unfold slicePick
 rw[h1,h2,h3]
 simp only[sliceRange_one,pick_run,List.size_toArray]<;>rfl
def rSlL(K:PySem.W.Frag):V→Option Int→Option Int→Hp→VK→Prop:=fun x lo hi H Q=>∃ a xs,x = .ref a∧SqL K H a xs∧∀ p,H p=none→Q (.ref p) (upd H p (.lst (cutV xs lo hi)))
theorem zlG:SlR X (rSlL X.K):=by
 intro pins s σ H x v vl vu lo hi sl Q I rx hs pl pu h
 obtain⟨a,xs,rfl,hx,q⟩:=h
 cases rx
 obtain⟨its,r,ht,hz⟩:=I.list hx
 have hlen:=r.length
 refine⟨"list",_,slot_list_getitem.lookup,ht.isList.typeIs,?_⟩
 refine wpAny_getItem_list_slice ht.isList hs pl pu .none (by simp) ?_ (by rw[List.size_toArray]<;>omega)
 rw[z9j,←hlen]
 refine⟨.ref s.heap.objs.size,_,I.laid (t':=s.toks) (o := .lst (cutV xs lo hi)) (fun b ob q=>Heap.get?_push_of_some _ q) (Nat.le_refl _) ?_,rfl,q _ (I.hok.fresh (Nat.le_refl _))⟩
 exact⟨Nat.le_trans (zbm xs lo hi) hz,_,0,(r.drop (HT.sIx xs.length 0 lo)).take (HT.sIx xs.length xs.length hi-HT.sIx xs.length 0 lo),Heap.get?_push_size _ rfl⟩
theorem z3G:CallR X (.builtin "len") (fun xs H Q=>∃ p ys,xs=[.ref p]∧(SqL X.K H p ys∨SqT X.K H p ys)∧Q (.int ys.length) H):=by
 intro pins s σ H xs us Q I r h
 obtain⟨p,ys,rfl,hq,q⟩:=h
 obtain⟨u,rfl,rx⟩:=z9q r
 cases rx
 have hn:=z6v
 rcases hq with hq|hq
 · obtain⟨its,r',pl,hz⟩:=I.list hq
   have hlen:=r'.length
   exact Calls.call_len_list pl.isList (by simp only[List.size_toArray]<;>omega) ⟨.int ys.length,H,I.tok _,⟨s.toks+1,by rw[List.size_toArray,hlen]⟩,q⟩
 · obtain⟨its,r',pl,hz⟩:=I.tuple hq
   have hlen:=r'.length
   exact len_tuple pl (by simp only[List.size_toArray]<;>omega) ⟨.int ys.length,H,I.tok _,⟨s.toks+1,by rw[List.size_toArray,hlen]⟩,q⟩
theorem CallR.or{f:Value}{r r':List V→Hp→VK→Prop}(h:CallR X f r)(h':CallR X f r'):CallR X f (fun xs H Q=>r xs H Q∨r' xs H Q):=by
 intro pins s σ H xs us Q I rs q
 rcases q with q|q
 · exact h pins s σ H xs us Q I rs q
 · exact h' pins s σ H xs us Q I rs q
theorem z5N:CallR X (.type "list") (fun xs H Q=>∃ p ys,xs=[.ref p]∧(SqL X.K H p ys∨SqT X.K H p ys)∧∀ l,H l=none→Q (.ref l) (upd H l (.lst ys))):=by
 intro pins s σ H xs us Q I r h
 obtain⟨p,ys,rfl,hq,q⟩:=h
 obtain⟨u,rfl,rx⟩:=z9q r
 cases rx
 have fin:∀(its:List Value),Vals ys its→ys.length≤sizeLine→∀(h':Heap) (c':Nat),(∀ b o',s.heap.get? b=some o'→h'.get? b=some o') →
    h'.get? s.heap.objs.size=some { cls := .type "list",dict:=none,data := .seq its.toArray c',slots:=#[] }→EP X pins σ Q (.ref s.heap.objs.size) { s with heap:=h' }:=fun its r' hz h' c' kp e =>
   ⟨.ref s.heap.objs.size,_,I.laid (t':=s.toks) kp (Nat.le_refl _) (show ObjOk X.prog X.w _ h' _ (.lst ys) from⟨hz,its,c',r',e⟩),rfl,q _ (I.hok.fresh (Nat.le_refl _))⟩
 rcases hq with hq|hq
 · obtain⟨its,r',pl,hz⟩:=I.list hq
   have hlen:=r'.length
   obtain⟨o,ho,hc,n,hd⟩:=pl.isList
   exact call_list_seq p (.inl rfl) ho hc hd (fun h' c' kp e=>fin its r' hz h' c' kp e) (by simp only[List.size_toArray]<;>omega)
 · obtain⟨its,r',pl,hz⟩:=I.tuple hq
   have hlen:=r'.length
   obtain⟨o,ho,hc,n,hd⟩:=pl
   exact call_list_seq p (.inr rfl) ho hc hd (fun h' c' kp e=>fin its r' hz h' c' kp e) (by simp only[List.size_toArray]<;>omega)
theorem z5g:CallR X (.type "tuple") (fun xs H Q=>∃ p ys,xs=[.ref p]∧((SqL X.K H p ys∧∀ l,H l=none→Q (.ref l) (upd H l (.tup ys)))∨(SqT X.K H p ys∧Q (.ref p) H))):=by
 intro pins s σ H xs us Q I r h
 obtain⟨p,ys,rfl,h⟩:=h
 obtain⟨u,rfl,rx⟩:=z9q r
 cases rx
 rcases h with⟨hq,q⟩|⟨hq,q⟩
 · obtain⟨its,r',pl,hz⟩:=I.list hq
   have hlen:=r'.length
   refine call_tuple_list pl.isList (fun h' kp=>?_) (by simp only[List.size_toArray]<;>omega)
   have I1:Inv X pins σ H { s with heap:=h' }:=I.kept (t':=s.toks) kp
   have I2:Inv X pins σ (upd H h'.objs.size (.tup ys)) { s with heap:=h'.push { cls := .type "tuple",data := .seq its.toArray } } :=
    I1.laid (t':=s.toks) (fun b o e=>Heap.get?_push_of_some _ e) (Nat.le_refl _) (show ObjOk X.prog X.w _ _ _ (.tup ys) from⟨hz,its,r',IsTup.new _ _⟩)
   exact⟨.ref h'.objs.size,_,I2,rfl,q _ (I1.hok.fresh (Nat.le_refl _))⟩
 · obtain⟨its,r',pl,hz⟩:=I.tuple hq
   exact call_tuple_same pl ⟨.ref p,H,I,rfl,q⟩
def tyV(K:PySem.W.Frag)(T:String)(x:V)(H:Hp):Prop:=match x with
 | .str _=>T = "str"
 | .int _=>T = "int"
 | .ref p=>(T = "list" ∧ ∃ xs,SqL K H p xs)∨(T = "tuple" ∧ ∃ o,K.lookup p=some o∧o.cls = .type "tuple" ∧ o.dict=none) ∨
  (T = "dict" ∧ ((∃ kvs,H p=some (.dK kvs))∨∃ kvs,H p=some (.dT kvs)))∨(T = "set" ∧ ∃ S n,H p=some (.set S n))
 | _=>False
theorem tyV_is{pins:List (Addr×Obj)}{σ:St}{H:Hp}{s:Shared}{T:String}{x:V}{v:Value}(I:Inv X pins σ H s)(r:RelV x v)(ty:tyV X.K T x H):
  s.TypeIs v T∧∀ a,v = .ref a→∃ ob,s.heap.get? a=some ob∧ob.dict=none:=by
 cases x with
 | str z =>
  obtain⟨t,rfl⟩:=r
  cases (show T = "str" from ty)
  exact⟨typeIs_str s z t,fun _ e=>nomatch e⟩
 | int i =>
  obtain⟨t,rfl⟩:=r
  cases (show T = "int" from ty)
  exact⟨typeIs_int s i t,fun _ e=>nomatch e⟩
 | ref p =>
  cases r
  rcases ty with⟨rfl,xs,hq⟩|⟨rfl,o,hk,hc,hd⟩|⟨rfl,hk⟩|⟨rfl,S,n,hk⟩
  · obtain⟨its,_,pl,_⟩:=I.list hq
    refine⟨pl.isList.typeIs,fun a e=>?_⟩
    cases e
    obtain⟨o,n,e,c,hd,_⟩:=pl
    exact⟨o,e,hd⟩
  · refine⟨⟨o,I.kIn p o hk,hc⟩,fun a e=>?_⟩
    cases e
    exact⟨o,I.kIn _ o hk,hd⟩
  · have z:∃ o,s.heap.get? p=some o∧o.ExactDict:=by
     rcases hk with⟨kvs,hk⟩|⟨kvs,hk⟩
     · obtain⟨_,_,_,_,o,_,_,e,ex,_⟩:=I.hok p _ hk
       exact⟨o,e,ex⟩
     · obtain⟨_,_,_,_,o,_,_,e,ex,_⟩:=I.hok p _ hk
       exact⟨o,e,ex⟩
    obtain⟨o,e,ex⟩:=z
    refine⟨⟨o,e,ex.1⟩,fun a e2=>?_⟩
    cases e2
    exact⟨o,e,ex.2.1⟩
  · obtain⟨o,_,_,_,e,ex,_⟩:=I.hok p _ hk
    refine⟨⟨o,e,ex.1⟩,fun a e2=>?_⟩
    cases e2
    exact⟨o,e,ex.2.1⟩
 | _=>exact False.elim ty
def tBM(K:PySem.W.Frag)(T:String)(r:V→List V→Hp→VK→Prop)(to:TE)(t:TA):TE:=fun σ H Q=>to σ H fun x H1=>tyV K T x H1∧t σ H1 fun xs H2=>r x xs H2 Q
variable {o e:Expr}{es:List Expr}{to:TE}{t:TA}{name:Str}{apos cpos:Pos}{T id:String}{r:V→List V→Hp→VK→Prop}
theorem pe_bm(pa:PlainAttrs T)(slot:Slot T name id)(hty:typeOf (.builtin id)=pure (.type "method_descriptor"))(hm:MtR X id r)(ho:PE X o to)(ha:PA X (e::es) t)
  (hbase:attributeBase o name X.env (eval o X.env)=eval o X.env:=by rfl)
  (hfew:((backTo cpos (starEach (e::es) X.env)).all (fun x=>!x.1)&&(backToKw cpos (keywordEach [] X.env)).all (fun x=>x.1.isSome)
   && decide ((e::es).length+([]:List Keyword).length+(if([]:List Keyword).isEmpty then 0 else 1)<30))=true:=by rfl)
  (hline:(apos.endLine==cpos.line)=true:=by rfl) (hs:starEach (e::es) X.env=(false,eval e X.env)::starEach es X.env:=by rfl) (hplain:(backTo cpos (starEach es X.env)).any (·.1)=false:=by rfl) :
  PE X (.Call (.Attribute o name apos) (e::es) [] cpos) (tBM X.K T r to t):=by
 intro pins s σ H Q I h
 refine wpAny_Call_method_late hbase hfew hline rfl (thn (ho pins s σ H _ I h) ?_)
 rintro v s1 ⟨x,H1,I1,r1,ty,q1⟩
 obtain⟨h1,h2⟩:=tyV_is I1 r1 ty
 refine⟨T,id,pa,slot,hty,h1,h2,?_⟩
 have hA:=ha cpos pins s1 σ H1 _ I1 q1
 rw[hs]at hA ⊢
 refine Calls.callWith_builtin (by show(false||(backTo cpos (starEach es X.env)).any (·.1))=false;rw[hplain]<;>rfl) (Calls.evalArgs_plain ?_)
 exact thn hA fun us s2 hZ=>hZ.elim fun vs hZ=>hZ.elim fun H2 hZ=>hZ.elim fun I2 hZ=>hZ.elim fun r2 q2=>hm pins s2 σ H2 x vs v us Q I2 r1 r2 q2
end
end L2
namespace L2
open PySem PySem.Spec PyProof.Rows
def MtM(X:Cx)(id:String)(r:V→List V→Hp→VK→Prop):Prop :=
 ∀(pins:List (Addr×Obj)) (s:Shared) (σ:St) (H:Hp) (x:V) (xs:List V) (v:Value) (us:List Value) (Q:VK),Inv X pins σ H s→RelV x v→Vals xs us→r x xs H Q →
  wpAny (model X.prog X.w) X.A (call (.builtin id) (v::us)) (EP X pins σ Q) X.xe s
theorem Vals.zero:∀{us:List Value},Vals [] us→us=[]
 | _,.nil=>rfl
theorem Vals.uncons{x:V}{xs:List V}{us:List Value}(h:Vals (x::xs) us):∃ u vs,us=u::vs∧RelV x u∧Vals xs vs:=by
 cases h with
 | cons r t=>exact⟨_,_,rfl,r,t⟩
theorem Vals.one{x:V}{us:List Value}(h:Vals [x] us):∃ u,us=[u]∧RelV x u:=by
 obtain⟨u,vs,e,r,t⟩:=h.uncons
 rw[t.zero]at e
 exact⟨u,e,r⟩
theorem Vals.two{x y:V}{us:List Value}(h:Vals [x,y] us):∃ u v,us=[u,v]∧RelV x u∧RelV y v:=by
 obtain⟨u,vs,e,r,t⟩:=h.uncons
 obtain⟨v,e2,q⟩:=t.one
 rw[e2]at e
 exact⟨u,v,e,r,q⟩
theorem Vals.reverse{xs:List V}{us:List Value}(h:Vals xs us):Vals xs.reverse us.reverse:=by
 induction h with
 | nil=>exact .nil
 | cons r t ih=>rw[List.reverse_cons,List.reverse_cons];exact Vals.append ih (.cons r .nil)
section
variable {X:Cx}{pins:List (Addr×Obj)}{σ:St}{H:Hp}{s:Shared}{l b:Addr}{xs ys zs:List V}
theorem Inv.lset{its its':List Value}{n:Nat}{f:Array Value→Array Value}{t':Nat}(I:Inv X pins σ H s)(hH:H l=some (.lst xs))
  (e:s.heap.get? l=some { cls := .type "list",data := .seq its.toArray n }) (hf:f its.toArray=its'.toArray) (hv:Vals ys its') (hz:ys.length≤sizeLine) :
  Inv X pins σ (upd H l (.lst ys)) { s with heap:=s.heap.update l (Obj.mapSeq f),toks:=t' }:=by
 have q:=PySem.IsL.update e f
 rw[hf]at q
 refine I.write (x:=l) (e:=l) (by rw[hH];exact trivial) (.inl rfl) (fun b' u hb hu=>(Heap.get?_update_other s.heap (Obj.mapSeq f) (Ne.symm hb)).trans hu) ⟨_,q⟩ ?_
 exact⟨hz,its',_,hv,q⟩
theorem Inv.lnew{its:List Value}{t':Nat}(I:Inv X pins σ H s)(hv:Vals ys its)(hz:ys.length≤sizeLine):
  Inv X pins σ (upd H s.heap.objs.size (.lst ys)) { s with heap:=s.heap.push { cls := .type "list",data := .seq its.toArray },toks:=t' } :=
 I.laid (fun _ _ q=>Heap.get?_push_of_some _ q) (Nat.le_refl _) ⟨hz,its,0,hv,Heap.get?_push_size _ rfl⟩
theorem Inv.fresh(I:Inv X pins σ H s):H s.heap.objs.size=none:=I.hok.fresh (Nat.le_refl _)
theorem Inv.lstM(I:Inv X pins σ H s)(hH:H l=some (.lst xs)):xs.length≤sizeLine∧∃(its:List Value) (n:Nat),Vals xs its∧xs.length=its.length∧s.heap.get? l=some { cls := .type "list",data := .seq its.toArray n }:=by
 obtain⟨z,its,n,r,e⟩:=I.hok l _ hH
 exact⟨z,its,n,r,r.length,e⟩
end
section
variable {X:Cx}
def zlH:V→List V→Hp→VK→Prop:=fun x vs H Q=>∃ l xs y,x = .ref l∧vs=[y]∧H l=some (.lst xs)∧xs.length<sizeLine∧Q .non (upd H l (.lst (xs++[y])))
theorem z9w:MtM X "list.append" zlH:=by
 intro pins s σ H x vs v us Q I rx rv h
 obtain⟨l,xs,y,rfl,rfl,hH,hz,q⟩:=h
 cases rx
 obtain⟨u,rfl,ru⟩:=rv.one
 obtain⟨z,its,n,r,hl,e⟩:=I.lstM hH
 refine call_meets F.slot_list_append ⟨_,e,rfl⟩ F.entry_list_append (F.args_list_append_2 _ _) (PySem.list_append l its.toArray n u (by rw[List.size_toArray];omega)) ⟨e,?_⟩
 refine⟨.non,_,I.lset (its':=its++[u]) hH e (by simp) (r.append (.cons ru .nil)) ?_,rfl,q⟩
 rw[List.length_append,List.length_singleton]
 omega
def rCat:R2:=fun x y H Q=>∃ l b xs zs,x = .ref l∧y = .ref b∧H l=some (.lst xs)∧H b=some (.lst zs)∧xs.length+zs.length≤sizeLine∧∀ p,H p=none→Q (.ref p) (upd H p (.lst (xs++zs)))
theorem op_cat:OpR X (binaryOp .Add) rCat:=by
 intro pins s σ H x y v u Q I rx ry h
 obtain⟨l,b,xs,zs,rfl,rfl,hH,hB,hz,q⟩:=h
 cases rx
 cases ry
 obtain⟨z,its,n,r,hl,e⟩:=I.lstM hH
 obtain⟨z2,its2,n2,r2,hl2,e2⟩:=I.lstM hB
 refine PySem.P.add_list e e2 ?_ (by rw[List.size_toArray,List.size_toArray];omega)
 have ea:its.toArray++its2.toArray=(its++its2).toArray:=by simp
 rw[ea]
 exact⟨.ref _,_,I.lnew (t':=s.toks) (r.append r2) (by rw[List.length_append];omega),rfl,q _ I.fresh⟩
end
section
variable {prog:Program}{w:World}{A:Around}{E:Value→Shared→Prop}{s:Shared}
end
section
variable {X:Cx}
end
end L2
namespace Att
open PySem PySem.W PySem.Calls PyProof.Rows
theorem z7D{P:Params}{h:Heap}:∀(ns:List Int) (vs:List Value),WellAll P h vs (ns.map WData.int)→IntsAre vs ns:=by
 intro ns
 induction ns with
 | nil =>
  intro vs w
  rw[List.map_nil]at w
  cases w
  exact .nil
 | cons n ns ih =>
  intro vs w
  rw[List.map_cons]at w
  cases w with
  | cons a b =>
   cases a
   exact .cons _ _ (ih _ b)
theorem zh0{l:OpenLaw}{n:Nat}(hn:l.most=some n){P:Params}{h:Heap}{args:List WData}{vals:List Value}
  (hpre:l.row.toRowW.claim.pre args=true) (hwl:WellAll P h vals args) :
  ∃ a vs ns,vals=[Value.ref a]∧args=[WData.list (ns.map WData.int)]∧h.get? a=some { cls := .type "list",data := .seq vs.toArray }∧IntsAre vs ns∧ns.length≤n:=by
 have hsh:WShape.hasAll [] args [.list .int]=true:=(pre_splitW hpre).1
 have hc:l.pre.holds [] { args:=args }=true:=(pre_splitW hpre).2
 obtain⟨d,r,rfl,h1,h2⟩:=hasAllW_cons hsh
 obtain rfl:=hasAllW_nil h2
 obtain⟨xs,rfl,h3⟩:=hasW_list h1
 obtain⟨ns,rfl⟩:=items_int h3
 have hlen:ns.length≤n:=by
  unfold OpenLaw.pre at hc
  have h4:(WTm.not (.lt (.lit (.int (n:Int))) (.len (.arg 0)))).holds [] { args:=[.list (ns.map .int)] }=true:=by
   have h4:=(holds_andW hc).1
   rw[hn]at h4
   exact h4
  have h5:=condW_of h4 (w_not (w_lt w_lit (w_len_list (w_arg rfl))))
  rw[List.length_map]at h5
  refine Nat.le_of_not_lt fun q=>?_
  have q':(n:Int)<((ns.length:Nat):Int):=by omega
  first
   | (rw[decide_eq_true q']at h5;exact absurd h5 (by decide))
   | (simp at h5;omega)
 cases hwl with
 | cons w1 w2 =>
  cases w2
  cases w1 with
  | list ho hall=>exact⟨_,_,ns,rfl,rfl,ho,z7D ns _ hall,hlen⟩
theorem zh1(l:OpenLaw)(args:List WData):l.row.toRowW.claim.post args (.bool true) args=true :=
 postW_of (r:=l.row.toRowW) (X:=(true==true))
  (show WShape.has [] (.bool true) .bool=true by first|rfl|decide|simp[WShape.has,WShape.arms,WShape.armsAll])
  (show(WTm.eq .res (.lit (.bool true))).value [] { args:=args,res:=some (.bool true),after:=args }=some (.bool (true==true))from w_eq_bool (w_res rfl) w_lit) rfl
theorem attach_call{l:OpenLaw}{n:Nat}{q:Program}{loose:List Str}{XP:(Str→Option Value)→Heap→Prop}{YP:World→Heap→Prop}{d:DefRec}
  (hn:l.most=some n) (hdf:d.params.defaults=[])
  (call:∀(w:World) (s₀ s₁:Shared) (mg mb:Str→Option Value) (fa:Addr) (o:Obj) (pm cd doc:Value) (a:Addr) (vs:List Value) (ns:List Int),
   Ground q loose [] XP w s₀ mg mb s₁.heap→YP w s₁.heap →
   s₁.heap.get? fa=some o→o.data = .func (docDef d.name d.params d.body d.scope pm cd doc)→s₁.heap.CodeRec cd d.name→mg d.name=some (.ref fa) →
   s₁.heap.get? a=some { cls := .type "list",data := .seq vs.toArray }→IntsAre vs ns→ns.length≤n→s₁.gens=#[] →
   codeAny (model l.prog w) callerA (.call (.ref fa) ⟨[.ref a],[]⟩) (fun r s'=>r = .ok (.ret (.bool true))∧OldK s₁.heap s'.heap∧s'.os=s₁.os∧AllBare s'.gens) s₁) :
  WalkO q loose XP YP l.row.toRowW d [] (fun f vs=>PySem.call f vs):=by
 intro w s₀ s₁ mg mb G Y fa o pm cd doc dV kV ho hd hcd hD hmg hg args vals as hpre hlay hrd hwl hlo
 obtain rfl:dV = .none:=Dflts.none hD hdf
 obtain rfl:kV = .none:=Dflts.noKw hD
 obtain⟨a,vs,ns,rfl,rfl,hobj,hints,hlen⟩:=zh0 hn hpre hwl
 refine enter_call (codeAny_mono (call w s₀ s₁ mg mb fa o pm cd doc a vs ns G Y ho (fd_plain hd) hcd hmg hobj hints hlen hg) fun r s' hq=>?_)
 obtain⟨rfl,h2,h3,h4⟩:=hq
 exact⟨.inl ⟨.bool true,.bool true,[],rfl,fun _=>rfl,.bool true,zh1 l _,fun _=>⟨List.Pairwise.nil,fun _ hm=>(nomatch hm)⟩⟩,h2,h3,h4⟩
section
variable {prog:Program}{w:World}{A:Around}{E:Value→Shared→Prop}{s:Shared}{K:Frag}
end
end Att
namespace L2
open PySem PySem.Spec PyProof.Rows
theorem z9x:∀{vs:List Value} {ns:List Int},IntsAre vs ns→Vals (ns.map V.int) vs
 | _,_,.nil => .nil
 | _,_,.cons n t h => .cons ⟨t,rfl⟩ (z9x h)
def Only(H:Hp):Prop:=∀ b,H b=none∨∃ o xs,H b=some (.frz o (.lst xs))
theorem zhU{P:Program}{w:World}{K:PySem.W.Frag}{mg mb:Str→Option Value}{CX:CXT}{k:Nat}{fa a:Addr}{fd:FuncData}{x:Str}{sp:Sp}{s₁:Shared}{vs:List Value}{ns:List Int}
  (KX:K.In s₁.heap) (hns:s₁.heap.Ns mainGlobals mg) (hb:s₁.heap.Ns builtinsNs mb) (hbb:∀ x:Str,x ≠ "__name__" → mb x=bootBuiltins x) (hlim:s₁.heap.NoLimit) (hg:s₁.gens=#[])
  (ha:s₁.heap.get? a=some { cls := .type "list",data := .seq vs.toArray }) (hi:IntsAre vs ns) (hl:ns.length≤sizeLine) (hr:Room k callerA)
  (F:∀ base:Heap,K.In base→base.Ns mainGlobals mg→FnOk P w K mg base CX k fa fd [x] sp) (hbind:∀(s:Shared) (u:Value),BindsTo s fd ⟨[u],[]⟩ [(x,u)])
  (hsp:∀ H:Hp,Only H→SqL K H a (ns.map V.int)→sp [.ref a] H (fun v _=>v = .bl true) fun _ _ _=>False)
  (hCX:∀ H e s',CX [] H s₁ (fun _ _ _=>False) e s'→False) :
  codeAny (model P w) callerA (.call (.ref fa) ⟨[.ref a],[]⟩) (fun r s'=>r = .ok (.ret (.bool true))∧OldK s₁.heap s'.heap∧s'.os=s₁.os∧AllBare s'.gens) s₁:=by
 have rv:=z9x hi
 have lenV:=hi.length
 have core:∀ H:Hp,Only H→SqL K H a (ns.map V.int)→HOk P w H s₁.heap→(∀ b,H b≠none→b=a)→(H a≠none→K.lookup a=none) →
    codeAny (model P w) callerA (.call (.ref fa) ⟨[.ref a],[]⟩) (fun r s'=>r = .ok (.ret (.bool true))∧OldK s₁.heap s'.heap∧s'.os=s₁.os∧AllBare s'.gens) s₁:=by
  intro H hO hS hok hA hK
  have base_of:∀{b:Addr} {o:Obj},s₁.heap.get? b=some o→H b=none→(hidT s₁.heap H).get? b=some o:=fun e n=>zhH e n
  have noA:∀{b:Addr} {o:Obj} {es:Array DictEntry} {ep:Nat},s₁.heap.get? b=some o→o.data = .dict es ep→H b=none:=fun{b o es ep} e d=>by
    cases q:H b with
    | none=>rfl
    | some u =>
      have e':b=a:=hA b (by rw[q];simp)
      subst e'
      rw[ha]at e;cases e
      have d':Data.seq vs.toArray _=Data.dict es ep:=d
      cases d'
  have nsK:∀{b:Addr} {m:Str→Option Value},s₁.heap.Ns b m→(hidT s₁.heap H).Ns b m:=fun{b m} ⟨o,es,ep,e,d,r⟩=>⟨o,es,ep,base_of e (noA e d),d,r⟩
  have hKb:K.In (hidT s₁.heap H):=fun b o e=>base_of (KX b o e) (by
    cases q:H b with
    | none=>rfl
    | some u =>
      have e':b=a:=hA b (by rw[q];simp)
      subst e'
      rw[hK (by rw[q];simp)]at e;cases e)
  have hM:Mod K mg (hidT s₁.heap H):=⟨hKb,nsK hns,⟨mb,nsK hb,hbb⟩,let ⟨mc,h1,h2⟩:=hlim;⟨mc,nsK h1,h2⟩⟩
  have e0:Env0 P w K mg (hidT s₁.heap H) callerA [] s₁ H:=⟨rfl,hM,fun b o e=>zlr e,Nat.le_of_eq (zgU _ _),trivial,fun b hb=>absurd (show b∈([]:List Addr)from hb) (by simp),hok,.of_eq hg⟩
  refine codeAny_mono ((F _ hKb (nsK hns)).run callerA [] s₁ H ⟨[.ref a],[]⟩ [.ref a] [.ref a] _ _ hr e0 (hbind s₁ (.ref a)) (.cons rfl .nil) (hsp H hO hS)) fun r s' h=>?_
  cases r with
  | error e=>exact(hCX H e s' h).elim
  | ok fl =>
    cases fl with
    | next=>exact False.elim h
    | brk=>exact False.elim h
    | cont=>exact False.elim h
    | ret u =>
      obtain⟨v,H',os,bare,un,hok',r',q⟩:=h
      have q':v = .bl true:=q
      subst q'
      obtain rfl:u=Value.bool true:=r'
      refine⟨rfl,OldK.of_keep fun b o e=>?_,os,bare⟩
      cases q:H b with
      | none=>exact un.keep b o e q (by intro z;exact absurd (show b∈([]:List Addr)from z) (by simp)) (by simp)
      | some u =>
       rcases hO b with z|⟨ob,xs,z⟩
       · rw[q]at z;cases z
       · have z2:=un.frzs b ob _ z
         obtain⟨e1,_⟩:=hok b _ z
         obtain⟨e2,_⟩:=hok' b _ z2
         rw[e]at e1;cases e1
         exact e2
 cases hk:K.lookup a with
 | some o =>
  have e:=KX a o hk
  rw[ha]at e
  cases e
  refine core (fun _=>none) (fun _ => .inl rfl) (.inr ⟨_,vs.toArray,_,hk,rfl,rfl,rfl,by rw[List.size_toArray,lenV];exact hl,by simpa using rv⟩) (fun b u z=>by have z':(none:Option HO)=some u:=z;cases z') (fun b z=>absurd rfl z) fun z=>absurd rfl z
 | none =>
  refine core (fun b=>if b=a then some (.frz { cls := .type "list",data := .seq vs.toArray } (.lst (ns.map V.int))) else none) (fun b=>?_) (.inl (.inr ⟨{ cls := .type "list",data := .seq vs.toArray },if_pos rfl⟩)) (fun b u z=>?_) (fun b z=>?_) fun _=>hk
  · by_cases hb:b=a
    · exact .inr ⟨_,_,if_pos hb⟩
    · exact .inl (if_neg hb)
  · by_cases hb:b=a
    · have z':=(if_pos hb).symm.trans z
      cases z'
      subst hb
      exact⟨ha,by rw[List.length_map];exact hl,vs,_,rv,ha⟩
    · have z':=(if_neg hb).symm.trans z
      cases z'
  · by_cases hb:b=a
    · exact hb
    · exact absurd (if_neg hb) z
end L2
namespace L2
open PySem PySem.Spec PyProof.Rows
theorem zlI{l:PySem.W.OpenLaw}{n k:Nat}{q:Program}{loose:List Str}{XP:(Str→Option Value)→Heap→Prop}{YP:World→Heap→Prop}{d:DefRec}{K:Params→PySem.W.Frag}{CX:World→CXT}{sp:World→Sp}{x:Str}
  (hn:l.most=some n) (hn2:n≤sizeLine) (hdf:d.params.defaults=[]) (hr:Room k callerA)
  (hY:∀(w:World) (h:Heap),YP w h→(K w.params).In h)
  (F:∀(w:World) (mg:Str→Option Value) (fa:Addr) (h:Heap),(K w.params).In h→h.Ns mainGlobals mg→mg d.name=some (.ref fa) →
   ∃ fd:FuncData,(∀(s:Shared) (u:Value),BindsTo s fd ⟨[u],[]⟩ [(x,u)]) ∧
    ∀ base:Heap,(K w.params).In base→base.Ns mainGlobals mg→FnOk l.prog w (K w.params) mg base (CX w) k fa fd [x] (sp w))
  (hsp:∀(w:World) (H:Hp) (a:Addr) (ns:List Int),ns.length≤n→Only H→SqL (K w.params) H a (ns.map V.int)→sp w [.ref a] H (fun v _=>v = .bl true) fun _ _ _=>False)
  (hCX:∀(w:World) (H:Hp) (s:Shared) (e:Value) (s':Shared),CX w [] H s (fun _ _ _=>False) e s'→False) :
  PySem.W.WalkO q loose XP YP l.row.toRowW d [] (fun f vs=>PySem.call f vs):=by
 refine Att.attach_call hn hdf fun w s₀ s₁ mg mb fa o pm cd doc a vs ns G Y ho hd hcd hmg hobj hints hlen hg=>?_
 have KX:=hY w _ Y
 obtain⟨fd,hb,hF⟩:=F w mg fa _ KX G.T.g hmg
 exact zhU KX G.T.g G.T.b G.T.builtins G.T.nolimit hg hobj hints (Nat.le_trans hlen hn2) hr hF hb (fun H hO hS=>hsp w H a ns hlen hO hS) fun H e s'=>hCX w H s₁ e s'
end L2
namespace L2
open PySem PySem.Spec PyProof.Rows
def z2j(s:Stmt):Arguments:=match s with
 | .FunctionDef _ a _ _ _ _ _ _ _ _=>a
 | _=>{ posonlyargs:=[],args:=[],vararg:=none,kwonlyargs:=[],kw_defaults:=[],kwarg:=none,defaults:=[] }
def z1u(s:Stmt):List Stmt:=match s with
 | .FunctionDef _ _ b _ _ _ _ _ _ _=>b
 | _=>[]
def z05(s:Stmt):Scope:=match s with
 | .FunctionDef _ _ _ _ _ _ sc _ _ _=>sc
 | _=>{ kind := .function,names:=[],isGenerator:=false,isCoroutine:=false }
abbrev CX0:CXT:=fun _ _ _ _ _ _=>False
abbrev E0:XK:=fun _ _ _=>False
theorem pass0{X:Cx}:z5m CX0 X E0:=fun _ _ _ _ _ _ _ h=>h.elim
structure Fun(K:PySem.W.Frag)(x qual:Str)(st:Stmt)(f:Addr)(fd:FuncData):Prop where
 ex:∃(oc:Value) (od:Option Addr) (kV doc pm:Value) (an:Option Addr) (cdv ct:Value) (osl:Array (Option Value)),
  fd=PySem.W.fnOf x qual (z2j st) (z1u st) (z05 st) .none kV doc pm an cdv ct∧K.lookup f=some ⟨oc,od,.func fd,osl⟩∧PySem.W.codeIn K cdv qual=true
 kp:PySem.W.keepIn K (.ref f)=true
section
variable {P:Program}{w:World}{K:PySem.W.Frag}{mg:Str→Option Value}{base:Heap}
theorem Fun.ok{x qual:Str}{st:Stmt}{f:Addr}{fd:FuncData}{N ps:List Str}{k:Nat}{sp:Sp}(F:Fun K x qual st f fd)(S:FnScope N ps (z05 st))(len:∀ vs H Q E,sp vs H Q E→vs.length=ps.length)
  (hbody:∀(cdv:Value) (A:Around) (outer:List Env) (s:Shared) (H:Hp) (vs:List V) (Q:VK) (E:XK),Room k (A.deeper (envOfC qual (z05 st) s.heap.objs.size f cdv))→sp vs H Q E →
   ∃ t,PSs (cxOf CX0 P w K mg base N qual (z05 st) f cdv A outer s H E).nox (z1u st) t∧t { nx:=fun _ H'=>Q .non H',rt:=Q } (start N vs) H):FnOk P w K mg base CX0 (k+1) f fd ps sp:=by
 obtain⟨oc,od,kV,doc,pm,an,cdv,ct,osl,rfl,lk,hcd⟩:=F.ex
 refine fn_of lk hcd S len fun A outer s H vs Q E hr hsp=>?_
 obtain⟨t,h,q⟩:=hbody cdv A outer s H vs Q E hr hsp
 exact⟨t,h.nox,q⟩
theorem Fun.binds{x qual:Str}{st:Stmt}{f:Addr}{fd:FuncData}{ps:List Str}(F:Fun K x qual st f fd)
  (h:∀(kV doc pm:Value) (an:Option Addr) (cdv ct:Value) (us:List Value),us.length=ps.length→bindArgs (PySem.W.fnOf x qual (z2j st) (z1u st) (z05 st) .none kV doc pm an cdv ct) ⟨us,[]⟩=pure (ps.zip us)):Binds K fd ps []:=by
 obtain⟨oc,od,kV,doc,pm,an,cdv,ct,osl,rfl,lk,hcd⟩:=F.ex
 exact .all (h kV doc pm an cdv ct)
theorem zhV{x qual:Str}{st:Stmt}{f:Addr}{oc:Value}{od an:Option Addr}{osl:Array (Option Value)}{kV doc pm cdv ct:Value}(l:K.lookup f=some ⟨oc,od,.func (PySem.W.fnOf x qual (z2j st) (z1u st) (z05 st) .none kV doc pm an cdv ct),osl⟩)
 (c:PySem.W.codeIn K cdv qual=true) (k:PySem.W.keepIn K (.ref f)=true):Fun K x qual st f (PySem.W.fnOf x qual (z2j st) (z1u st) (z05 st) .none kV doc pm an cdv ct):=⟨⟨oc,od,kV,doc,pm,an,cdv,ct,osl,rfl,l,c⟩,k⟩
end
section
variable {X:Cx}
end
def Same(H H':Hp):Prop:=∀ b o,H b=some o→H' b=some o
theorem Same.refl(H:Hp):Same H H:=fun _ _ h=>h
theorem Same.trans{H H1 H2:Hp}(a:Same H H1)(b:Same H1 H2):Same H H2:=fun c o h=>b c o (a c o h)
theorem Same.free{H H':Hp}(e:Same H H'){l:Addr}(h:H' l=Option.none):H l=Option.none:=by
 cases q:H l with
 | none=>rfl
 | some o =>
  rw[e l o q]at h
  cases h
theorem Same.seq{K:PySem.W.Frag}{H H':Hp}{a:Addr}{xs:List V}(e:Same H H')(h:SqL K H a xs):SqL K H' a xs:=by
 rcases h with(h|⟨o,h⟩)|h
 · exact .inl (.inl (e _ _ h))
 · exact .inl (.inr ⟨o,e _ _ h⟩)
 · exact .inr h
end L2

end
section
set_option Elab.async false
set_option linter.all false
set_option maxRecDepth 100000
namespace L2
open PySem PySem.Spec PyProof.Rows
theorem zhW{x:Str}{lo:Nat}:∀(names:List (Str×NameKind)) (n:Nat) (acc:List (Str×Addr)) (c:Addr),lo≤n→(∀ c,acc.lookup x=some c→lo≤c)→(cellsFrom n names acc).lookup x=some c→lo≤c
 | [],_,_,_,_,h,e=>h _ e
 | (y,k)::r,n,acc,c,hn,h,e=>by
  unfold cellsFrom at e
  split at e
  · refine zhW r (n+1) _ c (Nat.le_succ_of_le hn) (fun c' e'=>?_) e
    rw[List.lookup_cons]at e'
    split at e'
    · cases e';exact hn
    · exact h c' e'
  · exact zhW r n acc c hn h e
theorem zcB{x:Str}:∀(names:List (Str×NameKind)) (n:Nat) (acc:List (Str×Addr)) (c:Addr),names.lookup x=some .cell→(cellsFrom n names acc).lookup x=some c→n≤c
 | [],_,_,_,h,_=>by cases h
 | (y,k)::r,n,acc,c,h,e=>by
  rw[List.lookup_cons]at h
  unfold cellsFrom at e
  cases hb:x==y with
  | true =>
   rw[hb]at h
   have hk:k = .cell:=by cases h;rfl
   subst hk
   rw[if_pos (show(NameKind.cell==NameKind.cell)=true from rfl)]at e
   refine zhW r (n+1) _ c (Nat.le_succ _) (fun c' e'=>?_) e
   rw[List.lookup_cons,hb]at e'
   cases e'
   exact Nat.le_refl _
  | false =>
   rw[hb]at h
   split at e
   · exact Nat.le_of_succ_le (zcB r (n+1) _ c h e)
   · exact zcB r n acc c h e
theorem zcC{x:Str}:∀(names:List (Str×NameKind)) (n:Nat) (acc:List (Str×Addr)),(∀ y∈names,y.1=x→y.2 ≠ .cell)→(cellsFrom n names acc).lookup x=acc.lookup x
 | [],_,_,_=>rfl
 | (y,k)::r,n,acc,h=>by
  unfold cellsFrom
  have hr:∀ y∈r,y.1=x→y.2 ≠ .cell:=fun z hz=>h z (List.mem_cons_of_mem _ hz)
  split
  · rename_i hk
    rw[zcC r (n+1) _ hr,List.lookup_cons]
    have hne:(x==y)=false:=by
     cases hb:x==y with
     | false=>rfl
     | true=>exact absurd (beq_iff_eq.mp hk) (h (y,k) List.mem_cons_self (beq_iff_eq.mp hb).symm)
    rw[hne]
  · exact zcC r n acc hr
theorem zcD:∀(names:List (Str×NameKind)) (n:Nat) (acc:List (Str×Addr)) (p:Str×Addr),p∈cellsFrom n names acc→n≤p.2∨p∈acc
 | [],_,_,_,e => .inr e
 | (y,k)::r,n,acc,p,e=>by
  unfold cellsFrom at e
  split at e
  · rcases zcD r (n+1) _ p e with q|q
    · exact .inl (Nat.le_of_succ_le q)
    · rcases List.mem_cons.mp q with q|q
      · subst q;exact .inl (Nat.le_refl _)
      · exact .inr q
  · exact zcD r n acc p e
theorem z81:∀(names:List (Str×NameKind)) (n:Nat) (acc:List (Str×Addr)),(∀ p∈acc,p.2<n)→(acc.Pairwise fun x y=>x.2≠y.2)→(cellsFrom n names acc).Pairwise fun x y=>x.2≠y.2
 | [],_,_,_,h=>h
 | (y,k)::r,n,acc,hl,h=>by
  unfold cellsFrom
  split
  · refine z81 r (n+1) _ (fun p hp=>?_) (List.pairwise_cons.mpr ⟨fun p hp e=>?_,h⟩)
    · rcases List.mem_cons.mp hp with q|q
      · subst q;exact Nat.lt_succ_self _
      · exact Nat.lt_succ_of_lt (hl p q)
    · have e':n=p.2:=e
      have q:=hl p hp
      rw[←e']at q
      exact absurd q (Nat.lt_irrefl _)
  · exact z81 r n acc hl h
theorem z82:∀(names:List (Str×NameKind)) (n:Nat) (acc:List (Str×Addr)),cellsFrom n names acc=cellsFrom n names []++acc
 | [],_,_=>rfl
 | (y,k)::r,n,acc=>by
  unfold cellsFrom
  split
  · rw[z82 r (n+1) ((y,n)::acc),z82 r (n+1) [(y,n)],List.append_assoc]
    rfl
  · exact z82 r n acc
def z0C(env:Env):List (Str×NameKind)→List (Str×Addr)→List (Str×Addr)
 | [],acc=>acc
 | (y,k)::r,acc=>if k == .free then z0C env r (match env.cells.lookup y with|some c=>(y,c)::acc|none=>acc) else z0C env r acc
theorem z3f{env:Env}{x:Str}:∀(names:List (Str×NameKind)) (acc:List (Str×Addr)),(∀ c,acc.lookup x=some c→env.cells.lookup x=some c)→∀ c,(z0C env names acc).lookup x=some c→env.cells.lookup x=some c
 | [],_,h=>h
 | (y,k)::r,acc,h=>by
  unfold z0C
  split
  · refine z3f r _ fun c e=>?_
    cases hy:env.cells.lookup y with
    | none=>rw[hy]at e;exact h c e
    | some d =>
     rw[hy]at e
     dsimp only at e
     rw[List.lookup_cons]at e
     split at e
     · rename_i hb
       cases e
       rw[beq_iff_eq.mp hb];exact hy
     · exact h c e
  · exact z3f r acc h
theorem z5n{env:Env}:∀(names:List (Str×NameKind)) (acc:List (Str×Addr)) (p:Str×Addr),p∈z0C env names acc→p∈acc∨env.cells.lookup p.1=some p.2
 | [],_,_,h => .inl h
 | (y,k)::r,acc,p,h=>by
  unfold z0C at h
  split at h
  · rcases z5n r _ p h with q|q
    · cases hy:env.cells.lookup y with
      | none=>rw[hy]at q;exact .inl q
      | some d =>
       rw[hy]at q
       rcases List.mem_cons.mp q with q|q
       · subst q;exact .inr hy
       · exact .inl q
    · exact .inr q
  · exact z5n r acc p h
theorem z3H{env:Env}{x:Str}:∀(names:List (Str×NameKind)) (acc:List (Str×Addr)),(acc.lookup x).isSome=true→((z0C env names acc).lookup x).isSome=true
 | [],_,h=>h
 | (y,k)::r,acc,h=>by
  unfold z0C
  split
  · refine z3H r _ ?_
    cases hy:env.cells.lookup y with
    | none=>exact h
    | some d =>
     show(List.lookup x ((y,d)::acc)).isSome=true
     rw[List.lookup_cons]
     split
     · rfl
     · exact h
  · exact z3H r acc h
theorem z5o{env:Env}{x:Str}{c:Addr}:∀(names:List (Str×NameKind)) (acc:List (Str×Addr)),names.lookup x=some .free→env.cells.lookup x=some c→((z0C env names acc).lookup x).isSome=true
 | [],_,h,_=>by cases h
 | (y,k)::r,acc,h,hc=>by
  rw[List.lookup_cons]at h
  unfold z0C
  cases hb:x==y with
  | true =>
   rw[hb]at h
   have hk:k = .free:=by cases h;rfl
   subst hk
   rw[if_pos (show(NameKind.free==NameKind.free)=true from rfl)]
   refine z3H r _ ?_
   have hxy:x=y:=beq_iff_eq.mp hb
   subst hxy
   rw[hc]
   show(List.lookup x ((x,c)::acc)).isSome=true
   rw[List.lookup_cons,hb];rfl
  | false =>
   rw[hb]at h
   split
   · exact z5o r _ h hc
   · exact z5o r _ h hc
theorem z5p{env:Env}:∀(names:List (Str×NameKind)) (acc:List (Str×Addr)) (f:Str×NameKind→List (Str×Addr)→Sem (ForInStep (List (Str×Addr)))),
  (∀ name kind cs,f (name,kind) cs=if kind == .free then(do let a ←cellOf env name;pure (.yield ((name,a)::cs))) else pure (.yield cs)) →
  (∀ y∈names,y.2 = .free→∃ c,env.cells.lookup y.1=some c)→forIn names acc f=(pure (z0C env names acc):Sem _)
 | [],acc,f,hf,h=>by rw[List.forIn_nil];rfl
 | (y,k)::r,acc,f,hf,h=>by
  have hr:∀ z∈r,z.2 = .free→∃ c,env.cells.lookup z.1=some c:=fun z hz=>h z (List.mem_cons_of_mem _ hz)
  rw[List.forIn_cons,hf]
  unfold z0C
  by_cases hk:(k==NameKind.free)=true
  · rw[if_pos hk,if_pos hk]
    obtain⟨c,hc⟩:=h (y,k) List.mem_cons_self (beq_iff_eq.mp hk)
    have hc':env.cells.lookup y=some c:=hc
    have e:cellOf env y=(pure c:Sem Addr):=by unfold cellOf;rw[hc']
    rw[e,hc']
    simp only[pure_bind]
    exact z5p r _ f hf hr
  · rw[if_neg hk,if_neg hk]
    simp only[pure_bind]
    exact z5p r _ f hf hr
theorem zcE{scope:Scope}{env:Env}(h:∀ y∈scope.names,y.2 = .free→∃ c,env.cells.lookup y.1=some c):closureFor scope env=pure (z0C env scope.names []):=by
 unfold closureFor
 simp only[]
 rw[z5p scope.names [] _ (fun name kind cs=>by cases hk:kind==NameKind.free<;>simp[hk]) h]
 rfl
end L2

end
section
set_option linter.all false
namespace L2
open PySem
section
variable {prog:Program}{w:World}{A:Around}{R:Result→Shared→Prop}{s:Shared}
theorem zaB{elt target iter:Expr}{ifs:List Expr}{scope:Scope}{pos:Pos}{it acc:Value}{env:Env}(I:Nat→Shared→Prop)
  (turn:∀ n s,I n s→wpAny (model prog w) A (pyNext it) (fun r s₁=>match r with
   | none=>R (.ok .next) s₁
   | some v=>wpAny (model prog w) A (letOwnedTupleGo target it v) (fun _ s₁'=>wpAny (model prog w) A (assign target env v) (fun _ s₂ =>
    wpAny (model prog w) A (forIn ifs true fun c r=>if r=true then do let ok ←isTrue c env (eval c env);pure (ForInStep.yield ok) else pure (ForInStep.yield r)) (fun ok s₃ =>
     if ok=true then wpAny (model prog w) A (eval elt env) (fun x s₄ =>
      wpAny (model prog w) A (call (.builtin "list.append") [acc,x]) (fun _ s₅=>∃ m,m<n∧I m s₅) (notedBy (model prog w) A env fun e s'=>R (.error e) s') s₄) (notedBy (model prog w) A env fun e s'=>R (.error e) s') s₃
     else ∃ m,m<n∧I m s₃) (notedBy (model prog w) A env fun e s'=>R (.error e) s') s₂) (notedBy (model prog w) A env fun e s'=>R (.error e) s') s₁')
    (notedBy (model prog w) A env fun e s'=>R (.error e) s') s₁) (notedBy (model prog w) A env fun e s'=>R (.error e) s') s)
  (n:Nat) (h:I n s) :
  codeAny (model prog w) A (.compLoop (.ListComp elt [⟨target,iter,ifs,0⟩] scope pos) 0 it acc env) R s:=by
 refine codeAny_loop rfl I (fun n s hI=>?_) n h
 show wpAny _ A ((compTurn (.ListComp elt [⟨target,iter,ifs,0⟩] scope pos) 0 it acc env).onRaise (fun x=>do noteFrame x env;theTreesLotGoes x)) _ _ s
 refine wpAny_noted ?_
 rw[compTurn_list]
 refine wpAny_bind (wpAny_standAt (wpAny_bind (wpAny_mono (turn n s hI) (fun r s₁ h₁=>?_) fun _ _ h'=>h')))
 cases r with
 | none=>exact wpAny_pure h₁
 | some v =>
  refine wpAny_bind (wpAny_mono h₁ (fun _ s₁' h₁'=>?_) fun _ _ h'=>h')
  refine wpAny_bind (wpAny_mono h₁' (fun _ s₂ h₂=>wpAny_bind (wpAny_mono h₂ (fun ok s₃ h₃=>?_) fun _ _ h'=>h')) fun _ _ h'=>h')
  cases ok with
  | false=>exact wpAny_pure ⟨rfl,h₃⟩
  | true =>
   exact wpAny_bind (wpAny_bind (wpAny_mono h₃ (fun x s₄ h₄=>wpAny_bind (wpAny_mono h₄ (fun _ s₅ h₅=>wpAny_pure (wpAny_pure ⟨rfl,h₅⟩)) fun _ _ h'=>h')) fun _ _ h'=>h'))
theorem zhX{M:Model}{E:Value→Shared→Prop}{scope:Scope}{globals:Addr}{cl:List (Str×Addr)}{qual:Str}{func:Option Addr}{code:Value}{env:Env}{Q:Env→Shared→Prop}
  (hQ:∀ h',h'.Ns s.heap.objs.size (fun _=>none)→(∀ b o,s.heap.get? b=some o→h'.get? b=some o)→(∀ n c,(n,c)∈cellsFrom (s.heap.objs.size+1) scope.names []→h'.IsCell c none) →
   Q (newEnv scope s.heap.objs.size globals (cellsFrom (s.heap.objs.size+1) scope.names cl) qual func code (some env) builtinsNs) { s with heap:=h' }) :
  wpAny M A (newFunctionEnv scope globals cl [] qual func code (some env)) Q E s:=by
 simp only[newFunctionEnv,Option.isSome_some,if_true]
 refine wpAny_bind (wpAny_alloc ?_)
 refine wpAny_bind (wpAny_layCells _ (fun name kind cells=>by cases hkc:kind==NameKind.cell<;>simp[hkc]) _ _ _ _ ?_)
 have ok:=cellsFrom_ok scope.names (s.heap.push { cls := .type "dict",data := .dict #[] }) (s.heap.objs.size+1) [] ⟨fun _ _ hm=>(nomatch hm),List.Pairwise.nil⟩ (by rw[Heap.size_push];exact Nat.le_refl _)
 rw[Heap.size_push]at ok
 rw[show({ s with heap:=s.heap.push { cls := .type "dict",data := .dict #[] } }:Shared).heap.objs.size=s.heap.objs.size+1 from Heap.size_push ..]
 refine wpAny_bind ?_
 rw[List.forIn_nil]
 refine wpAny_pure (wpAny_pure ?_)
 exact hQ _ ((Heap.Ns.new s.heap (.type "dict")).keeps (pushCells_keeps _ _)) (fun b o e=>pushCells_keeps _ _ b o (Heap.get?_push_of_some _ e)) fun n c hm=>(ok.empty n c hm).1
end
end L2

end
section
set_option Elab.async false
set_option linter.all false
set_option maxRecDepth 100000
namespace L2
open PySem PySem.Spec PyProof.Rows
def z0T(X:Cx)(N:List Str)(scope:Scope)(cl:List (Str×Addr))(C:Addr)(fp:List Addr)(s:Shared)(H:Hp):Cx where
 prog:=X.prog
 w:=X.w
 K:=X.K
 mg:=X.mg
 base:=X.base
 A:=X.A
 N:=N
 s₀:=s
 H₀:=H
 env:=compEnvC scope cl C X.env
 outer:=X.stack
 stack:=X.stack
 ex:=fp
 fn:=fun x=>scope.names.lookup x==some .cell
 calm:=X.calm
 pn:=[]
 xe:=fun _ _=>False
structure CompScope(X:Cx)(N:List Str)(scope:Scope)(nt:Nat)(js:List Nat):Prop where
 kind:scope.kind = .function
 nd:(scope.names.map (·.1)).Nodup
 loc:∀ x∈scope.names,x.2 = .local→scope.names.lookup x.1=some .local
 len:N.length=nt+js.length
 names:∀ k j,js[k]?=some j→∃ x,N[nt+k]?=some x∧X.N[j]?=some x∧scope.names.lookup x=some .free
 fre:∀ x∈scope.names,x.2 = .free→X.env.kindOf x.1=some .cell∨X.env.kindOf x.1=some .free
def sig(nt:Nat)(js:List Nat)(σ:St):St:=List.replicate nt none++js.map fun j=>(σ[j]?).join
def PTs(X:Cx)(ifs:List Expr)(t:TT):Prop :=
 ∀(pins:List (Addr×Obj)) (s:Shared) (σ:St) (H:Hp) (Q:Bool→Hp→Prop),Inv X pins σ H s→t σ H Q →
  wpAny (model X.prog X.w) X.A (forIn ifs true fun c r=>if r=true then do let ok ←isTrue c X.env (eval c X.env);pure (ForInStep.yield ok) else pure (ForInStep.yield r)) (TP X pins σ Q) X.xe s
def tYes:TT:=fun _ H Q=>Q true H
theorem zlJ{X:Cx}:PTs X [] tYes:=fun pins s σ H Q I h=>wpAny_tests_nil ⟨H,I,h⟩
theorem zlK{X:Cx}{c:Expr}{t:TT}(hc:PT X c t):PTs X [c] t:=fun pins s σ H Q I h=>wpAny_tests_one (hc pins s σ H Q I h)
theorem nlt{a b:Nat}(h1:a+1≤b)(h2:b<a):False:=by omega
theorem z2u{α:Type}:∀{l:List (Str×α)} {p:Str×α},(l.map (·.1)).Nodup→p∈l→l.lookup p.1=some p.2
 | [],_,_,h=>by cases h
 | (y,k)::r,p,nd,h=>by
  have nd:(y::r.map (·.1)).Nodup:=nd
  obtain⟨n1,n2⟩:=List.nodup_cons.mp nd
  rw[List.lookup_cons]
  rcases List.mem_cons.mp h with e|e
  · subst e
    show(match y==y with|true=>some k|false=>_)=some k
    rw[beq_self_eq_true]
  · cases hb:p.1==y with
    | true =>
     rw[←beq_iff_eq.mp hb]at n1
     exact absurd (List.mem_map.mpr ⟨p,e,rfl⟩) n1
    | false=>exact z2u n2 e
theorem z4b{env:Env}{x:Str}:∀{names:List (Str×NameKind)} {k:NameKind},names.lookup x=some k →
  (names.map fun(n,k)=>if(k==NameKind.free&&env.scope.kind == .function&&env.kindOf n==some .cell) then(n,NameKind.cell) else(n,k)).lookup x=some (if(k==NameKind.free&&env.scope.kind == .function&&env.kindOf x==some .cell)=true then .cell else k)
 | [],_,h=>by cases h
 | (y,k')::r,k,h=>by
  rw[List.lookup_cons]at h
  show List.lookup x ((if(k'==NameKind.free&&env.scope.kind == .function&&env.kindOf y==some .cell)=true then(y,NameKind.cell) else(y,k'))::_)=_
  cases hb:x==y with
  | true =>
   rw[hb]at h
   have hk:k'=k:=by cases h;rfl
   have hxy:x=y:=beq_iff_eq.mp hb
   subst hk;subst hxy
   split<;>(rw[List.lookup_cons];rw[hb])
  | false =>
   rw[hb]at h
   have ih:=@z4b env x r k h
   split<;>(rw[List.lookup_cons];rw[hb];exact ih)
theorem z3I{env:Env}{x:Str}{k:NameKind}:∀{names:List (Str×NameKind)},
  (names.map fun(n,k)=>if(k==NameKind.free&&env.scope.kind == .function&&env.kindOf n==some .cell) then(n,NameKind.cell) else(n,k)).lookup x=some k→∃ k',names.lookup x=some k'∧(k=k'∨(k' = .free∧k = .cell))
 | [],h=>by cases h
 | (y,k')::r,h=>by
  have h:List.lookup x ((if(k'==NameKind.free&&env.scope.kind == .function&&env.kindOf y==some .cell)=true then(y,NameKind.cell) else(y,k'))::r.map fun(n,k)=>if(k==NameKind.free&&env.scope.kind == .function&&env.kindOf n==some .cell) then(n,NameKind.cell) else(n,k))=some k:=h
  rw[List.lookup_cons]
  cases hb:x==y with
  | true =>
   split at h
   · rename_i hc
     rw[List.lookup_cons,hb]at h
     have hf:(k'==NameKind.free)=true:=by
      rw[Bool.and_eq_true,Bool.and_eq_true]at hc
      exact hc.1.1
     cases h
     exact⟨k',rfl,.inr ⟨beq_iff_eq.mp hf,rfl⟩⟩
   · rw[List.lookup_cons,hb]at h
     cases h
     exact⟨k,rfl,.inl rfl⟩
  | false =>
   split at h
   all_goals
     rw[List.lookup_cons,hb]at h
     exact z3I h
section
variable {X:Cx}{N:List Str}{scope:Scope}{nt:Nat}{js:List Nat}{pins:List (Addr×Obj)}{σ:St}{H:Hp}{s:Shared}{fp:List Addr}
theorem zhY{s2:Shared}{H2:Hp}(S:CompScope X N scope nt js)(I2:Inv X pins σ H2 s2)(I:Inv X pins σ H s)(hu:Un (frs X.stack) fp H2 H s2.heap s.heap)(hos:s.os=s2.os)(hz:s2.heap.objs.size≤s.heap.objs.size)
   (hf:∀ b∈fp,FpOk X pins H b) (ho:∀ b∈fp,∃ o,s.heap.get? b=some o) {h':Heap}
   (ns:h'.Ns s.heap.objs.size (fun _=>none)) (k:∀ b o,s.heap.get? b=some o→h'.get? b=some o) (nc:∀ n c,(n,c)∈cellsFrom (s.heap.objs.size+1) scope.names []→h'.IsCell c none) :
   Inv (z0T X N scope (cellsFrom (s.heap.objs.size+1) scope.names (z0C X.env scope.names [])) s.heap.objs.size fp s2 H2) [] (sig nt js σ) H { s with heap:=h' }:=by
 have ok:=I.ok
 have hcl:∀ p∈z0C X.env scope.names [],X.env.cells.lookup p.1=some p.2:=fun p hp=>(z5n _ _ p hp).resolve_left (by simp)
 have hlt:∀ x c,X.env.cells.lookup x=some c→c<s.heap.objs.size:=fun x c e=>by
   obtain⟨v,o,ho,_⟩:=I.cell x c e
   exact Heap.lt_size ho
 have mem:∀ x c,(cellsFrom (s.heap.objs.size+1) scope.names (z0C X.env scope.names [])).lookup x=some c→s.heap.objs.size+1≤c∨X.env.cells.lookup x=some c:=fun x c e=>by
   rcases zcD _ _ _ _ (PySem.mem_of_lookup e)with q|q
   · exact .inl q
   · exact .inr (hcl _ q)
 have frec:∀ x,scope.names.lookup x=some .free→∃ c,X.env.cells.lookup x=some c∧(cellsFrom (s.heap.objs.size+1) scope.names (z0C X.env scope.names [])).lookup x=some c:=fun x hx=>by
   obtain⟨c,hc⟩:=ok.has x (S.fre (x,.free) (PySem.mem_of_lookup hx) rfl)
   refine⟨c,hc,?_⟩
   rw[zcC _ _ _ fun y hy e=>?_]
   · obtain⟨d,hd⟩:=Option.isSome_iff_exists.mp (z5o (env:=X.env) scope.names [] hx hc)
     have:=z3f (env:=X.env) (x:=x) scope.names [] (fun c e=>by simp at e) d hd
     rw[hc]at this
     cases this
     exact hd
   · have q:=z2u S.nd hy
     rw[e,hx]at q
     intro z
     rw[z]at q
     cases q
 refine⟨⟨ok.mod,S.kind,ok.glob,ok.blt,hz,fun x y c hx hy=>?_,fun x hx=>?_,fun x c hx e=>?_,ok.hd,ok.frames,.inl rfl,fun b hb=>⟨?_,fun x c e=>?_⟩,fun b o e=>?_,?_,fun b o e hb=>?_,fun b hb=>?_,I2.stack,I2.stkFree⟩,
   hos,I.bare,hu.trans (Un.kept k),⟨_,ns,fun i x v h1 h2 h3=>?_⟩,fun x c e=>?_,?_,fun x c e=>?_,fun p hp=>absurd (show p∈([]:List (Addr×Obj))from hp) (by simp),I.hok.kept k,?_⟩
 ·
   rcases mem x c hx with q|q
   · rcases mem y c hy with q'|q'
     · have in1:∀ z:Str,(z,c)∈cellsFrom (s.heap.objs.size+1) scope.names (z0C X.env scope.names [])→(z,c)∈cellsFrom (s.heap.objs.size+1) scope.names []:=fun z hz=>by
         rw[z82]at hz
         rcases List.mem_append.mp hz with hz|hz
         · exact hz
         · exact(nlt q (hlt _ _ (hcl _ hz))).elim
       exact name_of_addr (z81 scope.names (s.heap.objs.size+1) [] (fun p hp=>by simp at hp) List.Pairwise.nil) (in1 x (PySem.mem_of_lookup hx)) (in1 y (PySem.mem_of_lookup hy))
     · exact(nlt q (hlt _ _ q')).elim
   · rcases mem y c hy with q'|q'
     · exact(nlt q' (hlt _ _ q)).elim
     · exact ok.inj x y c q q'
 ·
   have hx:(relabel scope X.env).names.lookup x=some .cell∨(relabel scope X.env).names.lookup x=some .free:=hx
   have cs:scope.names.lookup x=some .cell∨scope.names.lookup x=some .free:=by
     rcases hx with q|q
     · obtain⟨k',e1,e2⟩:=z3I q
       rcases e2 with e2|⟨e2,_⟩
       · rw[←e2]at e1;exact .inl e1
       · rw[e2]at e1;exact .inr e1
     · obtain⟨k',e1,e2⟩:=z3I q
       rcases e2 with e2|⟨_,e2⟩
       · rw[←e2]at e1;exact .inr e1
       · cases e2
   rcases cs with q|q
   · exact Option.isSome_iff_exists.mp (PySem.W.cellsFrom_some scope.names _ _ (.inl q))
   · obtain⟨c,_,e⟩:=frec x q
     exact⟨c,e⟩
 ·
   have hx:(scope.names.lookup x==some .cell)=true:=hx
   exact Nat.le_trans hz (Nat.le_of_succ_le (zcB scope.names _ _ c (beq_iff_eq.mp hx) e))
 ·
   intro e
   obtain⟨o,hb'⟩:=ho b hb
   exact absurd (Heap.lt_size hb') (by rw[e];exact Nat.lt_irrefl _)
 · rcases mem x c e with q|q
   · intro z
     obtain⟨o,hb'⟩:=ho b hb
     have:=Heap.lt_size hb'
     rw[←z]at this
     exact nlt q this
   · exact(hf b hb).2.2.2.2.1 x c q
 · exact I2.bs b o e
 · exact Nat.le_trans ok.bsz I2.sz
 ·
   rcases(hf b hb).2.2.2.1 with q|q
   · exact ok.noex b o e q
   · exact absurd (Nat.lt_of_lt_of_le (Heap.lt_size e) (Nat.le_trans ok.bsz q)) (Nat.lt_irrefl _)
 ·
   intro z
   rcases List.mem_cons.mp (I.stkSub b z)with q|q
   · exact(hf b hb).2.1 q
   · exact(hf b hb).2.2.1 q
 ·
   have hi:nt≤i:=by
     by_cases hi:i<nt
     · unfold sig at h2
       rw[List.getElem?_append_left (by simpa using hi),List.getElem?_replicate]at h2
       split at h2<;>cases h2
     · omega
   unfold sig at h2
   rw[List.getElem?_append_right (by simpa using hi),List.length_replicate,List.getElem?_map]at h2
   cases ej:js[i-nt]? with
   | none=>rw[ej]at h2;cases h2
   | some j =>
     rw[ej]at h2
     have h2:(σ[j]?).join=some v:=Option.some.inj h2
     obtain⟨y,n1,n2,n3⟩:=S.names _ _ ej
     have hxy:x=y:=by
       have e:nt+(i-nt)=i:=by omega
       rw[e]at n1
       have h1:N[i]?=some x:=h1
       rw[h1]at n1
       exact Option.some.inj n1
     subst hxy
     have h2':σ[j]?=some (some v):=by
       cases eσ:σ[j]? with
       | none=>rw[eσ]at h2;cases h2
       | some a =>
         rw[eσ]at h2
         have h2:a=some v:=h2
         rw[h2]
     obtain⟨m,hn,hl⟩:=I.loc
     have kd:=S.fre (x,.free) (PySem.mem_of_lookup n3) rfl
     obtain⟨u,ru,lk⟩:=hl j x v n2 h2' (.inr kd)
     refine⟨u,ru,?_⟩
     obtain⟨c,c1,c2⟩:=frec x n3
     rcases lk with⟨z,_⟩|⟨_,d,d1,d2⟩
     · have kd':X.env.kindOf x=some .cell∨X.env.kindOf x=some .free:=kd
       rw[z]at kd'
       rcases kd' with q|q<;>cases q
     · rw[c1]at d1
       cases d1
       refine .inr ⟨?_,c,c2,d2.keeps k⟩
       have:=z4b (env:=X.env) n3
       show(relabel scope X.env).names.lookup x=some .cell∨(relabel scope X.env).names.lookup x=some .free
       unfold relabel
       dsimp only
       rw[this]
       split
       · exact .inl rfl
       · exact .inr rfl
 ·
   have e:(cellsFrom (s.heap.objs.size+1) scope.names (z0C X.env scope.names [])).lookup x=some c:=e
   have hm:=PySem.mem_of_lookup e
   rw[z82]at hm
   rcases List.mem_append.mp hm with q|q
   · exact⟨none,nc x c q⟩
   · obtain⟨v,hv⟩:=I.cell x c (hcl _ q)
     exact⟨v,hv.keeps k⟩
 · exact I.hok.fresh (Nat.le_refl _)
 · rcases mem x c e with q|q
   · exact I.hok.fresh (Nat.le_of_succ_le q)
   · exact I.freeC x c q
 · show(sig nt js σ).length=N.length
   unfold sig
   rw[List.length_append,List.length_replicate,List.length_map,S.len]
end
end L2

end
section
set_option Elab.async false
set_option linter.all false
set_option maxRecDepth 100000
namespace L2
open PySem PySem.Spec PyProof.Rows
def zfZ(nt:Nat)(js:List Nat)(wi:TI)(g:TG)(tc:Hp→TT)(te:Hp→TE):TE:=fun σ H Q=>wi σ H fun J H1=>∀ D,H1 D=none →
 ∃ W:Nat→Nat→List V→Hp→Prop,(∃ m,W 0 m [] (upd H1 D (.lst [])))∧∀ i m ys H,W i m ys H →
  (J.stop i H∧Q (.ref D) H)∨(J.go i H∧∀ x H',J.yld i H x H'→g x (sig nt js σ) H' fun σ2 H2=>tc H1 σ2 H2 fun b H3 =>
   if b=true then te H1 σ2 H3 fun v H4=>H4 D=some (.lst ys)∧ys.length<sizeLine∧∃ m',m'<m∧W (i+1) m' (ys++[v]) (upd H4 D (.lst (ys++[v])))
   else ∃ m',m'<m∧W (i+1) m' ys H3)
section
variable {X:Cx}{N:List Str}{scope:Scope}{nt:Nat}{js:List Nat}{tg elt iter:Expr}{ifs:List Expr}{wi:TI}{g:TG}{tc:Hp→TT}{te:Hp→TE}{pos:Pos}
theorem zhZ{σ σ2:St}(hl:σ2.length=(sig nt js σ).length)(h:∀ i,nt≤i→σ2[i]?=(sig nt js σ)[i]?):∀(i:Nat) v,(sig nt js σ)[i]?=some (some v)→σ2[i]?=some (some v):=fun i v e=>by
 by_cases hi:nt≤i
 · rw[h i hi];exact e
 · unfold sig at e
   rw[List.getElem?_append_left (by rw[List.length_replicate];omega),List.getElem?_replicate]at e
   split at e<;>cases e
def TgOk(nt:Nat)(g:TG):Prop:=∀ x σ H (Q:St→Hp→Prop),g x σ H Q→g x σ H fun σ2 H2=>(σ2.length=σ.length∧∀ i,nt≤i→σ2[i]?=σ[i]?)∧Q σ2 H2
theorem zbn(S:CompScope X N scope nt js)(hc:X.calm=true)(hi:PI X tg iter wi)
  (hg:∀ cl C fp s H,PG (z0T X N scope cl C fp s H) tg g) (ht:TgOk nt g) (hcs:∀ cl C fp s H,PTs (z0T X N scope cl C fp s H) ifs (tc H)) (he:∀ cl C fp s H,PE (z0T X N scope cl C fp s H) elt (te H))
  {use:Option (Value→Sem Unit)} {pins:List (Addr×Obj)} {s:Shared} {σ:St} {H:Hp} {Q:VK} {Q':Value→Shared→Prop} (I:Inv X pins σ H s) (h:zfZ nt js wi g tc te σ H Q)
  (hs:∀ x,foldedSetIterable iter X.env x=pure x)
  (fin:∀(D C:Addr) (H':Hp) (s':Shared),Inv X pins σ H' s'→Q (.ref D) H'→H' C=none→C≠X.env.locals→(X.s₀.heap.objs.size≤C)→(∀ x c,X.env.cells.lookup x=some c→c≠C)→(∀ p∈X.pn++pins,p.1≠C)→(∃ m,s'.heap.Ns C m) →
    compPost (model X.prog X.w) X.A X.xe use Q' (.ref D) C (.ok .next) s') :
  wpAny (model X.prog X.w) X.A (comprehension (.ListComp elt [⟨tg,iter,ifs,0⟩] scope pos) scope X.env (firstIterPos [⟨tg,iter,ifs,0⟩] pos) (newList []) false (eval iter X.env) use) Q' X.xe s:=by
 have clo:closureFor scope X.env=pure (z0C X.env scope.names []):=zcE fun y hy e=>I.ok.has y.1 (S.fre y hy e)
 refine wpAny_comprehension_free (cl:=z0C X.env scope.names []) rfl hs clo S.kind S.loc (thn (hi pins s σ H _ I h) fun xv s1 h1=>thn h1 fun itv s2 h2=>?_)
 obtain⟨it,fp,tn,J,H2,rfl,I2,T,st2,f2,q2⟩:=h2
 refine wpAny_newObj_type (hd:=by size_fits) ?_
 have fresh2:H2 s2.heap.objs.size=none:=I2.fresh
 have I3:=I2.lnew (ys:=[]) (its:=[]) (t':=s2.toks) .nil (Nat.zero_le _)
 obtain⟨W,⟨m0,w0⟩,turn⟩:=q2 s2.heap.objs.size fresh2
 have ltf:∀ b∈fp,b<s2.heap.objs.size:=fun b hb=>by
  obtain⟨o,e,_⟩:=T.obj 0 _ st2 b hb
  exact Heap.lt_size e
 have ned:∀ b∈fp,b≠s2.heap.objs.size:=fun b hb=>Nat.ne_of_lt (ltf b hb)
 have f3:∀ b∈fp,FpOk X pins (upd H2 s2.heap.objs.size (.lst [])) b:=fun b hb=>⟨by rw[z0m (ned b hb)];exact(f2 b hb).1,(f2 b hb).2⟩
 generalize e3:({ s2 with heap:=s2.heap.push { cls := .type "list",dict:=none,data := .seq ([]:List Value).toArray } }:Shared)=s3 at *
 have k3:∀ b o,s2.heap.get? b=some o→s3.heap.get? b=some o:=fun b o e=>by rw[←e3];exact Heap.get?_push_of_some _ e
 have os3:s3.os=s2.os:=by rw[←e3]
 have sz3:s2.heap.objs.size<s3.heap.objs.size:=by rw[←e3];show _<(s2.heap.push _).objs.size;rw[Heap.size_push];exact Nat.lt_succ_self _
 refine zhX fun h4 ns4 k4 nc4=>?_
 have I4:=zhY S I2 I3 (Un.laid k3 (Nat.le_refl _) fresh2) os3 (Nat.le_of_lt sz3) f3 (fun b hb=>by obtain⟨o,e,_⟩:=T.obj 0 _ st2 b hb;exact⟨o,k3 b o e⟩) ns4 k4 nc4
 have st4:tn 0 h4:=T.keep _ _ _ st2 fun b _ o e=>k4 b o (k3 b o e)
 generalize eC:s3.heap.objs.size=C at *
 have stat:∀{H':Hp},(∀ b∈fp,H' b=none)→∀ b∈fp,FpOk (z0T X N scope (cellsFrom (C+1) scope.names (z0C X.env scope.names [])) C fp s2 H2) [] H' b:=fun hn b hb =>
  ⟨hn b hb,(I4.ok.exf b hb).1,I4.ok.exfs b hb,.inl hb,(I4.ok.exf b hb).2,fun p hp=>absurd (show p∈([]:List (Addr×Obj))from hp) (by simp)⟩
 have loop:∀ s4:Shared,s4={ s3 with heap:=h4 }→codeAny (model X.prog X.w) X.A (.compLoop (.ListComp elt [⟨tg,iter,ifs,0⟩] scope pos) 0 (.ref it) (.ref s2.heap.objs.size) (compEnvC scope (cellsFrom (C+1) scope.names (z0C X.env scope.names [])) C X.env))
    (compPost (model X.prog X.w) X.A X.xe use Q' (.ref s2.heap.objs.size) C) s4:=by
  rintro s4 rfl
  refine zaB (fun n s'=>∃ i ys H',Inv (z0T X N scope (cellsFrom (C+1) scope.names (z0C X.env scope.names [])) C fp s2 H2) [] (sig nt js σ) H' s'∧tn i s'.heap∧(∀ b∈fp,H' b=none)∧W i n ys H') ?_ m0
    ⟨0,[],_,I4,st4,fun b hb=>(f3 b hb).1,w0⟩
  rintro n s5 ⟨i,ys,H5,I5,st5,fr5,w5⟩
  rcases turn i n ys H5 w5 with⟨stop,q⟩|⟨go,step⟩
  · refine wpAny_mono (T.done (z0T X N scope (cellsFrom (C+1) scope.names (z0C X.env scope.names [])) C fp s2 H2) rfl rfl rfl hc i [] s5 _ H5 _ I5 (stat fr5) st5 stop) (fun r s6 hZ=>hZ.elim fun hr I6=>?_) fun _ _ z=>z
    subst hr
    have u:Un (frs X.stack) fp H2 H5 s2.heap s6.heap:=I6.base
    have J6:Inv X pins σ H5 s6:=I2.call' I6.os u I6.hok I6.bare fun b hb=>⟨(f2 b hb).2.2.2.1,(f2 b hb).2.1,(f2 b hb).2.2.2.2.1,(f2 b hb).2.2.2.2.2⟩
    have hCs:s2.heap.objs.size≤C:=Nat.le_of_lt sz3
    refine fin _ C H5 s6 J6 q I6.free (fun z=>?_) (Nat.le_trans I2.sz hCs) (fun x c e z=>?_) (fun p hp z=>?_) ?_
    · exact absurd I2.lt (by rw[←z];exact Nat.not_lt.mpr hCs)
    · obtain⟨v,o,ho,_⟩:=I2.cell x c e
      exact absurd (Heap.lt_size ho) (by rw[z];exact Nat.not_lt.mpr hCs)
    · exact absurd (Heap.lt_size (I2.pin p hp).1) (by rw[z];exact Nat.not_lt.mpr hCs)
    · obtain⟨m,hm,_⟩:=I6.loc
      exact⟨m,hm⟩
  · refine wpAny_mono (T.item (z0T X N scope (cellsFrom (C+1) scope.names (z0C X.env scope.names [])) C fp s2 H2) rfl rfl rfl hc i [] s5 _ H5 _ I5 (stat fr5) st5 go) (fun r s6 hZ=>hZ.elim fun u hZ=>hZ.elim fun hr h6=>?_) fun _ _ z=>z
    subst hr
    refine wpAny_mono h6 (fun _ s7 hZ=>hZ.elim fun x hZ=>hZ.elim fun H7 hZ=>hZ.elim fun I7 hZ=>hZ.elim fun r7 hZ=>hZ.elim fun y7 hZ=>hZ.elim fun st7 fr7=>?_) fun _ _ z=>z
    have I7':=I7.pinned (stat fr7) (T.obj _ _ st7)
    refine wpAny_mono (hg _ _ _ _ _ _ s7 _ H7 x u _ I7' r7 (ht _ _ _ _ (step x H7 y7))) (fun _ s8 ⟨σ8,H8,I8,⟨l8,o8⟩,q8⟩=>?_) fun _ _ z=>z.elim
    have again:∀{s9:Shared} {H9:Hp} {ys9:List V},Inv (z0T X N scope (cellsFrom (C+1) scope.names (z0C X.env scope.names [])) C fp s2 H2) ([]++z7Y fp s7.heap) σ8 H9 s9→(∃ m',m'<n∧W (i+1) m' ys9 H9) →
       ∃ m,m<n∧∃ i ys H',Inv (z0T X N scope (cellsFrom (C+1) scope.names (z0C X.env scope.names [])) C fp s2 H2) [] (sig nt js σ) H' s9∧tn i s9.heap∧(∀ b∈fp,H' b=none)∧W i m ys H':=fun{s9 H9 ys9} I9 ⟨m',hm,w9⟩=>by
      refine⟨m',hm,i+1,ys9,H9,I9.unpinned.weak l8.symm (zhZ l8 o8),T.keep _ _ _ st7 fun b hb o e=>(I9.pin (b,o) (List.mem_append_right _ (List.mem_append_right _ (z3F hb e)))).1,fun b hb=>?_,w9⟩
      obtain⟨o,e,_⟩:=T.obj _ _ st7 b hb
      exact(I9.pin (b,o) (List.mem_append_right _ (List.mem_append_right _ (z3F hb e)))).2.1
    refine wpAny_mono (hcs _ _ _ _ _ _ s8 σ8 H8 _ I8 q8) (fun ok s9 hZ=>hZ.elim fun H9 hZ=>hZ.elim fun I9 q9=>?_) fun _ _ z=>z.elim
    cases ok with
    | false =>
      rw[if_neg Bool.false_ne_true]at q9 ⊢
      exact again I9 q9
    | true =>
      rw[if_pos rfl]at q9 ⊢
      refine wpAny_mono (he _ _ _ _ _ _ s9 σ8 H9 _ I9 q9) (fun y s10 hZ=>hZ.elim fun v hZ=>hZ.elim fun H10 hZ=>hZ.elim fun I10 hZ=>hZ.elim fun r10 hZ=>hZ.elim fun d10 hZ=>hZ.elim fun l10 w10=>?_) fun _ _ z=>z.elim
      refine wpAny_mono (z9w (X:=z0T X N scope (cellsFrom (C+1) scope.names (z0C X.env scope.names [])) C fp s2 H2) _ s10 σ8 H10 (.ref s2.heap.objs.size) [v] (.ref s2.heap.objs.size) [y] (fun z H'=>∃ m',m'<n∧W (i+1) m' (ys++[v]) H') I10 rfl (.cons r10 .nil) ⟨_,ys,v,rfl,rfl,d10,l10,w10⟩) (fun _ s11 hZ=>hZ.elim fun _ hZ=>hZ.elim fun H11 hZ=>hZ.elim fun I11 hZ=>hZ.elim fun _ w11=>?_) fun _ _ z=>z.elim
      exact again I11 w11
 exact codeAny_compStart_list (loop _ rfl) (T.self _ _ _ _ _ st4 (loop _ rfl))
theorem zlL(S:CompScope X N scope nt js)(hc:X.calm=true)(hi:PI X tg iter wi)
  (hg:∀ cl C fp s H,PG (z0T X N scope cl C fp s H) tg g) (ht:TgOk nt g) (hcs:∀ cl C fp s H,PTs (z0T X N scope cl C fp s H) ifs (tc H)) (he:∀ cl C fp s H,PE (z0T X N scope cl C fp s H) elt (te H))
  (hs:∀ x,foldedSetIterable iter X.env x=pure x:=by intro _;rfl):PE X (.ListComp elt [⟨tg,iter,ifs,0⟩] scope pos) (zfZ nt js wi g tc te):=by
 intro pins s σ H Q I h
 rw[eval_ListComp]
 refine zbn (use:=none) S hc hi hg ht hcs he I h hs ?_
 rintro D C H' s' I' q hC hL hz hcl hpn ⟨m,hm⟩
 exact⟨m,hm,fun h' sb=>⟨.ref D,H',I'.turned (fun b o hb e=>sb.extBut b o hb e) hC hL (.inr hz) hcl hpn,rfl,q⟩⟩
theorem zlM{i:Nat}{x:Str}{pos' spos:Pos}(hN:X.N.Nodup)(hix:X.N[i]?=some x)(hx:X.env.scope.names.lookup x=some .local)(S:CompScope X N scope nt js)(hc:X.calm=true)(hi:PI X tg iter wi)
  (hg:∀ cl C fp s H,PG (z0T X N scope cl C fp s H) tg g) (ht:TgOk nt g) (hcs:∀ cl C fp s H,PTs (z0T X N scope cl C fp s H) ifs (tc H)) (he:∀ cl C fp s H,PE (z0T X N scope cl C fp s H) elt (te H))
  (hsw:swapsWith (.ListComp elt [⟨tg,iter,ifs,0⟩] scope pos) (some (.Name x pos')) spos.line X.env=pure true)
  (hs:∀ x,foldedSetIterable iter X.env x=pure x:=by intro _;rfl):PS X (.Assign [.Name x pos'] (.ListComp elt [⟨tg,iter,ifs,0⟩] scope pos) spos) (tAsg (zfZ nt js wi g tc te) (z7X i)):=by
 intro pins s σ H D0 I h
 rw[exec_Assign_Name_used _ _ _ _ hsw]
 refine wpAny_bind (wpAny_standAt (wpAny_bind ?_))
 show wpAny _ X.A (do let _ ←comprehension (.ListComp elt [⟨tg,iter,ifs,0⟩] scope pos) scope X.env _ (newList []) false (eval iter X.env) (some (assign (.Name x pos') X.env))) _ _ s
 refine wpAny_bind (wpAny_mono (zbn (use:=some (assign (.Name x pos') X.env)) (Q':=fun _ s'=>SP X pins D0 .next s') S hc hi hg ht hcs he I h hs fun D C H' s' I' q hC hL hz hcl hpn hZ=>hZ.elim fun m hm=>?_) (fun _ s' hq=>wpAny_pure (wpAny_pure hq)) fun _ _ e=>e)
 show wpAny _ X.A (assign (.Name x pos') X.env (.ref D)) _ _ s'
 refine wpAny_assign_Name (z9o (v := .ref D) I' hN hix (.inl hx) rfl (fun s'' I'' hZ=>hZ.elim fun a hZ=>hZ.elim fun sb ha=>?_) (.inr hx))
 have hCa:C≠a:=by
  rintro rfl
  rcases ha with ha|ha
  · exact hL ha
  · exact hcl x C ha rfl
 refine⟨m,hm.sameBut sb hCa,fun h' sb'=>⟨_,H',I''.turned (fun b o hb e=>sb'.extBut b o hb e) hC hL (.inr hz) hcl hpn,q⟩⟩
end
end L2

end
section
set_option Elab.async false
set_option linter.all false
set_option maxRecDepth 100000
namespace L2
open PySem PySem.Spec PyProof.Rows
section
variable {X:Cx}
def CDivG(_ j:Int):Prop:=j≠0∧j.natAbs.log2<9000
theorem zi:OpR X (binaryOp .FloorDiv) (rI CDivG fun i j => .int (i.fdiv j)):=opI fun _ _ _ _ _ _ _ hc q=>floordiv_int hc.1 q (.inl (PyProof.noPylong_of_log2 hc.2))
theorem log2_lt{n k:Nat}(h:n<2 ^ k)(hk:0<k):n.log2<k:=by
 by_cases h0:n=0
 · subst h0;exact hk
 · exact(Nat.log2_lt h0).mpr h
theorem zaC{i:Int}{k:Nat}(h:i.natAbs<2 ^ k):Builtin.Int.intBits i≤k:=by
 unfold Builtin.Int.intBits
 split
 · exact Nat.zero_le _
 · rename_i h0
   have h1:i.natAbs≠0:=by
    intro e
    apply h0
    have:i=0:=Int.natAbs_eq_zero.mp e
    subst this
    rfl
   exact Nat.succ_le_of_lt ((Nat.log2_lt h1).mpr h)
theorem pe_ty{x:Str}{T:String}{pos:Pos}(hg:Gl X x)(hm:X.mg x=none)(hv:bootBuiltins x=some (.type T))(hn:x ≠ "__name__" := by decide)(hd:(x==("__debug__" : Str))=false:=by decide):PE X (.Name x pos) (tC (.ty T)):=zlt (v:=V.ty T) hg hm hv rfl hn hd
end
end L2

end
section
set_option Elab.async false
set_option linter.all false
set_option maxRecDepth 100000
namespace L2
open PySem PySem.Spec PyProof.Rows
def hidL(A:List Addr)(H:Hp):Hp:=fun b=>if b∈A then none else H b
def z18(A:List Addr)(H H':Hp):Hp:=fun b=>if b∈A then H b else H' b
section
variable {A:List Addr}{H H' H1:Hp}{a b:Addr}{o:HO}
theorem z2k(h:b∈A):hidL A H b=none:=if_pos h
theorem z0k(h:b ∉ A):hidL A H b=H b:=if_neg h
theorem z3J(h:hidL A H b=some o):b ∉ A∧H b=some o:=by
 unfold hidL at h
 split at h
 · cases h
 · rename_i q;exact⟨q,h⟩
theorem z0t:Same (hidL A H) H:=fun b o e=>(z3J e).2
theorem zbo:hidL [] H=H:=funext fun b=>by unfold hidL;simp
theorem z4R(h:b∈A):z18 A H H' b=H b:=if_pos h
theorem z11(h:b ∉ A):z18 A H H' b=H' b:=if_neg h
theorem Same.glue(h:Same (hidL A H) H')(hn:∀ a∈A,H' a=none):Same H (z18 A H H'):=fun b o e=>by
 by_cases q:b∈A
 · rw[z4R q];exact e
 · rw[z11 q];exact h b o (by rw[z0k q];exact e)
theorem z2Q(hn:∀ a∈A,H' a=none):hidL A (z18 A H H')=H':=funext fun b=>by
 by_cases q:b∈A
 · rw[z2k q,hn b q]
 · rw[z0k q,z11 q]
end
def OwnL(X:Cx)(A:List Addr)(H:Hp):Prop:=∀ a∈A,(∃ vs,H a=some (.lst vs))∧X.H₀ a=none
section
variable {X:Cx}{A:List Addr}{pins:List (Addr×Obj)}{σ:St}{H H':Hp}{s s':Shared}
def zbp(h:Heap)(A:List Addr):List (Addr×Obj):=A.filterMap fun a=>(h.get? a).map fun o=>(a,o)
theorem z9y{h:Heap}{a:Addr}{o:Obj}(ha:a∈A)(e:h.get? a=some o):(a,o)∈zbp h A:=List.mem_filterMap.mpr ⟨a,ha,by rw[e];rfl⟩
theorem zi0{h:Heap}{p:Addr×Obj}(hp:p∈zbp h A):p.1∈A∧h.get? p.1=some p.2:=by
 obtain⟨a,ha,e⟩:=List.mem_filterMap.mp hp
 cases q:h.get? a with
 | none=>rw[q]at e;cases e
 | some o=>rw[q]at e;cases e;exact⟨ha,q⟩
theorem Inv.fsFree(I:Inv X pins σ H s){b:Addr}(hb:b∈X.fs):H b=none:=by
 obtain⟨_,o,ho,_⟩:=I.ok.funs.mem hb
 exact I.base.free b o ho (I.ok.frf b hb) fun z=>I.ok.exfs b z hb
theorem Inv.hide(I:Inv X pins σ H s)(hA:OwnL X A H):Inv X (pins++zbp s.heap A) σ (hidL A H) s:=by
 have nl:∀ b o,H b=some o→(∀ vs,o ≠ .lst vs)→b ∉ A:=fun b o e n hb=>by
   obtain⟨⟨vs,q⟩,_⟩:=hA b hb
   rw[e]at q
   exact n vs (Option.some.inj q)
 refine⟨I.ok,I.os,I.bare,⟨I.base.keep,I.base.slot,fun b o e n hx=>?_,I.base.there,fun b xs e=>?_,fun b o u e=>?_,fun b ps e=>?_⟩,I.loc,I.cell,?_,fun x c e=>?_,fun p hp=>?_,fun a o e=>?_,I.len⟩
 · have:=I.base.free b o e n hx
   unfold hidL
   split
   · rfl
   · exact this
 · have:=I.base.tups b xs e
   rw[z0k (nl b _ this fun _ z=>by cases z)];exact this
 · have:=I.base.frzs b o u e
   rw[z0k (nl b _ this fun _ z=>by cases z)];exact this
 · obtain⟨more,this⟩:=I.base.tbls b ps e
   exact⟨more,by rw[z0k (nl b _ this fun _ z=>by cases z)];exact this⟩
 · have:=I.free
   unfold hidL
   split
   · rfl
   · exact this
 · have:=I.freeC x c e
   unfold hidL
   split
   · rfl
   · exact this
 · rw[←List.append_assoc]at hp
   rcases List.mem_append.mp hp with hp|hp
   · obtain⟨q1,q2,q3⟩:=I.pin p hp
     refine⟨q1,?_,q3⟩
     unfold hidL
     split
     · rfl
     · exact q2
   · obtain⟨q1,q2⟩:=zi0 hp
     obtain⟨⟨vs,q⟩,_⟩:=hA _ q1
     refine⟨q2,z2k q1,fun z=>?_,fun z=>?_,fun v z=>?_⟩
     · rw[z,I.free]at q;cases q
     · rw[I.fsFree z]at q;cases q
     · obtain⟨_,its,n,_,e⟩:=I.hok _ _ q
       rw[q2]at e
       have e:=Option.some.inj e
       rw[e]at z
       cases z
 · obtain⟨q1,q2⟩:=z3J e
   refine(I.hok a o q2).stay (fun b u _ z=>z) (fun b z=>?_) (fun b xs z=>?_)
   · rw[z0k (nl b _ z fun _ z=>by cases z)];exact z
   · rw[z0k (nl b _ z fun _ z=>by cases z)];exact z
theorem Inv.unhide{σ':St}(I:Inv X pins σ H s)(hA:OwnL X A H)(J:Inv X (pins++zbp s.heap A) σ' H' s'):(∀ a∈A,H' a=none)∧Inv X pins σ' (z18 A H H') s':=by
 have pn:∀ a∈A,∃ o,s.heap.get? a=some o∧s'.heap.get? a=some o∧H' a=none:=fun a ha=>by
   obtain⟨⟨vs,q⟩,_⟩:=hA a ha
   obtain⟨_,its,n,_,e⟩:=I.hok _ _ q
   have:=J.pin _ (List.mem_append_right _ (List.mem_append_right _ (z9y ha e)))
   exact⟨_,e,this.1,this.2.1⟩
 have hn:∀ a∈A,H' a=none:=fun a ha=>by obtain⟨o,_,_,q⟩:=pn a ha;exact q
 have out:∀ b,H b=none→b ∉ A:=fun b e hb=>by
   obtain⟨⟨vs,q⟩,_⟩:=hA b hb
   rw[e]at q;cases q
 have tr:∀ b o,H' b=some o→b ∉ A:=fun b o e hb=>by rw[hn b hb]at e;cases e
 refine⟨hn,J.ok,J.os,J.bare,⟨J.base.keep,J.base.slot,fun b o e n hx=>?_,J.base.there,fun b xs e=>?_,fun b o u e=>?_,fun b ps e=>?_⟩,J.loc,J.cell,?_,fun x c e=>?_,fun p hp=>?_,fun a o e=>?_,J.len⟩
 · rw[z11 (out b (I.base.free b o e n hx))];exact J.base.free b o e n hx
 · have:=J.base.tups b xs e
   rw[z11 (tr b _ this)];exact this
 · have:=J.base.frzs b o u e
   rw[z11 (tr b _ this)];exact this
 · obtain⟨more,this⟩:=J.base.tbls b ps e
   exact⟨more,by rw[z11 (tr b _ this)];exact this⟩
 · rw[z11 (out _ I.free)];exact J.free
 · rw[z11 (out _ (I.freeC x c e))];exact J.freeC x c e
 · have hp':p∈X.pn++(pins++zbp s.heap A):=by
     rw[←List.append_assoc];exact List.mem_append_left _ hp
   obtain⟨q1,q2,q3⟩:=J.pin p hp'
   refine⟨q1,?_,q3⟩
   rw[z11 (out _ (I.pin p hp).2.1)];exact q2
 · by_cases ha:a∈A
   · rw[z4R ha]at e
     obtain⟨⟨vs,q⟩,_⟩:=hA a ha
     rw[q]at e
     cases e
     obtain⟨hz,its,n,r,e1⟩:=I.hok _ _ q
     obtain⟨o,e2,e3,_⟩:=pn a ha
     rw[e1]at e2
     cases e2
     exact⟨hz,its,n,r,e3⟩
   · rw[z11 ha]at e
     refine(J.hok a o e).stay (fun b u _ z=>z) (fun b z=>?_) (fun b xs z=>?_)
     · rw[z11 (tr b _ z)];exact z
     · rw[z11 (tr b _ z)];exact z
theorem PE.frame{e:Expr}{t:TE}(h:PE X e t):PE X e (fun σ H Q=>∃ A,OwnL X A H∧t σ (hidL A H) fun v H'=>(∀ a∈A,H' a=none)→Q v (z18 A H H')):=by
 intro pins s σ H Q I ⟨A,hA,z⟩
 refine thn (h _ s σ _ _ (I.hide hA) z) ?_
 rintro u s' ⟨v,H',J,r,q⟩
 obtain⟨hn,J'⟩:=I.unhide hA J
 exact⟨v,_,J',r,q hn⟩
theorem PA.frame{es:List Expr}{t:TA}(h:PA X es t):PA X es (fun σ H Q=>∃ A,OwnL X A H∧t σ (hidL A H) fun v H'=>(∀ a∈A,H' a=none)→Q v (z18 A H H')):=by
 intro pos pins s σ H Q I ⟨A,hA,z⟩
 refine thn (h pos _ s σ _ _ (I.hide hA) z) ?_
 rintro u s' ⟨v,H',J,r,q⟩
 obtain⟨hn,J'⟩:=I.unhide hA J
 exact⟨v,_,J',r,q hn⟩
theorem PT.frame{e:Expr}{t:TT}(h:PT X e t):PT X e (fun σ H Q=>∃ A,OwnL X A H∧t σ (hidL A H) fun v H'=>(∀ a∈A,H' a=none)→Q v (z18 A H H')):=by
 intro pins s σ H Q I ⟨A,hA,z⟩
 refine thn (h _ s σ _ _ (I.hide hA) z) ?_
 rintro u s' ⟨H',J,q⟩
 obtain⟨hn,J'⟩:=I.unhide hA J
 exact⟨_,J',q hn⟩
def hidD(A:List Addr)(H:Hp)(D:Ends):Ends where
 nx:=fun σ H'=>(∀ a∈A,H' a=none)→D.nx σ (z18 A H H')
 rt:=fun v H'=>(∀ a∈A,H' a=none)→D.rt v (z18 A H H')
 bk:=fun σ H'=>(∀ a∈A,H' a=none)→D.bk σ (z18 A H H')
 ct:=fun σ H'=>(∀ a∈A,H' a=none)→D.ct σ (z18 A H H')
theorem PS.frame{st:Stmt}{t:TS}(h:PS X st t):PS X st (fun D σ H=>∃ A,OwnL X A H∧t (hidD A H D) σ (hidL A H)):=by
 intro pins s σ H D I ⟨A,hA,z⟩
 refine thn (h _ s σ _ _ (I.hide hA) z) fun f s' q=>?_
 cases f with
 | next=>obtain⟨σ',H',J,q⟩:=q;obtain⟨hn,J'⟩:=I.unhide hA J;exact⟨_,_,J',q hn⟩
 | brk=>obtain⟨σ',H',J,q⟩:=q;obtain⟨hn,J'⟩:=I.unhide hA J;exact⟨_,_,J',q hn⟩
 | cont=>obtain⟨σ',H',J,q⟩:=q;obtain⟨hn,J'⟩:=I.unhide hA J;exact⟨_,_,J',q hn⟩
 | ret u=>obtain⟨v,σ',H',J,r,q⟩:=q;obtain⟨hn,J'⟩:=I.unhide hA J;exact⟨_,_,_,J',r,q hn⟩
theorem PI.frame{tg e:Expr}{t:TI}(h:PI X tg e t):PI X tg e (fun σ H R=>∃ A,OwnL X A H∧t σ (hidL A H) fun J H'=>(∀ a∈A,H' a=none)→R J (z18 A H H')):=by
 intro pins s σ H R I ⟨A,hA,z⟩
 refine thn (h _ s σ _ _ (I.hide hA) z) fun v s1 q=>thn q ?_
 rintro itv s2 ⟨it,fp,tn,J,H',e,I2,T,st,hf,r⟩
 obtain⟨hn,I3⟩:=I.unhide hA I2
 refine⟨it,fp,tn,J,_,e,I3,T,st,fun b hb=>?_,r hn⟩
 obtain⟨f1,f2,f3,f4,f5,f6⟩:=hf b hb
 have hbA:b ∉ A:=fun ha=>by
  obtain⟨⟨vs,q⟩,_⟩:=hA b ha
  obtain⟨_,its,n,_,e⟩:=I.hok _ _ q
  exact f6 _ (List.mem_append_right _ (List.mem_append_right _ (z9y ha e))) rfl
 refine⟨by rw[z11 hbA];exact f1,f2,f3,f4,f5,fun p hp=>f6 p ?_⟩
 rw[←List.append_assoc];exact List.mem_append_left _ hp
end
end L2

end
section
set_option Elab.async false
set_option linter.all false
set_option maxRecDepth 100000
namespace L2
open PySem PySem.Spec PyProof.Rows
inductive Dt where
 | non|bl (b:Bool)|int (i:Int)|str (x:Str)|lst (xs:List Dt)|tup (xs:List Dt)|scr (ns:List Int)|dic
def emp:Hp:=fun _=>none
theorem z83{A C:List Addr}{H:Hp}:hidL A (hidL C H)=hidL C (hidL A H):=funext fun b=>by
 unfold hidL
 by_cases p:b∈A<;>by_cases q:b∈C<;>simp[p,q]
theorem z1D{A:List Addr}{H H':Hp}(h:Same H H'):Same (hidL A H) (hidL A H'):=fun b o e=>by
 obtain⟨q1,q2⟩:=z3J e
 rw[z0k q1];exact h b o q2
theorem z2R{A B:List Addr}{H:Hp}(h:∀ a∈B,a∈A):Same (hidL A H) (hidL B H):=fun b o e=>by
 obtain⟨q1,q2⟩:=z3J e
 rw[z0k fun z=>q1 (h b z)];exact q2
theorem Same.seqT{K:PySem.W.Frag}{H H':Hp}{a:Addr}{xs:List V}(e:Same H H')(h:SqT K H a xs):SqT K H' a xs:=by
 rcases h with(h|⟨o,h⟩)|h
 · exact .inl (.inl (e _ _ h))
 · exact .inl (.inr ⟨o,e _ _ h⟩)
 · exact .inr h
theorem Same.emp{H:Hp}:Same emp H:=fun _ _ e=>by cases e
def zi1(a:Addr)(h:Heap):Prop:=h.get? a=some { cls := .type "dict",data := .dict #[] }
mutual
def Rp(K:PySem.W.Frag)(B:Hp):Dt→Hp→V→Prop
 | .non,_,v=>v = .non
 | .bl b,_,v=>v = .bl b
 | .int i,_,v=>v = .int i
 | .str x,_,v=>v = .str x
 | .dic,H,v=>∃ a,v = .ref a∧H a=some (.ext (zi1 a))
 | .lst ds,H,v=>∃ a vs,v = .ref a∧B a=none∧H a=some (.lst vs)∧Rps K B ds (hidL [a] H) vs
 | .tup ds,H,v=>∃ a vs,v = .ref a∧SqT K H a vs∧Rps K B ds H vs
 | .scr ns,H,v=>∃ a,v = .ref a∧B a=none∧SqL K H a (ns.map V.int)
def Rps(K:PySem.W.Frag)(B:Hp):List Dt→Hp→List V→Prop
 | [],_,vs=>vs=[]
 | d::ds,H,vs=>∃ v r,vs=v::r∧Rp K B d H v∧Rps K B ds H r
end
section
variable {K:PySem.W.Frag}{B B' H H':Hp}
theorem Rp.int_{i:Int}{v:V}:Rp K B (.int i) H v↔v = .int i:=by unfold Rp;exact Iff.rfl
theorem Rp.bl_{b:Bool}{v:V}:Rp K B (.bl b) H v↔v = .bl b:=by unfold Rp;exact Iff.rfl
theorem Rp.non_{v:V}:Rp K B .non H v↔v = .non:=by unfold Rp;exact Iff.rfl
theorem Rp.str_{x:Str}{v:V}:Rp K B (.str x) H v↔v = .str x:=by unfold Rp;exact Iff.rfl
theorem Rp.dic_{v:V}:Rp K B .dic H v↔∃ a,v = .ref a∧H a=some (.ext (zi1 a)):=by unfold Rp;exact Iff.rfl
theorem Rp.lst_{ds:List Dt}{v:V}:Rp K B (.lst ds) H v↔∃ a vs,v = .ref a∧B a=none∧H a=some (.lst vs)∧Rps K B ds (hidL [a] H) vs:=by rw[Rp]
theorem Rp.tup_{ds:List Dt}{v:V}:Rp K B (.tup ds) H v↔∃ a vs,v = .ref a∧SqT K H a vs∧Rps K B ds H vs:=by rw[Rp]
theorem Rp.scr_{ns:List Int}{v:V}:Rp K B (.scr ns) H v↔∃ a,v = .ref a∧B a=none∧SqL K H a (ns.map V.int):=by rw[Rp]
theorem Rps.nil_{vs:List V}:Rps K B [] H vs↔vs=[]:=by rw[Rps]
theorem Rps.cons_{d:Dt}{ds:List Dt}{vs:List V}:Rps K B (d::ds) H vs↔∃ v r,vs=v::r∧Rp K B d H v∧Rps K B ds H r:=by rw[Rps]
mutual
theorem Rp.mono:∀(d:Dt) {H H':Hp} {v:V},Same H H'→Rp K B d H v→Rp K B d H' v
 | .non,_,_,v,e,h=>by unfold Rp at h ⊢;exact h
 | .bl b,_,_,v,e,h=>by unfold Rp at h ⊢;exact h
 | .int i,_,_,v,e,h=>by unfold Rp at h ⊢;exact h
 | .str x,_,_,v,e,h=>by unfold Rp at h ⊢;exact h
 | .dic,_,_,v,e,h=>by unfold Rp at h ⊢;obtain⟨a,q,r⟩:=h;exact⟨a,q,e _ _ r⟩
 | .lst ds,_,_,v,e,h=>by
  unfold Rp at h ⊢
  obtain⟨a,vs,rfl,h0,h1,h2⟩:=h
  exact⟨a,vs,rfl,h0,e _ _ h1,Rps.mono ds (z1D e) h2⟩
 | .tup ds,_,_,v,e,h=>by
  unfold Rp at h ⊢
  obtain⟨a,vs,rfl,h1,h2⟩:=h
  exact⟨a,vs,rfl,e.seqT h1,Rps.mono ds e h2⟩
 | .scr ns,_,_,v,e,h=>by
  unfold Rp at h ⊢
  obtain⟨a,rfl,h0,h1⟩:=h
  exact⟨a,rfl,h0,e.seq h1⟩
theorem Rps.mono:∀(ds:List Dt) {H H':Hp} {vs:List V},Same H H'→Rps K B ds H vs→Rps K B ds H' vs
 | [],_,_,vs,e,h=>by unfold Rps at h ⊢;exact h
 | d::ds,_,_,vs,e,h=>by
  unfold Rps at h ⊢
  obtain⟨v,r,rfl,h1,h2⟩:=h
  exact⟨v,r,rfl,Rp.mono d e h1,Rps.mono ds e h2⟩
end
mutual
theorem Rp.anti(e:Same B' B):∀(d:Dt) {H:Hp} {v:V},Rp K B d H v→Rp K B' d H v
 | .non,_,v,h=>by unfold Rp at h ⊢;exact h
 | .bl b,_,v,h=>by unfold Rp at h ⊢;exact h
 | .int i,_,v,h=>by unfold Rp at h ⊢;exact h
 | .str x,_,v,h=>by unfold Rp at h ⊢;exact h
 | .dic,_,v,h=>by unfold Rp at h ⊢;exact h
 | .lst ds,_,v,h=>by
  unfold Rp at h ⊢
  obtain⟨a,vs,rfl,h0,h1,h2⟩:=h
  exact⟨a,vs,rfl,e.free h0,h1,Rps.anti e ds h2⟩
 | .tup ds,_,v,h=>by
  unfold Rp at h ⊢
  obtain⟨a,vs,rfl,h1,h2⟩:=h
  exact⟨a,vs,rfl,h1,Rps.anti e ds h2⟩
 | .scr ns,_,v,h=>by
  unfold Rp at h ⊢
  obtain⟨a,rfl,h0,h1⟩:=h
  exact⟨a,rfl,e.free h0,h1⟩
theorem Rps.anti(e:Same B' B):∀(ds:List Dt) {H:Hp} {vs:List V},Rps K B ds H vs→Rps K B' ds H vs
 | [],_,vs,h=>by unfold Rps at h ⊢;exact h
 | d::ds,_,vs,h=>by
  unfold Rps at h ⊢
  obtain⟨v,r,rfl,h1,h2⟩:=h
  exact⟨v,r,rfl,Rp.anti e d h1,Rps.anti e ds h2⟩
end
theorem SqT.hid{A:List Addr}{a:Addr}{xs:List V}(hA:∀ b∈A,∀ o,H b=some o→∃ vs,o = .lst vs)(h:SqT K H a xs):SqT K (hidL A H) a xs:=by
 rcases h with(h|⟨o,h⟩)|h
 · refine .inl (.inl ?_)
   rw[z0k fun z=>by obtain⟨vs,e⟩:=hA a z _ h;cases e];exact h
 · refine .inl (.inr ⟨o,?_⟩)
   rw[z0k fun z=>by obtain⟨vs,e⟩:=hA a z _ h;cases e];exact h
 · exact .inr h
theorem SqL.hid{A:List Addr}{a:Addr}{xs:List V}(hA:a ∉ A)(h:SqL K H a xs):SqL K (hidL A H) a xs:=by
 rcases h with(h|⟨o,h⟩)|h
 · exact .inl (.inl (by rw[z0k hA];exact h))
 · exact .inl (.inr ⟨o,by rw[z0k hA];exact h⟩)
 · exact .inr h
mutual
theorem Rp.hid{A:List Addr}(hB:∀ b∈A,B b≠none):∀(d:Dt) {H:Hp} {v:V},(∀ b∈A,∀ o,H b=some o→∃ vs,o = .lst vs)→Rp K B d H v→Rp K B d (hidL A H) v
 | .non,_,v,_,h=>by unfold Rp at h ⊢;exact h
 | .bl b,_,v,_,h=>by unfold Rp at h ⊢;exact h
 | .int i,_,v,_,h=>by unfold Rp at h ⊢;exact h
 | .str x,_,v,_,h=>by unfold Rp at h ⊢;exact h
 | .dic,_,v,hA,h=>by unfold Rp at h ⊢;obtain⟨a,q,r⟩:=h;exact⟨a,q,by rw[z0k fun z=>by obtain⟨vs,e⟩:=hA a z _ r;cases e];exact r⟩
 | .lst ds,H,v,hA,h=>by
  unfold Rp at h ⊢
  obtain⟨a,vs,rfl,h0,h1,h2⟩:=h
  refine⟨a,vs,rfl,h0,by rw[z0k fun z=>hB a z h0];exact h1,?_⟩
  rw[z83]
  exact Rps.hid hB ds (fun b hb o e=>hA b hb o (z3J e).2) h2
 | .tup ds,H,v,hA,h=>by
  unfold Rp at h ⊢
  obtain⟨a,vs,rfl,h1,h2⟩:=h
  exact⟨a,vs,rfl,h1.hid hA,Rps.hid hB ds hA h2⟩
 | .scr ns,H,v,hA,h=>by
  unfold Rp at h ⊢
  obtain⟨a,rfl,h0,h1⟩:=h
  exact⟨a,rfl,h0,h1.hid fun z=>hB a z h0⟩
theorem Rps.hid{A:List Addr}(hB:∀ b∈A,B b≠none):∀(ds:List Dt) {H:Hp} {vs:List V},(∀ b∈A,∀ o,H b=some o→∃ vs,o = .lst vs)→Rps K B ds H vs→Rps K B ds (hidL A H) vs
 | [],_,vs,_,h=>by unfold Rps at h ⊢;exact h
 | d::ds,_,vs,hA,h=>by
  unfold Rps at h ⊢
  obtain⟨v,r,rfl,h1,h2⟩:=h
  exact⟨v,r,rfl,Rp.hid hB d hA h1,Rps.hid hB ds hA h2⟩
end
end
mutual
def Dt.flat:Dt→Bool
 | .lst _=>false
 | .scr _=>false
 | .tup ds=>z1f ds
 | _=>true
def z1f:List Dt→Bool
 | []=>true
 | d::ds=>d.flat&&z1f ds
end
section
variable {K:PySem.W.Frag}{B B' H H':Hp}
mutual
theorem Rp.flat:∀(d:Dt) {H:Hp} {v:V},d.flat=true→Rp K B d H v→Rp K B' d H v
 | .non,_,v,_,h=>by unfold Rp at h ⊢;exact h
 | .bl b,_,v,_,h=>by unfold Rp at h ⊢;exact h
 | .int i,_,v,_,h=>by unfold Rp at h ⊢;exact h
 | .str x,_,v,_,h=>by unfold Rp at h ⊢;exact h
 | .dic,_,v,_,h=>by unfold Rp at h ⊢;exact h
 | .lst ds,_,v,f,h=>by unfold Dt.flat at f;cases f
 | .tup ds,_,v,f,h=>by
  unfold Dt.flat at f
  unfold Rp at h ⊢
  obtain⟨a,vs,rfl,h1,h2⟩:=h
  exact⟨a,vs,rfl,h1,Rps.flat ds f h2⟩
 | .scr ns,_,v,f,h=>by unfold Dt.flat at f;cases f
theorem Rps.flat:∀(ds:List Dt) {H:Hp} {vs:List V},z1f ds=true→Rps K B ds H vs→Rps K B' ds H vs
 | [],_,vs,_,h=>by unfold Rps at h ⊢;exact h
 | d::ds,_,vs,f,h=>by
  unfold z1f at f
  rw[Bool.and_eq_true]at f
  unfold Rps at h ⊢
  obtain⟨v,r,rfl,h1,h2⟩:=h
  exact⟨v,r,rfl,Rp.flat d f.1 h1,Rps.flat ds f.2 h2⟩
end
theorem Rps.length:∀{ds:List Dt} {vs:List V},Rps K B ds H vs→vs.length=ds.length
 | [],vs,h=>by rw[Rps.nil_.mp h];rfl
 | d::ds,vs,h=>by
  obtain⟨v,r,rfl,_,h2⟩:=Rps.cons_.mp h
  rw[List.length_cons,List.length_cons,Rps.length h2]
theorem Rps.get:∀{ds:List Dt} {vs:List V} {i:Nat} {d:Dt},Rps K B ds H vs→ds[i]?=some d→∃ v,vs[i]?=some v∧Rp K B d H v
 | [],vs,i,d,_,e=>by simp at e
 | c::ds,vs,0,d,h,e=>by
  obtain⟨v,r,rfl,h1,_⟩:=Rps.cons_.mp h
  simp at e;subst e
  exact⟨v,rfl,h1⟩
 | c::ds,vs,i+1,d,h,e=>by
  obtain⟨v,r,rfl,_,h2⟩:=Rps.cons_.mp h
  have e:ds[i]?=some d:=by simpa using e
  obtain⟨u,q1,q2⟩:=Rps.get h2 e
  exact⟨u,by simpa using q1,q2⟩
theorem Rps.append:∀{ds ds':List Dt} {vs vs':List V},Rps K B ds H vs→Rps K B ds' H vs'→Rps K B (ds++ds') H (vs++vs')
 | [],ds',vs,vs',h,h'=>by rw[Rps.nil_.mp h];exact h'
 | d::ds,ds',vs,vs',h,h'=>by
  obtain⟨v,r,rfl,h1,h2⟩:=Rps.cons_.mp h
  exact Rps.cons_.mpr ⟨v,r++vs',rfl,h1,Rps.append h2 h'⟩
theorem Rps.one{d:Dt}{v:V}(h:Rp K B d H v):Rps K B [d] H [v]:=Rps.cons_.mpr ⟨v,[],rfl,h,Rps.nil_.mpr rfl⟩
theorem Rps.take:∀{ds:List Dt} {vs:List V} (n:Nat),Rps K B ds H vs→Rps K B (ds.take n) H (vs.take n)
 | ds,vs,0,_=>by rw[List.take_zero,List.take_zero];exact Rps.nil_.mpr rfl
 | [],vs,n+1,h=>by rw[Rps.nil_.mp h];exact Rps.nil_.mpr rfl
 | d::ds,vs,n+1,h=>by
  obtain⟨v,r,rfl,h1,h2⟩:=Rps.cons_.mp h
  exact Rps.cons_.mpr ⟨v,r.take n,rfl,h1,Rps.take n h2⟩
theorem Rps.drop:∀{ds:List Dt} {vs:List V} (n:Nat),Rps K B ds H vs→Rps K B (ds.drop n) H (vs.drop n)
 | ds,vs,0,h=>h
 | [],vs,n+1,h=>by rw[Rps.nil_.mp h];exact Rps.nil_.mpr rfl
 | d::ds,vs,n+1,h=>by
  obtain⟨v,r,rfl,h1,h2⟩:=Rps.cons_.mp h
  exact Rps.drop n h2
theorem Rps.set:∀{ds:List Dt} {vs:List V} (i:Nat) {d:Dt} {v:V},Rps K B ds H vs→Rp K B d H v→Rps K B (ds.set i d) H (vs.set i v)
 | [],vs,i,d,v,h,_=>by rw[Rps.nil_.mp h];exact Rps.nil_.mpr rfl
 | c::ds,vs,0,d,v,h,q=>by
  obtain⟨u,r,rfl,h1,h2⟩:=Rps.cons_.mp h
  exact Rps.cons_.mpr ⟨v,r,rfl,q,h2⟩
 | c::ds,vs,i+1,d,v,h,q=>by
  obtain⟨u,r,rfl,h1,h2⟩:=Rps.cons_.mp h
  exact Rps.cons_.mpr ⟨u,r.set i v,rfl,h1,Rps.set i h2 q⟩
theorem Rps.reverse:∀{ds:List Dt} {vs:List V},Rps K B ds H vs→Rps K B ds.reverse H vs.reverse
 | [],vs,h=>by rw[Rps.nil_.mp h];exact Rps.nil_.mpr rfl
 | d::ds,vs,h=>by
  obtain⟨v,r,rfl,h1,h2⟩:=Rps.cons_.mp h
  rw[List.reverse_cons,List.reverse_cons]
  exact Rps.append (Rps.reverse h2) (Rps.one h1)
theorem zbq{p:Addr}{o:HO}(h:H p=none):hidL [p] (upd H p o)=H:=funext fun b=>by
 by_cases q:b=p
 · subst q;rw[z2k (by simp),h]
 · rw[z0k (by simpa using q),z0m q]
theorem z0U{p:Addr}{o:HO}(h:H p=none):Same H (upd H p o):=fun b u e=>by rw[z0m (z29 e h)];exact e
theorem Rp.new{ds:List Dt}{vs:List V}{p:Addr}(hp:H p=none)(hB:B p=none)(r:Rps K B ds H vs):Rp K B (.lst ds) (upd H p (.lst vs)) (.ref p) :=
 Rp.lst_.mpr ⟨p,vs,rfl,hB,z0A,by rw[zbq hp];exact r⟩
end
inductive Fl where
 | sh|tn|fr|nw
def Fl.isNw:Fl→Bool
 | .nw=>true
 | _=>false
def Fl.isFr:Fl→Bool
 | .nw=>true
 | .fr=>true
 | _=>false
abbrev Dv:=Fl×Dt
def nrm(f:Fl)(d:Dt):Dv:=(if d.flat then .nw else f,d)
structure Ky where
 K:PySem.W.Frag
 H₀:Hp
abbrev Cx.ky(X:Cx):Ky:=⟨X.K,X.H₀⟩
def RpF(X:Ky)(H:Hp)(f:Fl)(d:Dt)(H':Hp)(v:V):Prop:=match f with
 | .sh=>Rp X.K emp d H' v
 | .tn=>Rp X.K emp d H' v∧(∃ ds,d = .lst ds)∧∀ a,v = .ref a→H a=none
 | .fr=>Rp X.K X.H₀ d H' v
 | .nw=>Rp X.K H d H' v
section
variable {X:Ky}{H H' H1:Hp}{f:Fl}{d:Dt}{v:V}
theorem RpF.sh(h:RpF X H f d H' v):Rp X.K emp d H' v:=by
 cases f with
 | sh=>exact h
 | tn=>exact h.1
 | fr=>exact Rp.anti Same.emp d h
 | nw=>exact Rp.anti Same.emp d h
theorem RpF.fr(h0:Same X.H₀ H)(e:f.isFr=true)(h:RpF X H f d H' v):Rp X.K X.H₀ d H' v:=by
 cases f with
 | sh=>cases e
 | tn=>cases e
 | fr=>exact h
 | nw=>exact Rp.anti h0 d h
theorem RpF.mono(h:RpF X H f d H' v)(s:Same H' H1):RpF X H f d H1 v:=by
 cases f with
 | sh=>exact Rp.mono d s h
 | tn=>exact⟨Rp.mono d s h.1,h.2⟩
 | fr=>exact Rp.mono d s h
 | nw=>exact Rp.mono d s h
theorem RpF.early(s:Same H H1)(h:RpF X H1 f d H' v):RpF X H f d H' v:=by
 cases f with
 | sh=>exact h
 | tn=>exact⟨h.1,h.2.1,fun a e=>s.free (h.2.2 a e)⟩
 | fr=>exact h
 | nw=>exact Rp.anti s d h
theorem RpF.nrm(h:RpF X H f d H' v):RpF X H (nrm f d).1 d H' v:=by
 unfold L2.nrm
 by_cases q:d.flat=true
 · rw[if_pos q];exact Rp.flat d q h.sh
 · rw[if_neg q];exact h
theorem RpF.scal(q:d.flat=true)(h:Rp X.K emp d H' v):RpF X H .nw d H' v:=Rp.flat d q h
end
inductive Cell where
 | no|sh (f:Bool) (d:Dt)|ow (f:Bool) (ds:List Dt)|ex
abbrev Rho:=List Cell
def flOf(f:Bool):Fl:=if f then .fr else .sh
def Cell.val:Cell→Option Dv
 | .no=>none
 | .ex=>none
 | .sh f d=>some (nrm (flOf f) d)
 | .ow f ds=>some (flOf f,.lst ds)
def z9z(ρ:Rho)(i:Nat):Option Dv:=(ρ[i]?).bind Cell.val
def bsOf(X:Ky)(f:Bool):Hp:=if f then X.H₀ else emp
def zi2(K:PySem.W.Frag)(a:Addr)(h:Heap):Prop:=∃ oe C,h.get? a=some oe∧oe.cls = .ref C∧PySem.W.kitCls K (.ref C) (.type "ValueError")=some true
def RpC(X:Ky)(H:Hp):Cell→Option V→Prop
 | .no,_=>True
 | .ex,o=>∃ a φ,o=some (.ref a)∧H a=some (.ext φ)∧∀ h,φ h→zi2 X.K a h
 | .sh f d,o=>∃ v,o=some v∧Rp X.K (bsOf X f) d H v
 | .ow f ds,o=>∃ v,o=some v∧Rp X.K (bsOf X f) (.lst ds) H v
structure RepS(X:Ky)(H:Hp)(ρ:Rho)(σ:St):Prop where
 len:ρ.length=σ.length
 base:Same X.H₀ H
 at_:∀(i:Nat) (c:Cell),ρ[i]?=some c→∃ o,σ[i]?=some o∧RpC X H c o
section
variable {X:Ky}{H H':Hp}{ρ:Rho}{σ:St}
theorem RpC.mono(e:Same H H'){c:Cell}{o:Option V}(h:RpC X H c o):RpC X H' c o:=by
 cases c with
 | no=>trivial
 | ex=>obtain⟨a,φ,q,r,z⟩:=h;exact⟨a,φ,q,e _ _ r,z⟩
 | sh f d=>obtain⟨v,q,r⟩:=h;exact⟨v,q,Rp.mono d e r⟩
 | ow f ds=>obtain⟨v,q,r⟩:=h;exact⟨v,q,Rp.mono _ e r⟩
theorem RepS.mono(h:RepS X H ρ σ)(e:Same H H'):RepS X H' ρ σ:=⟨h.len,h.base.trans e,fun i c q=>by obtain⟨o,q1,q2⟩:=h.at_ i c q;exact⟨o,q1,q2.mono e⟩⟩
theorem zi3{f:Bool}{d:Dt}{v:V}(h:Rp X.K (bsOf X f) d H v):RpF X H (flOf f) d H v:=by
 cases f with
 | false=>exact h
 | true=>exact h
theorem RepS.val(h:RepS X H ρ σ){i:Nat}{f:Fl}{d:Dt}(e:z9z ρ i=some (f,d)):∃ v,σ[i]?=some (some v)∧RpF X H f d H v:=by
 unfold z9z at e
 cases q:ρ[i]? with
 | none=>rw[q]at e;cases e
 | some c =>
  rw[q]at e
  obtain⟨o,q1,q2⟩:=h.at_ i c q
  cases c with
  | no=>cases e
  | ex=>cases e
  | sh f' d' =>
   obtain⟨v,rfl,r⟩:=q2
   have e:nrm (flOf f') d'=(f,d):=Option.some.inj e
   have r':=(zi3 r).nrm
   refine⟨v,q1,?_⟩
   have e1:d'=d:=congrArg Prod.snd e
   subst e1
   rw[e]at r'
   exact r'
  | ow f' ds =>
   obtain⟨v,rfl,r⟩:=q2
   cases e
   exact⟨v,q1,zi3 r⟩
end
end L2

end
section
set_option Elab.async false
set_option linter.all false
set_option maxRecDepth 100000
namespace L2
open PySem PySem.Spec PyProof.Rows
theorem PE.imp{X:Cx}{e:Expr}{t t':TE}(h:PE X e t)(q:∀ σ H Q,t' σ H Q→t σ H Q):PE X e t':=fun pins s σ H Q I z=>h pins s σ H Q I (q σ H Q z)
theorem PT.imp{X:Cx}{e:Expr}{t t':TT}(h:PT X e t)(q:∀ σ H Q,t' σ H Q→t σ H Q):PT X e t':=fun pins s σ H Q I z=>h pins s σ H Q I (q σ H Q z)
theorem PW.imp{X:Cx}{e:Expr}{t t':TT}(h:PW X e t)(q:∀ σ H Q,t' σ H Q→t σ H Q):PW X e t':=fun whole pins s σ H Q I z=>h whole pins s σ H Q I (q σ H Q z)
theorem PA.imp{X:Cx}{es:List Expr}{t t':TA}(h:PA X es t)(q:∀ σ H Q,t' σ H Q→t σ H Q):PA X es t':=fun pos pins s σ H Q I z=>h pos pins s σ H Q I (q σ H Q z)
theorem z04{α β:Type}{o:Option α}{f:α→Option β}{b:β}(h:o.bind f=some b):∃ a,o=some a∧f a=some b:=by
 cases o with
 | none=>cases h
 | some a=>exact⟨a,rfl,h⟩
section
variable {X:Ky}{H H':Hp}
theorem RpF.i_{i:Int}:RpF X H .nw (.int i) H' (.int i):=(Rp.int_ (K:=X.K) (B:=H) (H:=H')).mpr rfl
theorem RpF.b_{i:Bool}:RpF X H .nw (.bl i) H' (.bl i):=(Rp.bl_ (K:=X.K) (B:=H) (H:=H')).mpr rfl
theorem RpF.s_{i:Str}:RpF X H .nw (.str i) H' (.str i):=(Rp.str_ (K:=X.K) (B:=H) (H:=H')).mpr rfl
theorem RpF.n_:RpF X H .nw .non H' .non:=(Rp.non_ (K:=X.K) (B:=H) (H:=H')).mpr rfl
end
abbrev FE:=Rho→Option Dv
abbrev FT:=Rho→Option Bool
abbrev FA:=Rho→Option (List Dv)
def upK(Y:Ky)(F:FE):TE:=fun σ H Q=>∃ ρ f d,RepS Y H ρ σ∧F ρ=some (f,d)∧∀ v H',Same H H'→RpF Y H f d H' v→Q v H'
abbrev upF(X:Cx)(F:FE):TE:=upK X.ky F
def PF(X:Cx)(e:Expr)(F:FE):Prop:=PE X e (upF X F)
def upBK(Y:Ky)(F:FT):TT:=fun σ H Q=>∃ ρ b,RepS Y H ρ σ∧F ρ=some b∧∀ H',Same H H'→Q b H'
abbrev upB(X:Cx)(F:FT):TT:=upBK X.ky F
def PFT(X:Cx)(e:Expr)(F:FT):Prop:=PT X e (upB X F)
def PFW(X:Cx)(e:Expr)(F:FT):Prop:=PW X e (upB X F)
theorem PFW.pt{X:Cx}{e:Expr}{F:FT}(h:PFW X e F):PFT X e F:=PW.pt h
section
variable {X:Cx}{a b c e:Expr}{Fa Fb Fc:FE}{pos:Pos}
def fN(i:Nat):FE:=fun ρ=>z9z ρ i
theorem z01(i:Nat){x:Str}{pos:Pos}(hN:X.N[i]?=some x:=by rfl)(hv:Vis X.env.scope x:=by first|exact Or.inl rfl|exact Or.inr (Or.inl rfl)|exact Or.inr (Or.inr rfl))(hd:(x==("__debug__" : Str))=false:=by decide)
  (hcd:(x==("__classdict__" : Str))=false:=by decide):PF X (.Name x pos) (fN i) :=
 (z7W hN hv hd hcd).imp fun σ H Q ⟨ρ,f,d,rs,e,k⟩=>by
  obtain⟨v,e1,e2⟩:=rs.val e
  exact⟨v,e1,k v H (Same.refl H) e2⟩
def fC(d:Dt):FE:=fun _=>some (.nw,d)
theorem z0a{i:Int}{j:Nat}:PF X (.Constant (.int i) j pos) (fC (.int i)):=pe_int.imp (by rintro σ H Q ⟨ρ,f,d,rs,e,k⟩;cases e;exact k _ H (Same.refl H) RpF.i_)
theorem p_bl{v:Bool}{j:Nat}:PF X (.Constant (.bool v) j pos) (fC (.bl v)):=pe_bl.imp (by rintro σ H Q ⟨ρ,f,d,rs,e,k⟩;cases e;exact k _ H (Same.refl H) RpF.b_)
theorem p_non{j:Nat}:PF X (.Constant .none j pos) (fC .non):=pe_non.imp (by rintro σ H Q ⟨ρ,f,d,rs,e,k⟩;cases e;exact k _ H (Same.refl H) RpF.n_)
theorem zi4{x:Str}{j:Nat}:PF X (.Constant (.str x) j pos) (fC (.str x)):=pe_str.imp (by rintro σ H Q ⟨ρ,f,d,rs,e,k⟩;cases e;exact k _ H (Same.refl H) RpF.s_)
theorem p_dic:PF X (.Dict [] [] pos) (fC .dic):=fun pins s σ H Q I ⟨ρ,f,d,rs,e,k⟩=>by
 cases e
 have hf:H s.heap.objs.size=none:=I.hok.fresh (Nat.le_refl _)
 refine wpAny_Dict_empty ⟨.ref s.heap.objs.size,upd H s.heap.objs.size (.ext (zi1 s.heap.objs.size)),I.laid (t':=s.toks) (fun b u e=>Heap.get?_push_of_some _ e) (Nat.le_refl _) ?_,rfl,k _ _ (z0U hf) ((Rp.dic_ (K:=X.K) (B:=H)).mpr ⟨_,rfl,z0A⟩)⟩
 exact⟨Heap.get?_push_size _ rfl,⟨_,Heap.get?_push_size _ rfl⟩,fun h1 h2 z w=>w _ z⟩
theorem zi5{x:Str}{i:Int}{t:Tok}(hg:Gl X x)(hm:X.mg x=some (.int i t))(hd:(x==("__debug__" : Str))=false:=by decide):PF X (.Name x pos) (fC (.int i)) :=
 (zfU (v:=V.int i) hg hm ⟨t,rfl⟩ hd).imp (by rintro σ H Q ⟨ρ,f,d,rs,e,k⟩;cases e;exact k _ H (Same.refl H) RpF.i_)
abbrev FO:=Dt→Dt→Option Dv
def OpF(X:Cx)(f:Value→Value→Sem Value)(r:FO):Prop :=
 OpR X f (fun x y H Q=>∃ dx dy f d,Rp X.K emp dx H x∧Rp X.K emp dy H y∧r dx dy=some (f,d)∧∀ v H',Same H H'→RpF X.ky H f d H' v→Q v H')
def fOp(r:FO)(Fa Fb:FE):FE:=fun ρ=>(Fa ρ).bind fun x=>(Fb ρ).bind fun y=>r x.2 y.2
theorem zcF{r:FO}{σ:St}{H:Hp}{Q:VK}(h:upF X (fOp r Fa Fb) σ H Q):
  upF X Fa σ H fun x H1=>upF X Fb σ H1 fun y H2=>∃ dx dy f d,Rp X.K emp dx H2 x∧Rp X.K emp dy H2 y∧r dx dy=some (f,d)∧∀ v H',Same H2 H'→RpF X.ky H2 f d H' v→Q v H':=by
 obtain⟨ρ,f,d,rs,e,k⟩:=h
 obtain⟨⟨fa,da⟩,ea,e⟩:=z04 e
 obtain⟨⟨fb,db⟩,eb,e⟩:=z04 e
 exact⟨ρ,fa,da,rs,ea,fun v H1 s1 r1=>⟨ρ,fb,db,rs.mono s1,eb,fun u H2 s2 r2=>⟨da,db,f,d,Rp.mono _ s2 r1.sh,r2.sh,e,fun w H' s' r'=>k w H' (s1.trans (s2.trans s')) (r'.early (s1.trans s2))⟩⟩⟩
theorem p_op{op:Operator}{r:FO}(ho:OpF X (binaryOp op) r)(ha:PF X a Fa)(hb:PF X b Fb):PF X (.BinOp a op b pos) (fOp r Fa Fb):=(pe_op ho ha hb).imp fun σ H Q h=>zcF h
theorem zi6{op:CmpOp}{r:FO}(ho:OpF X (compareOp op) r)(ha:PF X a Fa)(hb:PF X b Fb)(hm:behindInMarks op b=false):PF X (.Compare a [op] [b] pos) (fOp r Fa Fb):=(zlz ho ha hb hm).imp fun σ H Q h=>zcF h
def rII(C:Int→Int→Bool)(g:Int→Int→Dt):FO
 | .int i,.int j=>if C i j then some (.nw,g i j) else none
 | _,_=>none
theorem zaD{f:Value→Value→Sem Value}{P:Int→Int→Prop}{C:Int→Int→Bool}{g:Int→Int→V}{g':Int→Int→Dt}(ho:OpR X f (rI P g))(hP:∀ i j,C i j=true→P i j)(hf:∀ i j,(g' i j).flat=true)(hg:∀ i j H,Rp X.K emp (g' i j) H (g i j)):OpF X f (rII C g') :=
 fun pins s σ H x y v u Q I r1 r2 ⟨d1,d2,f,d,q1,q2,e,k⟩=>by
  unfold rII at e
  split at e
  · rename_i i j
    split at e
    · rename_i hc
      cases e
      rw[Rp.int_]at q1 q2
      exact ho pins s σ H x y v u Q I r1 r2 ⟨i,j,q1,q2,hP i j hc,k _ H (Same.refl H) (RpF.scal (hf i j) (hg i j H))⟩
    · cases e
  · cases e
theorem z4S{f:Value→Value→Sem Value}{g:Int→Int→V}{g':Int→Int→Dt}(ho:OpR X f (rI0 g))(hf:∀ i j,(g' i j).flat=true)(hg:∀ i j H,Rp X.K emp (g' i j) H (g i j)):OpF X f (rII (fun _ _=>true) g') :=
 fun pins s σ H x y v u Q I r1 r2 ⟨d1,d2,f,d,q1,q2,e,k⟩=>by
  unfold rII at e
  split at e
  · rename_i i j
    rw[if_pos rfl]at e
    cases e
    rw[Rp.int_]at q1 q2
    exact ho pins s σ H x y v u Q I r1 r2 ⟨i,j,q1,q2,k _ H (Same.refl H) (RpF.scal (hf i j) (hg i j H))⟩
  · cases e
def OpF.or{f:Value→Value→Sem Value}{r r':FO}(h:OpF X f r)(h':OpF X f r'):OpF X f (fun x y=>(r x y).orElse fun _=>r' x y) :=
 fun pins s σ H x y v u Q I r1 r2 hZ=>hZ.elim fun d1 hZ=>hZ.elim fun d2 hZ=>hZ.elim fun f hZ=>hZ.elim fun d hZ=>hZ.elim fun q1 hZ=>hZ.elim fun q2 hZ=>hZ.elim fun e k=>by
  replace e:((r d1 d2).orElse fun _=>r' d1 d2)=some (f,d):=e
  cases q:r d1 d2 with
  | some z =>
   rw[q]at e
   cases e
   exact h pins s σ H x y v u Q I r1 r2 ⟨d1,d2,_,_,q1,q2,q,k⟩
  | none =>
   rw[q]at e
   exact h' pins s σ H x y v u Q I r1 r2 ⟨d1,d2,_,_,q1,q2,e,k⟩
def z1v(i j:Int):Bool:=decide (Builtin.Int.intBits i+Builtin.Int.intBits j≤134217728)||(decide (i.natAbs<2 ^ 64)||decide (j.natAbs<2 ^ 64))
def z1G(_ j:Int):Bool:=decide (j≠0)&&decide (j.natAbs.log2<9000)
def z2w(_ j:Int):Bool:=decide (j≠0)
def z5O(i j:Int):Bool:=decide (0≤j)&&decide (j≤1000000)&&decide (i.natAbs<2 ^ 64)
theorem zlN:OpR X (binaryOp .Mult) (rI (fun i j=>z1v i j=true) fun i j => .int (i*j)):=opI fun i j _ _ _ _ _ hc q=>by
 refine mul_int q ?_
 unfold z1v at hc
 rw[Bool.or_eq_true,Bool.or_eq_true]at hc
 rcases hc with hc|hc|hc
 · exact IntMulOk.of_le (Nat.le_refl _) (Nat.le_refl _) (of_decide_eq_true hc)
 · have:=of_decide_eq_true hc
   exact CMul.ok (.inl ⟨by omega,by omega⟩)
 · have:=of_decide_eq_true hc
   exact CMul.ok (.inr ⟨by omega,by omega⟩)
def zi7:FO:=rII (fun _ _=>true) fun i j => .int (i+j)
def z5P:FO:=rII (fun _ _=>true) fun i j => .int (i-j)
def z1X:FO:=rII z1v fun i j => .int (i*j)
def z2x:FO:=rII z1G fun i j => .int (i.fdiv j)
def z1p:FO:=rII z2w fun i j => .int (i.fmod j)
def z7c:FO:=rII z5O fun i j => .int (i ^ j.toNat)
def opLt:FO:=rII (fun _ _=>true) fun i j => .bl (decide (i<j))
def opLe:FO:=rII (fun _ _=>true) fun i j => .bl (decide (i≤j))
def opGt:FO:=rII (fun _ _=>true) fun i j => .bl (decide (j<i))
def opGe:FO:=rII (fun _ _=>true) fun i j => .bl (decide (j≤i))
theorem o_addI:OpF X (binaryOp .Add) zi7:=z4S op_add (fun _ _=>rfl) fun _ _ _=>Rp.int_.mpr rfl
theorem zg0:OpF X (binaryOp .Sub) z5P:=z4S op_sub (fun _ _=>rfl) fun _ _ _=>Rp.int_.mpr rfl
theorem z7d:OpF X (binaryOp .Mult) z1X:=zaD zlN (fun _ _ h=>h) (fun _ _=>rfl) fun _ _ _=>Rp.int_.mpr rfl
theorem z3g:OpF X (binaryOp .FloorDiv) z2x:=zaD zi (fun i j h=>by unfold z1G at h;rw[Bool.and_eq_true]at h;exact⟨of_decide_eq_true h.1,of_decide_eq_true h.2⟩) (fun _ _=>rfl) fun _ _ _=>Rp.int_.mpr rfl
theorem z1Y:OpF X (binaryOp .Mod) z1p:=zaD zly (fun i j h=>of_decide_eq_true h) (fun _ _=>rfl) fun _ _ _=>Rp.int_.mpr rfl
theorem zbr:OpF X (binaryOp .Pow) z7c:=zaD op_pow (fun i j h=>by unfold z5O at h;rw[Bool.and_eq_true,Bool.and_eq_true]at h;exact⟨of_decide_eq_true h.1.1,of_decide_eq_true h.1.2,of_decide_eq_true h.2⟩) (fun _ _=>rfl) fun _ _ _=>Rp.int_.mpr rfl
theorem o_lt:OpF X (compareOp .Lt) opLt:=z4S op_lt (fun _ _=>rfl) fun _ _ _=>Rp.bl_.mpr rfl
theorem o_le:OpF X (compareOp .LtE) opLe:=z4S op_le (fun _ _=>rfl) fun _ _ _=>Rp.bl_.mpr rfl
theorem o_gt:OpF X (compareOp .Gt) opGt:=z4S op_gt (fun _ _=>rfl) fun _ _ _=>Rp.bl_.mpr rfl
theorem o_ge:OpF X (compareOp .GtE) opGe:=z4S op_ge (fun _ _=>rfl) fun _ _ _=>Rp.bl_.mpr rfl
def lfl(ds:List Dt):Fl:=if z1f ds then .nw else .tn
def newL(ds:List Dt):Dv:=(lfl ds,.lst ds)
theorem z5Q{X:Ky}{H:Hp}{ds:List Dt}{vs:List V}{p:Addr}(hp:H p=none)(r:Rps X.K emp ds H vs):RpF X H (lfl ds) (.lst ds) (upd H p (.lst vs)) (.ref p):=by
 unfold lfl
 by_cases q:z1f ds=true
 · rw[if_pos q];exact Rp.new hp hp (Rps.flat ds q r)
 · rw[if_neg q];exact⟨Rp.new hp rfl r,⟨ds,rfl⟩,fun a e=>by cases e;exact hp⟩
def z5R:FO
 | .lst xs,.lst ys=>if xs.length+ys.length≤1000000 then some (newL (xs++ys)) else none
 | _,_=>none
theorem Rp.items{K:PySem.W.Frag}{B H:Hp}{ds:List Dt}{v:V}(h:Rp K B (.lst ds) H v):∃ a vs,v = .ref a∧B a=none∧H a=some (.lst vs)∧Rps K B ds H vs:=by
 obtain⟨a,vs,e,h0,h1,h2⟩:=Rp.lst_.mp h
 exact⟨a,vs,e,h0,h1,Rps.mono _ z0t h2⟩
theorem o_cat:OpF X (binaryOp .Add) z5R:=by
 rintro pins s σ H x y v u Q I r1 r2 ⟨d1,d2,f,d,q1,q2,e,k⟩
 unfold z5R at e
 split at e
 · rename_i xs ys
   split at e
   · rename_i hc
     cases e
     obtain⟨a,vs,rfl,_,ha,ra⟩:=q1.items
     obtain⟨b,ws,rfl,_,hb,rb⟩:=q2.items
     exact op_cat pins s σ H _ _ v u Q I r1 r2 ⟨a,b,vs,ws,rfl,rfl,ha,hb,Nat.le_trans (by rw[ra.length,rb.length];exact hc) (by decide),fun p hp=>k _ _ (z0U hp) (z5Q hp (ra.append rb))⟩
   · cases e
 · cases e
def z0u:FO:=fun x y=>(zi7 x y).orElse fun _=>z5R x y
theorem z2y:OpF X (binaryOp .Add) z0u:=o_addI.or o_cat
def truD:Dt→Option Bool
 | .non=>some false
 | .bl b=>some b
 | .int i=>some (i != 0)
 | .lst ds=>some (!ds.isEmpty)
 | .tup ds=>some (!ds.isEmpty)
 | _=>none
theorem Rps.isEmpty{K:PySem.W.Frag}{B H:Hp}{ds:List Dt}{vs:List V}(h:Rps K B ds H vs):(!vs.isEmpty)=!ds.isEmpty:=by
 have:=h.length
 cases ds<;>cases vs<;>first|rfl|(simp at this)
theorem zlO{H:Hp}{d:Dt}{v:V}{k:Bool}(r:Rp X.K emp d H v)(e:truD d=some k):TruV X.K v H k:=by
 cases d with
 | non=>rw[Rp.non_.mp r];cases e;rfl
 | bl b=>rw[Rp.bl_.mp r];cases e;rfl
 | int i=>rw[Rp.int_.mp r];cases e;rfl
 | str x=>cases e
 | dic=>cases e
 | scr x=>cases e
 | lst ds =>
  obtain⟨p,vs,rfl,_,h1,h2⟩:=r.items
  cases e
  exact .inl ⟨vs,SqL.of h1,h2.isEmpty.symm⟩
 | tup ds =>
  obtain⟨p,vs,rfl,h1,h2⟩:=Rp.tup_.mp r
  cases e
  exact .inr (.inl ⟨vs,h1,h2.isEmpty.symm⟩)
def blD:Dt→Option Bool
 | .bl b=>some b
 | _=>none
def z0p(F:FE):FT:=fun ρ=>(F ρ).bind fun x=>blD x.2
def fTru(F:FE):FT:=fun ρ=>(F ρ).bind fun x=>truD x.2
theorem z1b{op:CmpOp}{r:FO}(ho:OpF X (compareOp op) r)(ha:PF X a Fa)(hb:PF X b Fb)(hm:behindInMarks op b=false):PFT X (.Compare a [op] [b] pos) (z0p (fOp r Fa Fb)) :=
 (zlA ho ha hb hm).imp fun σ H Q hZ=>hZ.elim fun ρ hZ=>hZ.elim fun k hZ=>hZ.elim fun rs hZ=>hZ.elim fun e q=>by
  obtain⟨⟨f,d⟩,e1,e2⟩:=z04 e
  refine zcF ⟨ρ,f,d,rs,e1,fun v H' s r=>?_⟩
  cases d<;>first|cases e2|skip
  exact⟨k,Rp.bl_.mp r.sh,q H' s⟩
theorem z84(ha:PF X a Fa)(he:∀ whole,isTrue a X.env whole=(do let v ←whole;standAt a.pos;holding [v] (truthy v))):PFT X a (fTru Fa) :=
 (zhP ha he).imp fun σ H Q hZ=>hZ.elim fun ρ hZ=>hZ.elim fun k hZ=>hZ.elim fun rs hZ=>hZ.elim fun e q=>by
  obtain⟨⟨f,d⟩,e1,e2⟩:=z04 e
  exact⟨ρ,f,d,rs,e1,fun v H' s r=>⟨k,zlO r.sh e2,q H' s⟩⟩
def fNot(F:FT):FT:=fun ρ=>(F ρ).map not
theorem z9A{F:FT}(ha:PFT X a F):PFT X (.UnaryOp .Not a pos) (fNot F):=(pt_not ha).imp fun σ H Q hZ=>hZ.elim fun ρ hZ=>hZ.elim fun k hZ=>hZ.elim fun rs hZ=>hZ.elim fun e q=>by
 unfold fNot at e
 cases h:F ρ with
 | none=>rw[h]at e;cases e
 | some b=>rw[h]at e;cases e;exact⟨ρ,b,rs,h,q⟩
def fAnd(F G:FT):FT:=fun ρ=>(F ρ).bind fun b=>if b then G ρ else some false
def fOr(F G:FT):FT:=fun ρ=>(F ρ).bind fun b=>if b then some true else G ρ
theorem w_and1{F:FT}(ha:PFT X a F):PFW X (.BoolOp .And [a] pos) F:=zlu ha
theorem zi8{F:FT}(ha:PFT X a F):PFW X (.BoolOp .Or [a] pos) F:=pw_or1 ha
theorem w_and{rest:List Expr}{F G:FT}(ha:PFT X a F)(hb:PFW X (.BoolOp .And (b::rest) pos) G):PFW X (.BoolOp .And (a::b::rest) pos) (fAnd F G) :=
 (pw_and ha hb).imp fun σ H Q hZ=>hZ.elim fun ρ hZ=>hZ.elim fun k hZ=>hZ.elim fun rs hZ=>hZ.elim fun e q=>by
  obtain⟨z,e1,e2⟩:=z04 e
  refine⟨ρ,z,rs,e1,fun H' s=>?_⟩
  dsimp only
  cases z with
  | true=>rw[if_pos rfl]at e2 ⊢;exact⟨ρ,k,rs.mono s,e2,fun H'' s'=>q H'' (s.trans s')⟩
  | false=>rw[if_neg Bool.false_ne_true]at e2 ⊢;cases e2;exact q H' s
theorem w_or{rest:List Expr}{F G:FT}(ha:PFT X a F)(hb:PFW X (.BoolOp .Or (b::rest) pos) G):PFW X (.BoolOp .Or (a::b::rest) pos) (fOr F G) :=
 (pw_or ha hb).imp fun σ H Q hZ=>hZ.elim fun ρ hZ=>hZ.elim fun k hZ=>hZ.elim fun rs hZ=>hZ.elim fun e q=>by
  obtain⟨z,e1,e2⟩:=z04 e
  refine⟨ρ,z,rs,e1,fun H' s=>?_⟩
  dsimp only
  cases z with
  | true=>rw[if_pos rfl]at e2 ⊢;cases e2;exact q H' s
  | false=>rw[if_neg Bool.false_ne_true]at e2 ⊢;exact⟨ρ,k,rs.mono s,e2,fun H'' s'=>q H'' (s.trans s')⟩
def vAnd(F G:FE):FE:=fun ρ=>(z0p F ρ).bind fun b=>if b then G ρ else some (.nw,.bl false)
def vOr(F G:FE):FE:=fun ρ=>(z0p F ρ).bind fun b=>if b then some (.nw,.bl true) else G ρ
def vNot(F:FE):FE:=fun ρ=>(z0p F ρ).map fun b=>(.nw,.bl (!b))
theorem zi9{op}(h:PF X a Fa):PF X (.BoolOp op [a] pos) Fa:=pe_one h
theorem zia{rest:List Expr}(ha:PF X a Fa)(hb:PF X (.BoolOp .And (b::rest) pos) Fb):PF X (.BoolOp .And (a::b::rest) pos) (vAnd Fa Fb) :=
 (pe_and ha hb).imp fun σ H Q hZ=>hZ.elim fun ρ hZ=>hZ.elim fun f hZ=>hZ.elim fun d hZ=>hZ.elim fun rs hZ=>hZ.elim fun e k=>by
  obtain⟨z,e1,e2⟩:=z04 e
  obtain⟨⟨f1,d1⟩,e3,e4⟩:=z04 e1
  refine⟨ρ,f1,d1,rs,e3,fun v H' s r=>?_⟩
  cases d1<;>first|cases e4|skip
  refine⟨z,Rp.bl_.mp r.sh,?_⟩
  cases z with
  | true=>rw[if_pos rfl]at e2 ⊢;exact⟨ρ,f,d,rs.mono s,e2,fun v H'' s' r=>k v H'' (s.trans s') (r.early s)⟩
  | false=>rw[if_neg Bool.false_ne_true]at e2 ⊢;cases e2;exact k _ H' s RpF.b_
theorem p_not(ha:PF X a Fa):PF X (.UnaryOp .Not a pos) (vNot Fa):=(pe_not ha).imp fun σ H Q hZ=>hZ.elim fun ρ hZ=>hZ.elim fun f hZ=>hZ.elim fun d hZ=>hZ.elim fun rs hZ=>hZ.elim fun e k=>by
 unfold vNot at e
 cases h:z0p Fa ρ with
 | none=>rw[h]at e;cases e
 | some z =>
  rw[h]at e
  cases e
  obtain⟨⟨f1,d1⟩,e3,e4⟩:=z04 h
  refine⟨ρ,f1,d1,rs,e3,fun v H' s r=>?_⟩
  cases d1<;>first|cases e4|skip
  exact⟨z,Rp.bl_.mp r.sh,k _ H' s RpF.b_⟩
def fIf(F:FT)(Fa Fb:FE):FE:=fun ρ=>(F ρ).bind fun b=>if b then Fa ρ else Fb ρ
theorem p_if{F:FT}(hc:PFT X c F)(ha:PF X a Fa)(hb:PF X b Fb):PF X (.IfExp c a b pos) (fIf F Fa Fb) :=
 (zhI hc ha hb).imp fun σ H Q hZ=>hZ.elim fun ρ hZ=>hZ.elim fun f hZ=>hZ.elim fun d hZ=>hZ.elim fun rs hZ=>hZ.elim fun e k=>by
  obtain⟨z,e1,e2⟩:=z04 e
  refine⟨ρ,z,rs,e1,fun H' s=>?_⟩
  dsimp only
  cases z with
  | true=>rw[if_pos rfl]at e2 ⊢;exact⟨ρ,f,d,rs.mono s,e2,fun v H'' s' r=>k v H'' (s.trans s') (r.early s)⟩
  | false=>rw[if_neg Bool.false_ne_true]at e2 ⊢;exact⟨ρ,f,d,rs.mono s,e2,fun v H'' s' r=>k v H'' (s.trans s') (r.early s)⟩
def fNeg(F:FE):FE:=fun ρ=>(F ρ).bind fun x=>match x.2 with|.int i=>some (.nw,.int (-i))|_=>none
theorem z9B(ha:PF X a Fa):PF X (.UnaryOp .USub a pos) (fNeg Fa):=(pe_un un_neg ha).imp fun σ H Q ⟨ρ,f,d,rs,e,k⟩=>by
 obtain⟨⟨f1,d1⟩,e1,e2⟩:=z04 e
 refine⟨ρ,f1,d1,rs,e1,fun v H' s r=>?_⟩
 cases d1<;>first|cases e2|skip
 rename_i i
 exact⟨i,Rp.int_.mp r.sh,k _ H' s RpF.i_⟩
def z85(r r':FO)(Fa Fb Fc:FE):FE:=fun ρ=>(Fa ρ).bind fun x=>(Fb ρ).bind fun y=>(r x.2 y.2).bind fun z=>(blD z.2).bind fun k=>if k then(Fc ρ).bind fun w=>r' y.2 w.2 else some (.nw,.bl false)
theorem zh2{r r':FO}{σ:St}{H:Hp}{Q:VK}(h:upF X (z85 r r' Fa Fb Fc) σ H Q):
  zhN (fun x y H Q=>∃ dx dy f d,Rp X.K emp dx H x∧Rp X.K emp dy H y∧r dx dy=some (f,d)∧∀ v H',Same H H'→RpF X.ky H f d H' v→Q v H') (fun x y H Q=>∃ dx dy f d,Rp X.K emp dx H x∧Rp X.K emp dy H y∧r' dx dy=some (f,d)∧∀ v H',Same H H'→RpF X.ky H f d H' v→Q v H')
   (upF X Fa) (upF X Fb) (upF X Fc) σ H Q:=by
 obtain⟨ρ,f,d,rs,e0,k⟩:=h
 obtain⟨⟨fa,da⟩,ea,e1⟩:=z04 e0
 obtain⟨⟨fb,db⟩,eb,e2⟩:=z04 e1
 obtain⟨⟨fz,dz⟩,ez,e3⟩:=z04 e2
 obtain⟨z,ek,e⟩:=z04 e3
 clear e3 e2 e1 e0
 refine⟨ρ,fa,da,rs,ea,fun v H1 s1 r1=>⟨ρ,fb,db,rs.mono s1,eb,fun u H2 s2 r2=>⟨da,db,fz,dz,Rp.mono _ s2 r1.sh,r2.sh,ez,fun w H3 s3 r3=>?_⟩⟩⟩
 cases dz<;>first|cases ek|skip
 refine⟨z,Rp.bl_.mp r3.sh,?_⟩
 cases z with
 | true =>
  rw[if_pos rfl]at e ⊢
  obtain⟨⟨fc,dc⟩,ec,e⟩:=z04 e
  exact⟨ρ,fc,dc,rs.mono (s1.trans (s2.trans s3)),ec,fun w' H4 s4 r4=>⟨db,dc,f,d,Rp.mono _ (s3.trans s4) r2.sh,r4.sh,e,fun y H' s' r'=>k y H' (s1.trans (s2.trans (s3.trans (s4.trans s')))) (r'.early (s1.trans (s2.trans (s3.trans s4))))⟩⟩
 | false =>
  rw[if_neg Bool.false_ne_true]at e ⊢
  cases e
  exact k _ _ (s1.trans (s2.trans s3)) RpF.b_
theorem zlP{op op':CmpOp}{r r':FO}(ho:OpF X (compareOp op) r)(ho':OpF X (compareOp op') r')(ha:PF X a Fa)(hb:PF X b Fb)(hc:PF X c Fc)
 (hm:lastMarks [op,op'] [b,c]=false:=by with_unfolding_all rfl):PF X (.Compare a [op,op'] [b,c] pos) (z85 r r' Fa Fb Fc):=(zhO ho ho' ha hb hc hm).imp fun σ H Q h=>zh2 h
theorem z3K{K:PySem.W.Frag}{B H:Hp}{ds:List Dt}{vs:List V}{i:Int}{d:Dt}(h:Rps K B ds H vs)(e:atI ds i=some d):∃ v,atI vs i=some v∧Rp K B d H v:=by
 unfold atI at e ⊢
 rw[h.length]
 cases q:ixN ds.length i with
 | none=>rw[q]at e;cases e
 | some j =>
  rw[q]at e
  exact h.get e
def Fl.item:Fl→Fl
 | .tn => .sh
 | f=>f
def opAt(x:Dv)(y:Dv):Option Dv:=match x.2,y.2 with
 | .lst ds,.int i=>(atI ds i).map (nrm x.1.item)
 | .tup ds,.int i=>(atI ds i).map (nrm x.1.item)
 | .scr ns,.int i=>(atI ns i).map fun n=>(.nw,.int n)
 | _,_=>none
def fAt(Fa Fb:FE):FE:=fun ρ=>(Fa ρ).bind fun x=>(Fb ρ).bind fun y=>opAt x y
theorem RpF.item{X:Ky}{H H':Hp}{f:Fl}{ds:List Dt}{v:V}{i:Int}{d:Dt}(h:RpF X H f (.lst ds) H' v)(e:atI ds i=some d):∃ a vs w,v = .ref a∧SqL X.K H' a vs∧atI vs i=some w∧RpF X H f.item d H' w:=by
 cases f with
 | sh=>obtain⟨a,vs,rfl,_,h1,h2⟩:=Rp.items h;obtain⟨w,e1,e2⟩:=z3K h2 e;exact⟨a,vs,w,rfl,SqL.of h1,e1,e2⟩
 | tn=>obtain⟨a,vs,rfl,_,h1,h2⟩:=Rp.items h.1;obtain⟨w,e1,e2⟩:=z3K h2 e;exact⟨a,vs,w,rfl,SqL.of h1,e1,e2⟩
 | fr=>obtain⟨a,vs,rfl,_,h1,h2⟩:=Rp.items h;obtain⟨w,e1,e2⟩:=z3K h2 e;exact⟨a,vs,w,rfl,SqL.of h1,e1,e2⟩
 | nw=>obtain⟨a,vs,rfl,_,h1,h2⟩:=Rp.items h;obtain⟨w,e1,e2⟩:=z3K h2 e;exact⟨a,vs,w,rfl,SqL.of h1,e1,e2⟩
theorem RpF.itemT{X:Ky}{H H':Hp}{f:Fl}{ds:List Dt}{v:V}{i:Int}{d:Dt}(h:RpF X H f (.tup ds) H' v)(e:atI ds i=some d):∃ a vs w,v = .ref a∧SqT X.K H' a vs∧atI vs i=some w∧RpF X H f.item d H' w:=by
 cases f with
 | sh=>obtain⟨a,vs,rfl,h1,h2⟩:=Rp.tup_.mp h;obtain⟨w,e1,e2⟩:=z3K h2 e;exact⟨a,vs,w,rfl,h1,e1,e2⟩
 | tn=>obtain⟨⟨_,h2⟩,_⟩:=h.2;cases h2
 | fr=>obtain⟨a,vs,rfl,h1,h2⟩:=Rp.tup_.mp h;obtain⟨w,e1,e2⟩:=z3K h2 e;exact⟨a,vs,w,rfl,h1,e1,e2⟩
 | nw=>obtain⟨a,vs,rfl,h1,h2⟩:=Rp.tup_.mp h;obtain⟨w,e1,e2⟩:=z3K h2 e;exact⟨a,vs,w,rfl,h1,e1,e2⟩
theorem zlQ{α β:Type}{g:α→β}{xs:List α}{i:Int}{x:α}(h:atI xs i=some x):atI (xs.map g) i=some (g x):=by
 unfold atI at h ⊢
 rw[List.length_map]
 cases q:ixN xs.length i with
 | none=>rw[q]at h;cases h
 | some j=>rw[q]at h;have h:xs[j]?=some x:=h;show(xs.map g)[j]?=_;rw[List.getElem?_map,h];rfl
theorem p_ix(ha:PF X a Fa)(hb:PF X b Fb)(hs:zfY b):PF X (.Subscript a b pos) (fAt Fa Fb) :=
 (pe_ix ix_seq ha hb hs).imp fun σ H Q hZ=>hZ.elim fun ρ hZ=>hZ.elim fun f hZ=>hZ.elim fun d hZ=>hZ.elim fun rs hZ=>hZ.elim fun e0 k=>by
  obtain⟨⟨fa,da⟩,ea,e1⟩:=z04 e0
  obtain⟨⟨fb,db⟩,eb,e⟩:=z04 e1
  clear e1 e0
  refine⟨ρ,fa,da,rs,ea,fun v H1 s1 r1=>⟨ρ,fb,db,rs.mono s1,eb,fun u H2 s2 r2=>?_⟩⟩
  have r1:=r1.mono s2
  unfold opAt at e
  split at e
  · rename_i ds i ed ei
    cases ed;cases ei
    cases q:atI ds i with
    | none=>rw[q]at e;cases e
    | some d0 =>
     rw[q]at e
     obtain⟨p,vs,w,rfl,h1,h2,h3⟩:=r1.item q
     have e:nrm fa.item d0=(f,d):=Option.some.inj e
     have h4:=h3.nrm
     have e1:d0=d:=congrArg Prod.snd e
     subst e1
     rw[e]at h4
     exact .inl ⟨p,vs,i,w,rfl,Rp.int_.mp r2.sh,h1,h2,k _ _ (s1.trans s2) h4⟩
  · rename_i ds i ed ei
    cases ed;cases ei
    cases q:atI ds i with
    | none=>rw[q]at e;cases e
    | some d0 =>
     rw[q]at e
     obtain⟨p,vs,w,rfl,h1,h2,h3⟩:=r1.itemT q
     have e:nrm fa.item d0=(f,d):=Option.some.inj e
     have h4:=h3.nrm
     have e1:d0=d:=congrArg Prod.snd e
     subst e1
     rw[e]at h4
     exact .inr (.inl ⟨p,vs,i,w,rfl,Rp.int_.mp r2.sh,h1,h2,k _ _ (s1.trans s2) h4⟩)
  · rename_i ns i ed ei
    cases ed;cases ei
    cases q:atI ns i with
    | none=>rw[q]at e;cases e
    | some n =>
     rw[q]at e
     cases e
     obtain⟨p,rfl,_,h1⟩:=Rp.scr_.mp r1.sh
     exact .inl ⟨p,_,i,_,rfl,Rp.int_.mp r2.sh,h1,zlQ q,k _ _ (s1.trans s2) RpF.i_⟩
  · cases e
end
end L2

end
section
local macro_rules|`(tactic| omega)=>`(tactic| first|lia|omega +splitDisjunctions)
set_option Elab.async false
set_option linter.all false
set_option maxRecDepth 100000
namespace L2
open PySem PySem.Spec PyProof.Rows
mutual
def Dt.py:Dt→PyData
 | .non => .none
 | .bl b => .bool b
 | .int i => .int i
 | .str x => .str x
 | .lst ds => .list (pys ds)
 | .tup ds => .tuple (pys ds)
 | .scr ns => .list (ns.map .int)
 | .dic => .dict []
def pys:List Dt→List PyData
 | []=>[]
 | d::ds=>d.py::pys ds
end
mutual
def Dt.okN:Nat→Dt→Bool
 | _,.str x=>PyData.strOk x
 | 0,.lst _=>false
 | 0,.tup _=>false
 | n+1,.lst ds=>oksN n ds
 | n+1,.tup ds=>oksN n ds
 | 0,.scr _=>false
 | _,.dic=>false
 | _,_=>true
def oksN:Nat→List Dt→Bool
 | _,[]=>true
 | n,d::ds=>d.okN n&&oksN n ds
end
theorem zaE:∀ ns:List Int,PyData.canLayAll0 (ns.map PyData.int)=true∧PyData.depthAll (ns.map PyData.int)=0
 | []=>⟨rfl,rfl⟩
 | n::ns=>⟨by rw[List.map_cons,PyData.canLayAll0,(zaE ns).1];rfl,by rw[List.map_cons,PyData.depthAll,(zaE ns).2];rfl⟩
mutual
theorem zg1:∀(n:Nat) (d:Dt),d.okN n=true→d.py.canLay0=true∧d.py.depth≤n
 | n,.non,_=>⟨rfl,by rw[Dt.py,PyData.depth];exact Nat.zero_le _⟩
 | n,.bl b,_=>⟨rfl,by rw[Dt.py,PyData.depth];exact Nat.zero_le _⟩
 | n,.int i,_=>⟨rfl,by rw[Dt.py,PyData.depth];exact Nat.zero_le _⟩
 | n,.str x,h=>by
  have h:PyData.strOk x=true:=by cases n<;>simpa[Dt.okN]using h
  exact⟨by rw[Dt.py,PyData.canLay0];exact h,by rw[Dt.py,PyData.depth];exact Nat.zero_le _⟩
 | 0,.lst ds,h=>by rw[Dt.okN]at h;cases h
 | 0,.tup ds,h=>by rw[Dt.okN]at h;cases h
 | 0,.scr ds,h=>by rw[Dt.okN]at h;cases h
 | n,.dic,h=>by cases n<;>(unfold Dt.okN at h;cases h)
 | n+1,.lst ds,h=>by
  rw[Dt.okN]at h
  obtain⟨h1,h2⟩:=z86 n ds h
  exact⟨by rw[Dt.py,PyData.canLay0];exact h1,by rw[Dt.py,PyData.depth];omega⟩
 | n+1,.tup ds,h=>by
  rw[Dt.okN]at h
  obtain⟨h1,h2⟩:=z86 n ds h
  exact⟨by rw[Dt.py,PyData.canLay0];exact h1,by rw[Dt.py,PyData.depth];omega⟩
 | n+1,.scr ns,h=>by
  obtain⟨h1,h2⟩:=zaE ns
  exact⟨by rw[Dt.py,PyData.canLay0];exact h1,by rw[Dt.py,PyData.depth];omega⟩
theorem z86:∀(n:Nat) (ds:List Dt),oksN n ds=true→PyData.canLayAll0 (pys ds)=true∧PyData.depthAll (pys ds)≤n
 | n,[],_=>⟨rfl,by rw[pys,PyData.depthAll];exact Nat.zero_le _⟩
 | n,d::ds,h=>by
  rw[oksN,Bool.and_eq_true]at h
  obtain⟨h1,h2⟩:=zg1 n d h.1
  obtain⟨h3,h4⟩:=z86 n ds h.2
  refine⟨by rw[pys,PyData.canLayAll0,h1,h3];rfl,?_⟩
  rw[pys,PyData.depthAll]
  exact Nat.max_le.mpr ⟨h2,h4⟩
end
theorem z4T{d:Dt}{n:Nat}(h:d.okN n=true)(hn:n≤64):SeqAt.shaped d.py=true:=by
 obtain⟨h1,h2⟩:=zg1 n d h
 unfold SeqAt.shaped
 rw[h1,Bool.true_and]
 exact decide_eq_true (Nat.le_trans h2 hn)
section
variable {X:Cx}{pins:List (Addr×Obj)}{σ:St}{H:Hp}{s:Shared}
theorem z87{h:Heap}:∀{ns:List Int} {us:List Value},Vals (ns.map V.int) us→∃ as,ReadsAll h us (ns.map PyData.int) as
 | [],us,r=>by cases r;exact⟨_,.nil⟩
 | n::ns,us,r=>by
  rw[List.map_cons]at r
  cases r with
  | cons r1 r2 =>
   obtain⟨t,rfl⟩:=r1
   obtain⟨as,q⟩:=z87 r2
   exact⟨_,.cons (.int n t) q⟩
mutual
theorem z4c(I:Inv X pins σ H s):∀(d:Dt) {v:V} {u:Value},Rp X.K emp d H v→RelV v u→∃ as,Reads s.heap u d.py as
 | .non,v,u,h,r=>by rw[Rp.non_]at h;subst h;cases r;exact⟨_,.none⟩
 | .bl b,v,u,h,r=>by rw[Rp.bl_]at h;subst h;cases r;exact⟨_,.bool b⟩
 | .int i,v,u,h,r=>by rw[Rp.int_]at h;subst h;obtain⟨t,rfl⟩:=r;exact⟨_,.int i t⟩
 | .str x,v,u,h,r=>by rw[Rp.str_]at h;subst h;obtain⟨t,rfl⟩:=r;exact⟨_,.str x t⟩
 | .dic,v,u,h,r=>by
  obtain⟨a,rfl,h1⟩:=Rp.dic_.mp h
  cases r
  exact⟨_,by rw[Dt.py];exact .dict (I.hok a _ h1).1 rfl rfl .nil .nil⟩
 | .lst ds,v,u,h,r=>by
  obtain⟨a,vs,rfl,_,h1,h2⟩:=Rp.lst_.mp h
  cases r
  obtain⟨its,rv,⟨o,n,e,c,dd,dt⟩,_⟩:=I.list (SqL.of (K:=X.K) h1)
  obtain⟨as,q⟩:=z4d I ds (Rps.mono ds z0t h2) rv
  exact⟨_,by rw[Dt.py];exact .list e c dt q⟩
 | .tup ds,v,u,h,r=>by
  obtain⟨a,vs,rfl,h1,h2⟩:=Rp.tup_.mp h
  cases r
  obtain⟨its,rv,⟨o,e,c,n,dt⟩,_⟩:=I.tuple h1
  obtain⟨as,q⟩:=z4d I ds h2 rv
  exact⟨_,by rw[Dt.py];exact .tuple e c dt q⟩
 | .scr ns,v,u,h,r=>by
  obtain⟨a,rfl,_,h1⟩:=Rp.scr_.mp h
  cases r
  obtain⟨its,rv,⟨o,n,e,c,dd,dt⟩,_⟩:=I.list h1
  obtain⟨as,q⟩:=z87 (h:=s.heap) rv
  exact⟨_,by rw[Dt.py];exact .list e c dt q⟩
theorem z4d(I:Inv X pins σ H s):∀(ds:List Dt) {vs:List V} {us:List Value},Rps X.K emp ds H vs→Vals vs us→∃ as,ReadsAll s.heap us (pys ds) as
 | [],vs,us,h,r=>by rw[Rps.nil_]at h;subst h;cases r;exact⟨_,by rw[pys];exact .nil⟩
 | d::ds,vs,us,h,r=>by
  obtain⟨v,ws,rfl,h1,h2⟩:=Rps.cons_.mp h
  cases r with
  | cons r1 r2 =>
   obtain⟨as,q1⟩:=z4c I d h1 r1
   obtain⟨bs,q2⟩:=z4d I ds h2 r2
   exact⟨_,by rw[pys];exact .cons q1 q2⟩
end
end
def eqD(x y:Dt):Bool:=PyData.eqv x.py y.py
section
variable {X:Cx}{a b c e:Expr}{Fa Fb Fc:FE}{pos:Pos}
def opEq:FO:=fun x y=>if x.okN 8&&y.okN 8 then some (.nw,.bl (eqD x y)) else none
def opNe:FO:=fun x y=>if x.okN 8&&y.okN 8 then some (.nw,.bl (!eqD x y)) else none
theorem o_eq(hu:X.A.units+64<cLine):OpF X (compareOp .Eq) opEq:=by
 rintro pins s σ H x y v u Q I r1 r2 ⟨d1,d2,f,d,q1,q2,e,k⟩
 unfold opEq at e
 split at e
 · rename_i h
   rw[Bool.and_eq_true]at h
   cases e
   obtain⟨as,ra⟩:=z4c I d1 q1 r1
   obtain⟨bs,rb⟩:=z4c I d2 q2 r2
   exact eq_dataH ra rb (z4T h.1 (by decide)) (z4T h.2 (by decide)) hu ⟨.bl _,H,I,rfl,k _ H (Same.refl H) RpF.b_⟩
 · cases e
theorem o_ne(hu:X.A.units+64<cLine):OpF X (compareOp .NotEq) opNe:=by
 rintro pins s σ H x y v u Q I r1 r2 ⟨d1,d2,f,d,q1,q2,e,k⟩
 unfold opNe at e
 split at e
 · rename_i h
   rw[Bool.and_eq_true]at h
   cases e
   obtain⟨as,ra⟩:=z4c I d1 q1 r1
   obtain⟨bs,rb⟩:=z4c I d2 q2 r2
   exact ne_dataH ra rb (z4T h.1 (by decide)) (z4T h.2 (by decide)) hu ⟨.bl _,H,I,rfl,k _ H (Same.refl H) RpF.b_⟩
 · cases e
end
def RpFs(X:Ky)(H:Hp):List Dv→Hp→List V→Prop
 | [],_,vs=>vs=[]
 | x::xs,H',vs=>∃ v r,vs=v::r∧RpF X H x.1 x.2 H' v∧RpFs X H xs H' r
def upAs(X:Cx)(F:FA):TA:=fun σ H Q=>∃ ρ xs,RepS X.ky H ρ σ∧F ρ=some xs∧∀ vs H',Same H H'→RpFs X.ky H xs H' vs→Q vs H'
def PFA(X:Cx)(es:List Expr)(F:FA):Prop:=PA X es (upAs X F)
def sndL:List Dv→List Dt
 | []=>[]
 | x::xs=>x.2::sndL xs
def z3n:List Dv→Bool
 | []=>true
 | x::xs=>x.1.isNw&&z3n xs
def z2z:List Dv→Bool
 | []=>true
 | x::xs=>x.1.isFr&&z2z xs
section
variable {X:Ky}{H H' H1:Hp}
theorem RpFs.sh:∀{xs:List Dv} {vs:List V},RpFs X H xs H' vs→Rps X.K emp (sndL xs) H' vs
 | [],vs,h=>Rps.nil_.mpr h
 | x::xs,vs,⟨v,r,e,h1,h2⟩=>Rps.cons_.mpr ⟨v,r,e,h1.sh,RpFs.sh h2⟩
theorem RpFs.nw:∀{xs:List Dv} {vs:List V},z3n xs=true→RpFs X H xs H' vs→Rps X.K H (sndL xs) H' vs
 | [],vs,_,h=>Rps.nil_.mpr h
 | ⟨f,d⟩::xs,vs,q,⟨v,r,e,h1,h2⟩=>by
  unfold z3n at q
  rw[Bool.and_eq_true]at q
  cases f<;>first|(exact absurd q.1 Bool.false_ne_true)|exact Rps.cons_.mpr ⟨v,r,e,h1,RpFs.nw q.2 h2⟩
theorem RpFs.fr(h0:Same X.H₀ H):∀{xs:List Dv} {vs:List V},z2z xs=true→RpFs X H xs H' vs→Rps X.K X.H₀ (sndL xs) H' vs
 | [],vs,_,h=>Rps.nil_.mpr h
 | ⟨f,d⟩::xs,vs,q,⟨v,r,e,h1,h2⟩=>by
  unfold z2z at q
  rw[Bool.and_eq_true]at q
  exact Rps.cons_.mpr ⟨v,r,e,h1.fr h0 q.1,RpFs.fr h0 q.2 h2⟩
theorem RpFs.mono:∀{xs:List Dv} {vs:List V},RpFs X H xs H' vs→Same H' H1→RpFs X H xs H1 vs
 | [],vs,h,_=>h
 | x::xs,vs,⟨v,r,e,h1,h2⟩,s=>⟨v,r,e,h1.mono s,RpFs.mono h2 s⟩
theorem RpFs.early(s:Same H H1):∀{xs:List Dv} {vs:List V},RpFs X H1 xs H' vs→RpFs X H xs H' vs
 | [],vs,h=>h
 | x::xs,vs,⟨v,r,e,h1,h2⟩=>⟨v,r,e,h1.early s,RpFs.early s h2⟩
end
section
variable {X:Cx}{a b c e:Expr}{es:List Expr}{Fa Fb Fe:FE}{Fs:FA}{pos:Pos}
def fNil:FA:=fun _=>some []
def z02(Fa:FE)(Fs:FA):FA:=fun ρ=>(Fa ρ).bind fun x=>(Fs ρ).bind fun xs=>some (x::xs)
theorem z07:PFA X [] fNil:=z6w.imp (by rintro σ H Q ⟨ρ,xs,rs,e,k⟩;cases e;exact k [] H (Same.refl H) rfl)
theorem z03(ha:PF X e Fe)(hr:PFA X es Fs)(hs:starEach (e::es) X.env=(false,eval e X.env)::starEach es X.env:=by rfl):PFA X (e::es) (z02 Fe Fs) :=
 (z2C ha hr hs).imp fun σ H Q hZ=>hZ.elim fun ρ hZ=>hZ.elim fun xs hZ=>hZ.elim fun rs hZ=>hZ.elim fun e0 k=>by
  obtain⟨⟨f,d⟩,e1,e2⟩:=z04 e0
  obtain⟨ys,e3,e4⟩:=z04 e2
  cases e4
  exact⟨ρ,f,d,rs,e1,fun v H1 s1 r1=>⟨ρ,ys,rs.mono s1,e3,fun vs H2 s2 r2=>k _ _ (s1.trans s2) ⟨v,vs,rfl,r1.mono s2,r2.early s1⟩⟩⟩
theorem RpFs.length{X:Ky}{H H':Hp}:∀{xs:List Dv} {vs:List V},RpFs X H xs H' vs→vs.length=xs.length
 | [],vs,h=>by rw[show vs=[]from h];rfl
 | x::xs,vs,⟨v,r,e,_,h2⟩=>by rw[e,List.length_cons,List.length_cons,RpFs.length h2]
def fLst(Fs:FA):FE:=fun ρ=>(Fs ρ).bind fun xs=>if xs.length≤1000 then some (if z3n xs then .nw else .tn,.lst (sndL xs)) else none
def fTup(Fs:FA):FE:=fun ρ=>(Fs ρ).bind fun xs=>if xs.length≤1000 then some (if z3n xs then .nw else if z2z xs then .fr else .sh,.tup (sndL xs)) else none
theorem z3o(h:PFA X es Fs):PF X (.List es pos) (fLst Fs):=(pe_lst h).imp fun σ H Q hZ=>hZ.elim fun ρ hZ=>hZ.elim fun f hZ=>hZ.elim fun d hZ=>hZ.elim fun rs hZ=>hZ.elim fun e0 k=>by
 obtain⟨xs,e1,e2⟩:=z04 e0
 split at e2
 · rename_i hl
   cases e2
   refine⟨ρ,xs,rs,e1,fun vs H1 s1 r1=>⟨Nat.le_trans (by rw[r1.length];exact hl) (by decide),fun p hp=>k _ _ (s1.trans (z0U hp)) ?_⟩⟩
   have hp0:H p=none:=s1.free hp
   by_cases q:z3n xs=true
   · rw[if_pos q]
     exact Rp.new (K:=X.K) (B:=H) hp hp0 (r1.nw q)
   · rw[if_neg q]
     exact⟨Rp.new hp rfl r1.sh,⟨_,rfl⟩,fun a e=>by cases e;exact hp0⟩
 · cases e2
theorem z5h{x1}(h:PFA X es Fs):PF X (.Tuple es x1 pos) (fTup Fs):=(pe_tup h).imp fun σ H Q hZ=>hZ.elim fun ρ hZ=>hZ.elim fun f hZ=>hZ.elim fun d hZ=>hZ.elim fun rs hZ=>hZ.elim fun e0 k=>by
 obtain⟨xs,e1,e2⟩:=z04 e0
 split at e2
 · rename_i hl
   cases e2
   refine⟨ρ,xs,rs,e1,fun vs H1 s1 r1=>⟨Nat.le_trans (by rw[r1.length];exact hl) (by decide),fun p hp=>k _ _ (s1.trans (z0U hp)) ?_⟩⟩
   have r2:=r1.mono (z0U (o := .tup vs) hp)
   by_cases q:z3n xs=true
   · rw[if_pos q]
     exact(Rp.tup_ (K:=X.K) (B:=H)).mpr ⟨p,vs,rfl,SqT.of z0A,r2.nw q⟩
   · rw[if_neg q]
     by_cases q2:z2z xs=true
     · rw[if_pos q2]
       exact(Rp.tup_ (K:=X.K) (B:=X.H₀)).mpr ⟨p,vs,rfl,SqT.of z0A,r2.fr rs.base q2⟩
     · rw[if_neg q2]
       exact(Rp.tup_ (K:=X.K) (B:=emp)).mpr ⟨p,vs,rfl,SqT.of z0A,r2.sh⟩
 · cases e2
abbrev FC:=List Dt→Option Dt
def spc(K:PySem.W.Frag)(fr:Bool)(c:FC):Sp:=fun vs H Q _=>∃ ds d,Rps K emp ds H vs∧c ds=some d∧∀ v H',Same H H'→Rp K (if fr then H else emp) d H' v→Q v H'
def z08(fr:Bool)(c:FC)(Fs:FA):FE:=fun ρ=>(Fs ρ).bind fun xs=>(c (sndL xs)).map (nrm (if fr then .nw else .sh))
theorem zib{X:Ky}{fr:Bool}{H H1 H':Hp}{d:Dt}{v:V}(s:Same H H1)(r:Rp X.K (if fr then H1 else emp) d H' v):RpF X H (nrm (if fr then .nw else .sh) d).1 d H' v:=by
 cases fr with
 | true=>exact RpF.nrm (f := .nw) (RpF.early s (show RpF X H1 .nw d H' v from r))
 | false=>exact RpF.nrm (f := .sh) r
theorem p_call{fr:Bool}{k:Nat}{f:Addr}{fd:FuncData}{ps:List Str}{ct:FC}{x:Str}{p:Pos}(F:FnOk X.prog X.w X.K X.mg X.base CX0 k f fd ps (spc X.K fr ct))(hr:Room k X.A)(hg:Gl X x)(hm:X.mg x=some (.ref f))(hk:PySem.W.keepIn X.K (.ref f)=true)(hb:Binds X.K fd ps [])
  (ha:PFA X (e::es) Fs) (hdb:(x==("__debug__" : Str))=false:=by decide) (hst:starEach (e::es) X.env=(false,eval e X.env)::starEach es X.env:=by rfl) (hpl:(backTo pos (starEach es X.env)).any (·.1)=false:=by rfl):PF X (.Call (.Name x p) (e::es) [] pos) (z08 fr ct Fs) :=
 (zay (E:=E0) (dvs:=[]) F hr hg hm hk hb .nil pass0 ha hdb hst hpl).imp fun σ H Q hZ=>hZ.elim fun ρ hZ=>hZ.elim fun f hZ=>hZ.elim fun d hZ=>hZ.elim fun rs hZ=>hZ.elim fun e0 k=>by
  obtain⟨xs,e1,e2⟩:=z04 e0
  cases q:ct (sndL xs) with
  | none=>rw[q]at e2;cases e2
  | some d0 =>
   rw[q]at e2
   have e2:nrm (if fr then .nw else .sh) d0=(f,d):=Option.some.inj e2
   have e3:d0=d:=congrArg Prod.snd e2
   subst e3
   refine⟨ρ,xs,rs,e1,fun vs H1 s1 r1=>?_⟩
   dsimp only
   rw[List.append_nil]
   refine⟨_,d0,r1.sh,q,fun v H' s' r'=>k v H' (s1.trans s') ?_⟩
   have:=zib (X:=X.ky) s1 r'
   rw[e2]at this
   exact this
abbrev FB:=List Dt→Option Dv
def z5S(X:Cx)(f:Value)(r:FB):Prop:=CallR X f (fun xs H Q=>∃ ds f d,Rps X.K emp ds H xs∧r ds=some (f,d)∧∀ v H',Same H H'→RpF X.ky H f d H' v→Q v H')
def fBlt(r:FB)(Fs:FA):FE:=fun ρ=>(Fs ρ).bind fun xs=>r (sndL xs)
theorem zg2{r:FB}{σ:St}{H:Hp}{Q:VK}(h:upF X (fBlt r Fs) σ H Q):upAs X Fs σ H fun vs H1=>∃ ds f d,Rps X.K emp ds H1 vs∧r ds=some (f,d)∧∀ v H',Same H1 H'→RpF X.ky H1 f d H' v→Q v H':=by
 obtain⟨ρ,f,d,rs,e0,k⟩:=h
 obtain⟨xs,e1,e2⟩:=z04 e0
 exact⟨ρ,xs,rs,e1,fun vs H1 s1 r1=>⟨_,f,d,r1.sh,e2,fun v H' s' r'=>k v H' (s1.trans s') (r'.early s1)⟩⟩
theorem z12{id:String}{r:FB}{x:Str}{p:Pos}(hc:z5S X (.builtin id) r)(hg:Gl X x)(hm:X.mg x=none)(hv:bootBuiltins x=some (.builtin id))(ha:PFA X (e::es) Fs)(hn:x ≠ "__name__" := by decide)(hdb:(x==("__debug__" : Str))=false:=by decide)(hst:starEach (e::es) X.env=(false,eval e X.env)::starEach es X.env:=by rfl)(hpl:(backTo pos (starEach es X.env)).any (·.1)=false:=by rfl):
 PF X (.Call (.Name x p) (e::es) [] pos) (fBlt r Fs):=(z80 hc hg hm hv ha hn hdb hst hpl).imp fun σ H Q h=>zg2 h
theorem z1q{T:String}{r:FB}{x:Str}{p:Pos}(hc:z5S X (.type T) r)(hg:Gl X x)(hm:X.mg x=none)(hv:bootBuiltins x=some (.type T))(ha:PFA X (e::es) Fs)(hn:x ≠ "__name__" := by decide)(hdb:(x==("__debug__" : Str))=false:=by decide)(hst:starEach (e::es) X.env=(false,eval e X.env)::starEach es X.env:=by rfl)(hpl:(backTo pos (starEach es X.env)).any (·.1)=false:=by rfl):
 PF X (.Call (.Name x p) (e::es) [] pos) (fBlt r Fs):=(zh hc hg hm hv ha hn hdb hst hpl).imp fun σ H Q h=>zg2 h
end
section
variable {X:Cx}
theorem Rps.one'{K:PySem.W.Frag}{B H:Hp}{d:Dt}{vs:List V}(h:Rps K B [d] H vs):∃ v,vs=[v]∧Rp K B d H v:=by
 obtain⟨v,r,rfl,h1,h2⟩:=Rps.cons_.mp h
 rw[Rps.nil_.mp h2]
 exact⟨v,rfl,h1⟩
def bLen:FB
 | [.lst xs]=>some (.nw,.int xs.length)
 | [.tup xs]=>some (.nw,.int xs.length)
 | [.scr xs]=>some (.nw,.int xs.length)
 | _=>none
theorem z3p:z5S X (.builtin "len") bLen:=by
 rintro pins s σ H xs us Q I r ⟨ds,f,d,rs,e,k⟩
 unfold bLen at e
 split at e
 · cases e
   obtain⟨v,rfl,h⟩:=rs.one'
   obtain⟨p,vs,rfl,_,q1,q2⟩:=h.items
   exact z3G pins s σ H _ us Q I r ⟨p,vs,rfl,.inl (SqL.of q1),by rw[q2.length];exact k _ H (Same.refl H) RpF.i_⟩
 · cases e
   obtain⟨v,rfl,h⟩:=rs.one'
   obtain⟨p,vs,rfl,q1,q2⟩:=Rp.tup_.mp h
   exact z3G pins s σ H _ us Q I r ⟨p,vs,rfl,.inr q1,by rw[q2.length];exact k _ H (Same.refl H) RpF.i_⟩
 · cases e
   obtain⟨v,rfl,h⟩:=rs.one'
   obtain⟨p,rfl,_,q1⟩:=Rp.scr_.mp h
   exact z3G pins s σ H _ us Q I r ⟨p,_,rfl,.inl q1,by rw[List.length_map];exact k _ H (Same.refl H) RpF.i_⟩
 · cases e
def bTup:FB
 | [.lst xs]=>some (if z1f xs then .nw else .sh,.tup xs)
 | [.tup xs]=>some (if z1f xs then .nw else .sh,.tup xs)
 | _=>none
theorem zg3{X:Ky}{H H':Hp}{xs:List Dt}{v:V}(h:Rp X.K emp (.tup xs) H' v):RpF X H (if z1f xs then .nw else .sh) (.tup xs) H' v:=by
 by_cases q:z1f xs=true
 · rw[if_pos q];exact RpF.scal (by rw[Dt.flat];exact q) h
 · rw[if_neg q];exact h
theorem zg4:z5S X (.type "tuple") bTup:=by
 rintro pins s σ H xs us Q I r ⟨ds,f,d,rs,e,k⟩
 unfold bTup at e
 split at e
 · cases e
   obtain⟨v,rfl,h⟩:=rs.one'
   obtain⟨p,vs,rfl,_,q1,q2⟩:=h.items
   exact z5g pins s σ H _ us Q I r ⟨p,vs,rfl,.inl ⟨SqL.of q1,fun l hl=>k _ _ (z0U hl) (zg3 (Rp.tup_.mpr ⟨l,vs,rfl,SqT.of z0A,Rps.mono _ (z0U hl) q2⟩))⟩⟩
 · cases e
   obtain⟨v,rfl,h⟩:=rs.one'
   obtain⟨p,vs,rfl,q1,q2⟩:=Rp.tup_.mp h
   exact z5g pins s σ H _ us Q I r ⟨p,vs,rfl,.inr ⟨q1,k _ H (Same.refl H) (zg3 h)⟩⟩
 · cases e
def bLst:FB
 | [.lst xs]=>some (newL xs)
 | [.tup xs]=>some (newL xs)
 | _=>none
theorem z88:z5S X (.type "list") bLst:=by
 rintro pins s σ H xs us Q I r ⟨ds,f,d,rs,e,k⟩
 unfold bLst at e
 split at e
 · cases e
   obtain⟨v,rfl,h⟩:=rs.one'
   obtain⟨p,vs,rfl,_,q1,q2⟩:=h.items
   exact z5N pins s σ H _ us Q I r ⟨p,vs,rfl,.inl (SqL.of q1),fun l hl=>k _ _ (z0U hl) (z5Q hl q2)⟩
 · cases e
   obtain⟨v,rfl,h⟩:=rs.one'
   obtain⟨p,vs,rfl,q1,q2⟩:=Rp.tup_.mp h
   exact z5N pins s σ H _ us Q I r ⟨p,vs,rfl,.inr q1,fun l hl=>k _ _ (z0U hl) (z5Q hl q2)⟩
 · cases e
def bAbs:FB
 | [.int i]=>some (.nw,.int (if i<0 then -i else i))
 | _=>none
theorem c_abs:z5S X (.builtin "abs") bAbs:=by
 rintro pins s σ H xs us Q I r ⟨ds,f,d,rs,e,k⟩
 unfold bAbs at e
 split at e
 · rename_i i
   cases e
   obtain⟨v,rfl,h⟩:=rs.one'
   rw[Rp.int_]at h
   subst h
   exact zhQ pins s σ H _ us Q I r ⟨i,rfl,k _ H (Same.refl H) RpF.i_⟩
 · cases e
def bInt:FB
 | [.int i]=>some (.nw,.int i)
 | [.bl b]=>some (.nw,.int (if b then 1 else 0))
 | _=>none
theorem c_int:z5S X (.type "int") bInt:=by
 rintro pins s σ H xs us Q I r ⟨ds,f,d,rs,e,k⟩
 unfold bInt at e
 split at e
 · rename_i i
   cases e
   obtain⟨v,rfl,h⟩:=rs.one'
   rw[Rp.int_]at h
   subst h
   exact z9r pins s σ H _ us Q I r (.inl ⟨i,rfl,k _ H (Same.refl H) RpF.i_⟩)
 · rename_i b
   cases e
   obtain⟨v,rfl,h⟩:=rs.one'
   rw[Rp.bl_]at h
   subst h
   exact z9r pins s σ H _ us Q I r (.inr ⟨b,rfl,k _ H (Same.refl H) RpF.i_⟩)
 · cases e
def z5i:List Dt→Option (List Bool)
 | []=>some []
 | .bl b::ds=>(z5i ds).map (b::·)
 | _=>none
theorem z6x{K:PySem.W.Frag}{B H:Hp}:∀{ds:List Dt} {bs:List Bool} {vs:List V},z5i ds=some bs→Rps K B ds H vs→vs=bs.map V.bl
 | [],bs,vs,e,r=>by cases e;exact Rps.nil_.mp r
 | .bl b::ds,bs,vs,e,r=>by
  obtain⟨v,ws,rfl,h1,h2⟩:=Rps.cons_.mp r
  unfold z5i at e
  cases q:z5i ds with
  | none=>rw[q]at e;cases e
  | some cs=>rw[q]at e;cases e;rw[Rp.bl_.mp h1,z6x q h2];rfl
 | .non::ds,bs,vs,e,r=>by cases e
 | .int _::ds,bs,vs,e,r=>by cases e
 | .str _::ds,bs,vs,e,r=>by cases e
 | .lst _::ds,bs,vs,e,r=>by cases e
 | .tup _::ds,bs,vs,e,r=>by cases e
 | .scr _::ds,bs,vs,e,r=>by cases e
 | .dic::ds,bs,vs,e,r=>by cases e
def bAll:FB
 | [.lst xs]=>(z5i xs).map fun bs=>(.nw,.bl (bs.all id))
 | _=>none
def bAny:FB
 | [.lst xs]=>(z5i xs).map fun bs=>(.nw,.bl (bs.any id))
 | _=>none
theorem zh3(bs:List Bool):(List.range bs.length).all (fun i=>bs.getD i false)=bs.all id:=by
 rw[Bool.eq_iff_iff,List.all_eq_true,List.all_eq_true]
 constructor
 · intro h b hb
   obtain⟨i,hi,e⟩:=List.getElem_of_mem hb
   have:=h i (List.mem_range.mpr hi)
   simp[List.getD,List.getElem?_eq_getElem hi,e]at this
   exact this
 · intro h i hi
   have hi:=List.mem_range.mp hi
   have:=h _ (List.getElem_mem hi)
   simpa[List.getD,List.getElem?_eq_getElem hi]using this
theorem zh4(bs:List Bool):(List.range bs.length).any (fun i=>bs.getD i false)=bs.any id:=by
 rw[Bool.eq_iff_iff,List.any_eq_true,List.any_eq_true]
 constructor
 · rintro⟨i,hi,h⟩
   have hi:=List.mem_range.mp hi
   exact⟨_,List.getElem_mem hi,by simpa[List.getD,List.getElem?_eq_getElem hi]using h⟩
 · rintro⟨b,hb,h⟩
   obtain⟨i,hi,e⟩:=List.getElem_of_mem hb
   exact⟨i,List.mem_range.mpr hi,by simp[List.getD,List.getElem?_eq_getElem hi,e];exact h⟩
theorem zg5{bs:List Bool}{us:List Value}(r:Vals (bs.map V.bl) us){prog:Program}{w:World}{A:Around}:TruthOf prog w A (fun i v=>us.toArray[i]?=some v) (fun i=>bs.getD i false):=by
 intro i v s Q E hP hQ
 have e:us[i]?=some v:=by simpa using hP
 cases q:bs[i]? with
 | none =>
  have:=r.none_of (i:=i) (by rw[List.getElem?_map,q];rfl)
  rw[this]at e;cases e
 | some b =>
  obtain⟨u,h1,h2⟩:=r.get (i:=i) (x:=V.bl b) (by rw[List.getElem?_map,q];rfl)
  rw[e]at h1
  cases h1
  cases h2
  have hQ':Q b s:=by simpa[List.getD,q]using hQ
  exact wpAny_truthy_bool hQ'
theorem c_all(hc:X.calm=true):z5S X (.builtin "all") bAll:=by
 rintro pins s σ H xs us Q I r ⟨ds,f,d,rs,e,k⟩
 unfold bAll at e
 split at e
 · rename_i ys
   cases q:z5i ys with
   | none=>rw[q]at e;cases e
   | some bs =>
    rw[q]at e
    cases e
    obtain⟨v,rfl,h⟩:=rs.one'
    obtain⟨p,vs,rfl,_,q1,q2⟩:=h.items
    obtain⟨u,rfl,ru⟩:=r.one
    cases ru
    have ev:=z6x q q2
    subst ev
    obtain⟨its,rv,pl,hz⟩:=I.list (SqL.of (K:=X.K) q1)
    have hlen:its.toArray.size=bs.length:=by rw[List.size_toArray,←rv.length,List.length_map]
    refine call_all_walk (wpAny_pyIter_list pl.isList ?_)
    have hne:p≠s.heap.objs.size:=Nat.ne_of_lt (by obtain⟨o,e,_⟩:=pl.isList;exact Heap.lt_size e)
    refine⟨_,_,_,_,_,_,fun i=>bs.getD i false,rfl,Walks.list (A:=X.A.in1) (I.ok.hd hc) s.heap.objs.size p hne its.toArray,⟨⟨_,Heap.get?_push_size _ rfl,rfl,rfl⟩,pl.isList.at fun o e=>Heap.get?_push_of_some _ e⟩,zg5 rv,fun h' tk hk=>?_⟩
    rw[hlen,zh3]
    exact⟨.bl _,H,I.kept fun b o e=>hk b o (by simp;exact Nat.ne_of_lt (Heap.lt_size e)) (Heap.get?_push_of_some _ e),rfl,k _ H (Same.refl H) RpF.b_⟩
 · cases e
theorem c_any(hc:X.calm=true):z5S X (.builtin "any") bAny:=by
 rintro pins s σ H xs us Q I r ⟨ds,f,d,rs,e,k⟩
 unfold bAny at e
 split at e
 · rename_i ys
   cases q:z5i ys with
   | none=>rw[q]at e;cases e
   | some bs =>
    rw[q]at e
    cases e
    obtain⟨v,rfl,h⟩:=rs.one'
    obtain⟨p,vs,rfl,_,q1,q2⟩:=h.items
    obtain⟨u,rfl,ru⟩:=r.one
    cases ru
    have ev:=z6x q q2
    subst ev
    obtain⟨its,rv,pl,hz⟩:=I.list (SqL.of (K:=X.K) q1)
    have hlen:its.toArray.size=bs.length:=by rw[List.size_toArray,←rv.length,List.length_map]
    refine call_any_walk (wpAny_pyIter_list pl.isList ?_)
    have hne:p≠s.heap.objs.size:=Nat.ne_of_lt (by obtain⟨o,e,_⟩:=pl.isList;exact Heap.lt_size e)
    refine⟨_,_,_,_,_,_,fun i=>bs.getD i false,rfl,Walks.list (A:=X.A.in1) (I.ok.hd hc) s.heap.objs.size p hne its.toArray,⟨⟨_,Heap.get?_push_size _ rfl,rfl,rfl⟩,pl.isList.at fun o e=>Heap.get?_push_of_some _ e⟩,zg5 rv,fun h' tk hk=>?_⟩
    rw[hlen,zh4]
    exact⟨.bl _,H,I.kept fun b o e=>hk b o (by simp;exact Nat.ne_of_lt (Heap.lt_size e)) (Heap.get?_push_of_some _ e),rfl,k _ H (Same.refl H) RpF.b_⟩
 · cases e
def tyN:Dt→String
 | .non => "NoneType"
 | .bl _ => "bool"
 | .int _ => "int"
 | .str _ => "str"
 | .lst _ => "list"
 | .scr _ => "list"
 | .tup _ => "tuple"
 | .dic => "dict"
def zbs(t T:String):Bool:=t==T||(t == "bool" && T == "int")
def okT(T:String):Bool:=T == "int" || T == "bool" || T == "str" || T == "list" || T == "tuple" || T == "dict"
theorem zh5{T:String}(h:okT T=true):T = "int" ∨ T = "bool" ∨ T = "str" ∨ T = "list" ∨ T = "tuple" ∨ T = "dict" := by
 unfold okT at h
 simp only[Bool.or_eq_true,beq_iff_eq]at h
 rcases h with((((h|h)|h)|h)|h)|h
 · exact .inl h
 · exact .inr (.inl h)
 · exact .inr (.inr (.inl h))
 · exact .inr (.inr (.inr (.inl h)))
 · exact .inr (.inr (.inr (.inr (.inl h))))
 · exact .inr (.inr (.inr (.inr (.inr h))))
theorem kit_D{K:PySem.W.Frag}{d:Dt}{T:String}(h:okT T=true):PySem.W.kitOne K (.type (tyN d)) (.type T)=some (zbs (tyN d) T):=by
 rcases zh5 h with rfl|rfl|rfl|rfl|rfl|rfl<;>cases d<;>rfl
def fIsi(T:String)(F:FE):FE:=fun ρ=>(F ρ).map fun x=>(.nw,.bl (zbs (tyN x.2) T))
theorem zlR{T:String}(hT:okT T=true):CallR X (.builtin "isinstance") (fun xs H Q=>∃ d v,xs=[v,.ty T]∧Rp X.K emp d H v∧Q (.bl (zbs (tyN d) T)) H):=by
 intro pins s σ H xs us Q I r ⟨d,v,ex,h1,fin⟩
 subst ex
 have e:=kit_D (K:=X.K) (d:=d) hT
 obtain⟨u,u',rfl,r1,r2⟩:=vals2 r
 cases r2
 cases d with
 | non=>rw[Rp.non_.mp h1]at r1;exact z4Q I r1 .non e fun tk=>⟨.bl _,H,I.tok tk,rfl,fin⟩
 | bl b=>rw[Rp.bl_.mp h1]at r1;exact z4Q I r1 (.bl b) e fun tk=>⟨.bl _,H,I.tok tk,rfl,fin⟩
 | int i=>rw[Rp.int_.mp h1]at r1;exact z4Q I r1 (.int i) e fun tk=>⟨.bl _,H,I.tok tk,rfl,fin⟩
 | str x=>rw[Rp.str_.mp h1]at r1;exact z4Q I r1 (.str x) e fun tk=>⟨.bl _,H,I.tok tk,rfl,fin⟩
 | dic =>
  obtain⟨a,rfl,q⟩:=Rp.dic_.mp h1
  cases r1
  exact PySem.W.kia_one PySem.W.kitx_dict I.kIn ⟨_,(I.hok a _ q).1,rfl⟩ e (fun z=>nomatch z) fun tk=>⟨.bl _,H,I.tok tk,rfl,fin⟩
 | lst ys =>
  obtain⟨p,vs,rfl,_,q1,q2⟩:=h1.items
  cases r1
  obtain⟨its,_,pl,_⟩:=I.list (SqL.of (K:=X.K) q1)
  obtain⟨o,ho,hc,_⟩:=pl.isList
  exact PySem.W.kia_one PySem.W.kitx_list I.kIn ⟨o,ho,hc⟩ e (fun z=>nomatch z) fun tk=>⟨.bl _,H,I.tok tk,rfl,fin⟩
 | scr ys =>
  obtain⟨p,rfl,_,q1⟩:=Rp.scr_.mp h1
  cases r1
  obtain⟨its,_,pl,_⟩:=I.list q1
  obtain⟨o,ho,hc,_⟩:=pl.isList
  exact PySem.W.kia_one PySem.W.kitx_list I.kIn ⟨o,ho,hc⟩ e (fun z=>nomatch z) fun tk=>⟨.bl _,H,I.tok tk,rfl,fin⟩
 | tup ys =>
  obtain⟨p,vs,rfl,q1,q2⟩:=Rp.tup_.mp h1
  cases r1
  obtain⟨its,_,pl,_⟩:=I.tuple q1
  obtain⟨o,ho,hc,_⟩:=pl
  exact PySem.W.kia_one PySem.W.kitx_tuple I.kIn ⟨o,ho,hc⟩ e (fun z=>nomatch z) fun tk=>⟨.bl _,H,I.tok tk,rfl,fin⟩
theorem zg6{a:Expr}{Fa:FE}{x:Str}{T:String}{p q pos:Pos}(hT:okT T=true)(hg:Gl X "isinstance")(hm:X.mg "isinstance" = none)(hgT:Gl X x)(hmT:X.mg x=none)(hvT:bootBuiltins x=some (.type T))(ha:PF X a Fa)
  (hn:x ≠ "__name__" := by decide) (hd:(x==("__debug__" : Str))=false:=by decide) (hs1:starEach [.Name x q] X.env=[(false,eval (.Name x q) X.env)]:=by rfl)
  (hs:starEach [a,.Name x q] X.env=(false,eval a X.env)::starEach [.Name x q] X.env:=by rfl):PF X (.Call (.Name "isinstance" p) [a,.Name x q] [] pos) (fIsi T Fa) :=
 (z80 (zlR hT) hg hm boot_isinstance (z2C ha (z2C (pe_ty hgT hmT hvT hn hd) z6w hs1) hs) (by decide) (by decide) hs (by rw[hs1];rfl)).imp fun σ H Q hZ=>hZ.elim fun ρ hZ=>hZ.elim fun f hZ=>hZ.elim fun d hZ=>hZ.elim fun rs hZ=>hZ.elim fun e0 k=>by
  unfold fIsi at e0
  cases h:Fa ρ with
  | none=>rw[h]at e0;cases e0
  | some z =>
   rw[h]at e0
   cases e0
   exact⟨ρ,z.1,z.2,rs,h,fun v H1 s1 r1=>⟨z.2,v,rfl,r1.sh,k _ H1 s1 RpF.b_⟩⟩
abbrev FP:=Rho→Option (Option Int)
def upP(X:Cx)(F:FP):TO:=fun σ H Q=>∃ ρ o,RepS X.ky H ρ σ∧F ρ=some o∧∀ H',Same H H'→Q o H'
def PFP(X:Cx)(e:Option Expr)(F:FP):Prop:=PO X e (upP X F)
def z0I:FP:=fun _=>some none
def intD:Dt→Option Int
 | .int i=>some i
 | _=>none
def z1H(F:FE):FP:=fun ρ=>(F ρ).bind fun x=>(intD x.2).map some
theorem PO.imp{e:Option Expr}{t t':TO}(h:PO X e t)(q:∀ σ H Q,t' σ H Q→t σ H Q):PO X e t':=fun pins s σ H Q I z=>h pins s σ H Q I (q σ H Q z)
theorem z3L:PFP X none z0I:=zlD.imp (by rintro σ H Q ⟨ρ,o,rs,e,k⟩;cases e;exact k H (Same.refl H))
theorem z3M{e:Expr}{F:FE}(h:PF X e F):PFP X (some e) (z1H F):=(zlE h).imp fun σ H Q ⟨ρ,o,rs,e,k⟩=>by
 obtain⟨⟨f,d⟩,e1,e2⟩:=z04 e
 refine⟨ρ,f,d,rs,e1,fun v H1 s1 r1=>?_⟩
 cases d<;>first|cases e2|skip
 rename_i i
 exact⟨i,Rp.int_.mp r1.sh,k H1 s1⟩
def cutD{α:Type}(xs:List α)(lo hi:Option Int):List α:=(xs.drop (HT.sIx xs.length 0 lo)).take (HT.sIx xs.length xs.length hi-HT.sIx xs.length 0 lo)
def fSl(F:FE)(L U:FP):FE:=fun ρ=>(F ρ).bind fun x=>(L ρ).bind fun lo=>(U ρ).bind fun hi=>match x.2 with|.lst ds=>some (newL (cutD ds lo hi))|_=>none
theorem z2D{e:Expr}{F:FE}{lo hi:Option Expr}{L U:FP}{pos p2:Pos}(he:PF X e F)(hl:PFP X lo L)(hu:PFP X hi U):PF X (.Subscript e (.Slice lo hi none p2) pos) (fSl F L U) :=
 (zhS zlG he hl hu).imp fun σ H Q hZ=>hZ.elim fun ρ hZ=>hZ.elim fun f hZ=>hZ.elim fun d hZ=>hZ.elim fun rs hZ=>hZ.elim fun e0 k=>by
  obtain⟨⟨fx,dx⟩,e1,e2⟩:=z04 e0
  obtain⟨l,e3,e4⟩:=z04 e2
  obtain⟨u,e5,e6⟩:=z04 e4
  clear e0 e2 e4
  refine⟨ρ,fx,dx,rs,e1,fun v H1 s1 r1=>⟨ρ,l,rs.mono s1,e3,fun H2 s2=>⟨ρ,u,rs.mono (s1.trans s2),e5,fun H3 s3=>?_⟩⟩⟩
  have ex:∃ ds,dx = .lst ds∧newL (cutD ds l u)=(f,d):=by
   cases dx<;>first|(rename_i ds;exact⟨ds,rfl,Option.some.inj e6⟩)|cases e6
  obtain⟨ds,rfl,e7⟩:=ex
  cases e7
  obtain⟨p,vs,rfl,_,q1,q2⟩:=(Rp.mono _ (s2.trans s3) r1.sh).items
  refine⟨p,vs,rfl,SqL.of q1,fun a ha=>k _ _ ((s1.trans (s2.trans s3)).trans (z0U ha)) ?_⟩
  have h1:Rps X.K emp (cutD ds l u) H3 (cutV vs l u):=by
   unfold cutD cutV
   rw[q2.length]
   exact Rps.take _ (Rps.drop _ q2)
  exact(z5Q ha h1).early (s1.trans (s2.trans s3))
end
end L2

end
section
local macro_rules|`(tactic| omega)=>`(tactic| first|lia|omega +splitDisjunctions)
set_option Elab.async false
set_option linter.all false
set_option maxRecDepth 100000
namespace L2
open PySem PySem.Spec PyProof.Rows
def Walk(K:PySem.W.Frag)(J:It)(items:List Dt)(H1:Hp):Prop:=∀(A:List Addr) (H:Hp),Same H1 (hidL A H)→(∀ a∈A,∃ o,H a=some o) →
 (∀(i:Nat) (d:Dt),items[i]?=some d→J.go i H∧∀ x H',J.yld i H x H'→Same (hidL A H) (hidL A H')∧(∀ a∈A,H' a=H a)∧Rp K emp d (hidL A H') x)∧∀ i,items.length≤i→J.stop i H
abbrev FI:=Rho→Option (List Dt)
def upIK(Y:Ky)(F:FI):TI:=fun σ H R=>∃ ρ items,RepS Y H ρ σ∧F ρ=some items∧∀ J H',Same H H'→items.length≤sizeLine→Walk Y.K J items H'→R J H'
abbrev upI(X:Cx)(F:FI):TI:=upIK X.ky F
def PFI(X:Cx)(tg e:Expr)(F:FI):Prop:=PI X tg e (upI X F)
theorem PI.imp{X:Cx}{tg e:Expr}{t t':TI}(h:PI X tg e t)(q:∀ σ H Q,t' σ H Q→t σ H Q):PI X tg e t':=fun pins s σ H Q I z=>h pins s σ H Q I (q σ H Q z)
section
variable {X:Cx}{tg a b e:Expr}{Fa Fb Fe:FE}{pos:Pos}
theorem zh6{K:PySem.W.Frag}{p:Addr}{ds:List Dt}{vs:List V}{H1:Hp}(h1:SqL K H1 p vs)(h2:Rps K emp ds H1 vs):Walk K (Itl K p) ds H1:=by
 intro A H sm hA
 have s2:Same H1 H:=sm.trans z0t
 refine⟨fun i d e=>?_,fun i hi=>⟨vs,s2.seq h1,by rw[h2.length];exact hi⟩⟩
 obtain⟨v,e1,e2⟩:=h2.get e
 refine⟨⟨vs,v,s2.seq h1,e1⟩,?_⟩
 rintro x H' ⟨z,y⟩
 subst z
 have hx:=y vs (s2.seq h1)
 rw[e1]at hx
 cases hx
 exact⟨Same.refl _,fun _ _=>rfl,Rp.mono _ sm e2⟩
theorem zic{K:PySem.W.Frag}{p:Addr}{ds:List Dt}{vs:List V}{H1:Hp}(h1:SqT K H1 p vs)(h2:Rps K emp ds H1 vs):Walk K (Itt K p) ds H1:=by
 intro A H sm hA
 have s2:Same H1 H:=sm.trans z0t
 refine⟨fun i d e=>?_,fun i hi=>⟨vs,s2.seqT h1,by rw[h2.length];exact hi⟩⟩
 obtain⟨v,e1,e2⟩:=h2.get e
 refine⟨⟨vs,v,s2.seqT h1,e1⟩,?_⟩
 rintro x H' ⟨z,y⟩
 subst z
 have hx:=y vs (s2.seqT h1)
 rw[e1]at hx
 cases hx
 exact⟨Same.refl _,fun _ _=>rfl,Rp.mono _ sm e2⟩
def z2a(lo:Int)(n:Nat):List Dt:=(List.range n).map fun(k:Nat) => .int (lo+(k:Int))
theorem z5q{K:PySem.W.Frag}{lo:Int}{n:Nat}{H1:Hp}:Walk K (Itr lo n) (z2a lo n) H1:=by
 intro A H sm hA
 refine⟨fun i d e=>?_,fun i hi=>by unfold z2a at hi;rw[List.length_map,List.length_range]at hi;exact hi⟩
 unfold z2a at e
 rw[List.getElem?_map]at e
 have hi:i<n:=by
  by_cases hi:i<n
  · exact hi
  · rw[List.getElem?_eq_none (by simp;omega)]at e;cases e
 rw[List.getElem?_range hi]at e
 cases e
 refine⟨hi,fun x H' hZ=>hZ.elim fun z y=>?_⟩
 subst z;subst y
 exact⟨Same.refl _,fun _ _=>rfl,Rp.int_.mpr rfl⟩
def seqD:Dt→Option (List Dt)
 | .lst ds=>some ds
 | .tup ds=>some ds
 | _=>none
def iSeq(F:FE):FI:=fun ρ=>(F ρ).bind fun x=>seqD x.2
theorem z1I(ha:PF X a Fa):PFI X tg a (iSeq Fa):=by
 intro pins s σ H R I ⟨ρ,items,rs,e0,k⟩
 obtain⟨⟨f,d⟩,e1,e2⟩:=z04 e0
 refine thn (ha pins s σ H (fun x H1=>Same H H1∧Rp X.K emp d H1 x) I ⟨ρ,f,d,rs,e1,fun v H1 s1 r1=>⟨s1,r1.sh⟩⟩) fun v s1 hZ=>hZ.elim fun x hZ=>hZ.elim fun H1 hZ=>hZ.elim fun I1 hZ=>hZ.elim fun r1 hZ=>hZ.elim fun sm rd=>?_
 cases d<;>first|cases e2|skip
 · rename_i ds
   obtain⟨p,vs,rfl,_,h1,h2⟩:=rd.items
   cases r1
   obtain⟨its,rv,pl,hz⟩:=I1.list (SqL.of (K:=X.K) h1)
   refine wpAny_pyIter_list pl.isList ?_
   refine⟨s1.heap.objs.size,[s1.heap.objs.size],_,_,H1,rfl,I1.kept (t':=s1.toks) fun b o e=>Heap.get?_push_of_some _ e,zgV p _,⟨_,Heap.get?_push_size _ rfl,rfl,rfl⟩,fun b hb=>?_,k _ H1 sm (by rw[←h2.length];exact hz) (zh6 (SqL.of h1) h2)⟩
   have e:b=s1.heap.objs.size:=by simpa using hb
   subst e
   exact I1.fpOk (Nat.le_refl _) (I1.hok.fresh (Nat.le_refl _))
 · rename_i ds
   obtain⟨p,vs,rfl,h1,h2⟩:=Rp.tup_.mp rd
   cases r1
   obtain⟨its,rv,pl,hz⟩:=I1.tuple h1
   refine wpAny_pyIter_tuple (show s1.heap.IsTuple p its.toArray from pl) ?_
   refine⟨s1.heap.objs.size,[s1.heap.objs.size],_,_,H1,rfl,I1.kept (t':=s1.toks) fun b o e=>Heap.get?_push_of_some _ e,zcx p _,⟨_,Heap.get?_push_size _ rfl,rfl,rfl⟩,fun b hb=>?_,k _ H1 sm (by rw[←h2.length];exact hz) (zic h1 h2)⟩
   have e:b=s1.heap.objs.size:=by simpa using hb
   subst e
   exact I1.fpOk (Nat.le_refl _) (I1.hok.fresh (Nat.le_refl _))
def z2S(i:Int):Bool:=decide (-1000000≤i)&&decide (i≤1000000)
theorem zaF{i:Int}(h:z2S i=true): -1000000≤i∧i≤1000000:=by
 unfold z2S at h
 rw[Bool.and_eq_true]at h
 exact⟨of_decide_eq_true h.1,of_decide_eq_true h.2⟩
def z0D(F:FE):FI:=fun ρ=>(F ρ).bind fun x=>(intD x.2).bind fun j=>if z2S j then some (z2a 0 j.toNat) else none
theorem z5r{lo:Int}{n:Nat}:(z2a lo n).length=n:=by unfold z2a;simp
theorem z4U{d:Dt}{i:Int}(h:intD d=some i):d = .int i:=by
 cases d<;>first|cases h|skip
 rfl
theorem z3q{p:Pos}(hg:Gl X "range")(hm:X.mg "range" = none)(ha:PF X a Fa)(hs:starEach [a] X.env=[(false,eval a X.env)]:=by rfl):PFI X tg (.Call (.Name "range" p) [a] [] pos) (z0D Fa) :=
 (z9p hg hm (z2C ha z6w hs) hs).imp fun σ H R hZ=>hZ.elim fun ρ hZ=>hZ.elim fun items hZ=>hZ.elim fun rs hZ=>hZ.elim fun e0 k=>by
  obtain⟨⟨f,d⟩,e1,e2⟩:=z04 e0
  obtain⟨j,e3,e4⟩:=z04 e2
  clear e0 e2
  have ed:=z4U e3
  cases (show d = .int j from ed)
  split at e4
  · rename_i hr
    cases e4
    obtain⟨h1,h2⟩:=zaF hr
    refine⟨ρ,f,_,rs,e1,fun v H1 s1 r1=>⟨j,by rw[Rp.int_.mp r1.sh],by omega,by omega,k _ H1 s1 ?_ z5q⟩⟩
    rw[z5r]
    have:sizeLine=16777216:=rfl
    omega
  · cases e4
def z7F(F G:FE):FI:=fun ρ=>(F ρ).bind fun x=>(G ρ).bind fun y=>(intD x.2).bind fun i=>(intD y.2).bind fun j=>if z2S i&&z2S j then some (z2a i (j-i).toNat) else none
end
inductive Tg where
 | one (i:Nat)|many (is:List Nat)
def z1Z:List Nat→TGs
 | []=>gNil
 | i::is=>gCons (z7X i) (z1Z is)
def Tg.low(K:PySem.W.Frag):Tg→TG
 | .one i=>z7X i
 | .many is=>gTup K is.length (z1Z is)
def z2b:Rho→List Nat→List Dt→Rho
 | ρ,i::is,d::ds=>z2b (ρ.set i (.sh false d)) is ds
 | ρ,_,_=>ρ
def Tg.put:Tg→Dt→Rho→Option Rho
 | .one i,d,ρ=>some (ρ.set i (.sh false d))
 | .many is,.tup ds,ρ=>if ds.length=is.length then some (z2b ρ is ds) else none
 | .many _,_,_=>none
def Tg.below(nt:Nat):Tg→Prop
 | .one i=>i<nt
 | .many is=>∀ i∈is,i<nt
def KeepS(nt:Nat)(σ σ':St):Prop:=σ'.length=σ.length∧∀ i,nt≤i→σ'[i]?=σ[i]?
theorem KeepS.refl{nt:Nat}{σ:St}:KeepS nt σ σ:=⟨rfl,fun _ _=>rfl⟩
theorem KeepS.set{nt i:Nat}{σ:St}{v:V}(h:i<nt):KeepS nt σ (σ.set i (some v)):=⟨List.length_set,fun j hj=>List.getElem?_set_ne (by omega)⟩
theorem KeepS.trans{nt:Nat}{a b c:St}(h:KeepS nt a b)(k:KeepS nt b c):KeepS nt a c:=⟨k.1.trans h.1,fun i hi=>(k.2 i hi).trans (h.2 i hi)⟩
theorem z7e:∀{is:List Nat} {vs:List V} {σ:St} {H:Hp} {Q Q':St→Hp→Prop},z1Z is vs σ H Q→(∀ σ H,Q σ H→Q' σ H)→z1Z is vs σ H Q':=by
 intro is
 induction is with
 | nil=>intro vs σ H Q Q' ⟨e,q⟩ k;exact⟨e,k _ _ q⟩
 | cons j js ih=>intro vs σ H Q Q' ⟨v,r,e,q⟩ k;exact⟨v,r,e,ih q k⟩
theorem z9C{nt:Nat}:∀{is:List Nat} {vs:List V} {σ:St} {H:Hp} {Q:St→Hp→Prop},(∀ i∈is,i<nt)→z1Z is vs σ H Q→z1Z is vs σ H fun σ2 H2=>KeepS nt σ σ2∧Q σ2 H2
 | [],vs,σ,H,Q,_,⟨e,q⟩=>⟨e,KeepS.refl,q⟩
 | i::is,vs,σ,H,Q,hi,⟨v,r,e,q⟩=>by
  refine⟨v,r,e,?_⟩
  have q:z1Z is r (σ.set i (some v)) H Q:=q
  have z:=z9C (nt:=nt) (fun j hj=>hi j (List.mem_cons_of_mem _ hj)) q
  show z1Z is r (σ.set i (some v)) H _
  exact z7e z fun σ2 H2 hZ=>hZ.elim fun k1 k2=>⟨(KeepS.set (hi i List.mem_cons_self)).trans k1,k2⟩
theorem Tg.ok{K:PySem.W.Frag}{nt:Nat}{g:Tg}(h:g.below nt):TgOk nt (g.low K):=by
 intro x σ H Q q
 cases g with
 | one i=>exact⟨KeepS.set h,q⟩
 | many is =>
  obtain⟨a,xs,e,hq,hl,q⟩:=q
  exact⟨a,xs,e,hq,hl,z9C h q⟩
theorem Tg.low_mono{K:PySem.W.Frag}{g:Tg}{v:V}{σ:St}{H:Hp}{Q Q':St→Hp→Prop}(h:g.low K v σ H Q)(k:∀ σ H,Q σ H→Q' σ H):g.low K v σ H Q':=by
 cases g with
 | one i=>exact k _ _ h
 | many is =>
  obtain⟨a,xs,e,hq,hl,q⟩:=h
  exact⟨a,xs,e,hq,hl,z7e q k⟩
section
variable {Y:Ky}{H H':Hp}{ρ:Rho}{σ:St}
theorem RepS.set(h:RepS Y H ρ σ){i:Nat}{f:Bool}{d:Dt}{v:V}(r:Rp Y.K (bsOf Y f) d H v):RepS Y H (ρ.set i (.sh f d)) (σ.set i (some v)):=by
 refine⟨by rw[List.length_set,List.length_set];exact h.len,h.base,fun j c q=>?_⟩
 by_cases e:i=j
 · subst e
   rw[List.getElem?_set]at q ⊢
   rw[if_pos rfl]at q ⊢
   split at q
   · rename_i hl
     cases q
     rw[if_pos (by rw[←h.len];exact hl)]
     exact⟨_,rfl,v,rfl,r⟩
   · cases q
 · rw[List.getElem?_set_ne e]at q ⊢
   exact h.at_ j c q
theorem z89{Hh:Hp}{ρ':Rho}:∀{is:List Nat} {ds:List Dt} {vs:List V} {ρ:Rho} {σ:St},RepS Y Hh ρ σ→Rps Y.K emp ds Hh vs→ds.length=is.length→z2b ρ is ds=ρ' →
  z1Z is vs σ H fun σ' H'=>H'=H∧RepS Y Hh ρ' σ'
 | [],[],vs,ρ,σ,rs,r,hl,q=>⟨Rps.nil_.mp r,rfl,by rw[←q];exact rs⟩
 | [],d::ds,vs,ρ,σ,rs,r,hl,q=>by cases hl
 | i::is,[],vs,ρ,σ,rs,r,hl,q=>by cases hl
 | i::is,d::ds,vs,ρ,σ,rs,r,hl,q=>by
  obtain⟨v,r',rfl,h1,h2⟩:=Rps.cons_.mp r
  exact⟨v,r',rfl,z89 (rs.set (f:=false) h1) h2 (by simpa using hl) q⟩
theorem Tg.sim{Hh:Hp}{g:Tg}{d:Dt}{v:V}{ρ':Rho}(sm:Same Hh H)(rs:RepS Y Hh ρ σ)(r:Rp Y.K emp d Hh v)(h:g.put d ρ=some ρ'):
  g.low Y.K v σ H fun σ' H'=>H'=H∧RepS Y Hh ρ' σ':=by
 cases g with
 | one i=>cases h;exact⟨rfl,rs.set (f:=false) r⟩
 | many is =>
  cases d<;>first|cases h|skip
  rename_i ds
  replace h:(if ds.length=is.length then some (z2b ρ is ds) else none)=some ρ':=h
  split at h
  · rename_i hl
    obtain⟨a,vs,rfl,h1,h2⟩:=Rp.tup_.mp r
    exact⟨a,vs,rfl,sm.seqT h1,by rw[h2.length];exact hl,z89 rs h2 hl (Option.some.inj h)⟩
  · cases h
end
section
variable {X:Cx}{pos:Pos}
theorem z13{i:Nat}{x:Str}(hN:X.N.Nodup)(hi:X.N[i]?=some x)(hx:Loc X.env.scope x)(hf:X.fn x=true∨X.env.scope.names.lookup x=some .local):PG X (.Name x pos) ((Tg.one i).low X.K):=z0B hN hi hx hf
theorem z2T:PGs X [] (z1Z []):=zlx
theorem z0J{e:Expr}{es:List Expr}{i:Nat}{is:List Nat}(h1:PG X e (z7X i))(h2:PGs X es (z1Z is))(hs:(assignEach (e::es) X.env).map (·.2)=assign e X.env::(assignEach es X.env).map (·.2):=by rfl):PGs X (e::es) (z1Z (i::is)):=zhK h1 h2 hs
theorem z2U{es:List Expr}{k:Nat}{is:List Nat}(hc:X.calm=true)(h:PGs X es (z1Z is))(hn:(assignEach es X.env).length=is.length:=by rfl)(hst:(assignEach es X.env).findIdx? (·.1)=none:=by rfl):PG X (.Tuple es k pos) ((Tg.many is).low X.K):=pg_tup hc h hn hst
end
def z4e(g:Tg)(Fc:FT)(Fe:FE)(ρ0:Rho):List Dt→Option (List Dv)
 | []=>some []
 | x::xs=>(g.put x ρ0).bind fun ρ1=>(Fc ρ1).bind fun b=>if b then(Fe ρ1).bind fun v=>(z4e g Fc Fe ρ0 xs).bind fun r=>some (v::r) else z4e g Fc Fe ρ0 xs
def z5T:Cell→Cell
 | .no => .no
 | .ex => .no
 | .sh _ d => .sh false d
 | .ow _ ds => .sh false (.lst ds)
def sigD(nt:Nat)(js:List Nat)(ρ:Rho):Rho:=List.replicate nt Cell.no++js.map fun j=>match ρ[j]? with|some c=>z5T c|none => .no
def z0d(nt:Nat)(js:List Nat)(Fi:FI)(g:Tg)(Fc:FT)(Fe:FE):FE:=fun ρ=>(Fi ρ).bind fun items=>(z4e g Fc Fe (sigD nt js ρ) items).bind fun vs=>some (if z2z vs then .nw else .tn,.lst (sndL vs))
theorem z6y{g:Tg}{Fc:FT}{Fe:FE}{ρ0:Rho}:∀{xs:List Dt} {vs:List Dv},z4e g Fc Fe ρ0 xs=some vs→vs.length≤xs.length
 | [],vs,h=>by cases h;exact Nat.le_refl _
 | x::xs,vs,h=>by
  unfold z4e at h
  obtain⟨ρ1,_,h⟩:=z04 h
  obtain⟨b,_,h⟩:=z04 h
  split at h
  · obtain⟨v,_,h⟩:=z04 h
    obtain⟨r,h1,h⟩:=z04 h
    cases h
    have:=z6y h1
    rw[List.length_cons,List.length_cons];omega
  · have:=z6y h
    rw[List.length_cons];omega
def PFTs(X:Cx)(ifs:List Expr)(F:FT):Prop:=PTs X ifs (upB X F)
def fYes:FT:=fun _=>some true
theorem z0H{X:Cx}:PFTs X [] fYes:=fun pins s σ H Q I hZ=>hZ.elim fun ρ hZ=>hZ.elim fun b hZ=>hZ.elim fun rs hZ=>hZ.elim fun e k=>by cases e;exact zlJ pins s σ H Q I (k H (Same.refl H))
theorem zid{X:Cx}{c:Expr}{F:FT}(h:PFT X c F):PFTs X [c] F:=zlK h
theorem RpC.shS{Y:Ky}{H H1:Hp}{c:Cell}{o:Option V}(h:RpC Y H c o):RpC ⟨Y.K,H1⟩ H (z5T c) o:=by
 cases c with
 | no=>trivial
 | ex=>trivial
 | sh f d=>obtain⟨v,q,r⟩:=h;exact⟨v,q,Rp.anti Same.emp d r⟩
 | ow f ds=>obtain⟨v,q,r⟩:=h;exact⟨v,q,Rp.anti Same.emp _ r⟩
theorem RepS.sigs{Y:Ky}{H H1:Hp}{ρ:Rho}{σ:St}{nt:Nat}{js:List Nat}(h:RepS Y H ρ σ)(hj:∀ j∈js,j<σ.length)(h1:Same H1 H):RepS ⟨Y.K,H1⟩ H (sigD nt js ρ) (sig nt js σ):=by
 unfold sigD sig
 refine⟨by simp,h1,fun i c q=>?_⟩
 by_cases hi:i<nt
 · rw[List.getElem?_append_left (by simpa using hi),List.getElem?_replicate,if_pos hi]at q
   cases q
   exact⟨none,by rw[List.getElem?_append_left (by simpa using hi),List.getElem?_replicate,if_pos hi],trivial⟩
 · rw[List.getElem?_append_right (by simp;omega),List.length_replicate,List.getElem?_map]at q
   rw[List.getElem?_append_right (by simp;omega),List.length_replicate,List.getElem?_map]
   cases ej:js[i-nt]? with
   | none=>rw[ej]at q;cases q
   | some j =>
    rw[ej]at q
    have hlt:=hj j (List.mem_of_getElem? ej)
    have hlt':j<ρ.length:=by rw[h.len];exact hlt
    rw[Option.map_some,List.getElem?_eq_getElem hlt']at q
    cases q
    obtain⟨o,e1,e2⟩:=h.at_ j _ (List.getElem?_eq_getElem hlt')
    refine⟨o,?_,e2.shS⟩
    rw[Option.map_some,e1];rfl
def frE(t:Hp→TE)(H1:Hp):TE:=fun σ H Q=>∃ A:List Addr,(∀ a∈A,(∃ vs,H a=some (.lst vs))∧H1 a=none)∧t H1 σ (hidL A H) fun v H'=>(∀ a∈A,H' a=none)→Q v (z18 A H H')
def frT(t:Hp→TT)(H1:Hp):TT:=fun σ H Q=>∃ A:List Addr,(∀ a∈A,(∃ vs,H a=some (.lst vs))∧H1 a=none)∧t H1 σ (hidL A H) fun v H'=>(∀ a∈A,H' a=none)→Q v (z18 A H H')
theorem PTs.frame{Y:Cx}{ifs:List Expr}{t:Hp→TT}(h:PTs Y ifs (t Y.H₀)):PTs Y ifs (frT t Y.H₀):=by
 intro pins s σ H Q I ⟨A,hA,z⟩
 refine thn (h _ s σ _ _ (I.hide hA) z) ?_
 rintro u s' ⟨H',J,q⟩
 obtain⟨hn,J'⟩:=I.unhide hA J
 exact⟨_,J',q hn⟩
theorem zaG{D:Addr}{H:Hp}{o:HO}:hidL [D] (upd H D o)=hidL [D] H:=funext fun b=>by
 by_cases q:b=D
 · subst q;rw[z2k (by simp),z2k (by simp)]
 · rw[z0k (by simpa using q),z0k (by simpa using q),z0m q]
theorem zie{D:Addr}{H:Hp}(h:H D=none):hidL [D] H=H:=funext fun b=>by
 by_cases q:b=D
 · subst q;rw[z2k (by simp),h]
 · rw[z0k (by simpa using q)]
section
variable {X:Cx}{N:List Str}{scope:Scope}{nt:Nat}{js:List Nat}{tg elt iter:Expr}{ifs:List Expr}{Fi:FI}{g:Tg}{Fc:FT}{Fe:FE}{pos:Pos}
theorem RpFs.append{Y:Ky}{H H':Hp}:∀{xs ys:List Dv} {vs ws:List V},RpFs Y H xs H' vs→RpFs Y H ys H' ws→RpFs Y H (xs++ys) H' (vs++ws)
 | [],ys,vs,ws,h,h'=>by rw[show vs=[]from h];exact h'
 | x::xs,ys,vs,ws,⟨v,r,e,h1,h2⟩,h'=>⟨v,r++ws,by rw[e];rfl,h1,RpFs.append h2 h'⟩
def RpE(Y:Ky)(x:Dv)(H':Hp)(v:V):Prop:=if x.1.isFr then Rp Y.K Y.H₀ x.2 H' v else Rp Y.K emp x.2 H' v
def RpEs(Y:Ky):List Dv→Hp→List V→Prop
 | [],_,vs=>vs=[]
 | x::xs,H',vs=>∃ v r,vs=v::r∧RpE Y x H' v∧RpEs Y xs H' r
theorem RpE.of{Y:Ky}{H H':Hp}{x:Dv}{v:V}(h0:Same Y.H₀ H)(h:RpF Y H x.1 x.2 H' v):RpE Y x H' v:=by
 unfold RpE
 by_cases q:x.1.isFr=true
 · rw[if_pos q];exact h.fr h0 q
 · rw[if_neg q];exact h.sh
theorem RpE.mono{Y:Ky}{H H':Hp}{x:Dv}{v:V}(h:RpE Y x H v)(s:Same H H'):RpE Y x H' v:=by
 unfold RpE at h ⊢
 by_cases q:x.1.isFr=true
 · rw[if_pos q]at h ⊢;exact Rp.mono _ s h
 · rw[if_neg q]at h ⊢;exact Rp.mono _ s h
theorem RpEs.mono{Y:Ky}{H H':Hp}(s:Same H H'):∀{xs:List Dv} {vs:List V},RpEs Y xs H vs→RpEs Y xs H' vs
 | [],vs,h=>h
 | x::xs,vs,⟨v,r,e,h1,h2⟩=>⟨v,r,e,h1.mono s,RpEs.mono s h2⟩
theorem RpEs.append{Y:Ky}{H':Hp}:∀{xs ys:List Dv} {vs ws:List V},RpEs Y xs H' vs→RpEs Y ys H' ws→RpEs Y (xs++ys) H' (vs++ws)
 | [],ys,vs,ws,h,h'=>by rw[show vs=[]from h];exact h'
 | x::xs,ys,vs,ws,⟨v,r,e,h1,h2⟩,h'=>⟨v,r++ws,by rw[e];rfl,h1,RpEs.append h2 h'⟩
theorem RpEs.length{Y:Ky}{H':Hp}:∀{xs:List Dv} {vs:List V},RpEs Y xs H' vs→vs.length=xs.length
 | [],vs,h=>by rw[show vs=[]from h];rfl
 | x::xs,vs,⟨v,r,e,_,h2⟩=>by rw[e,List.length_cons,List.length_cons,RpEs.length h2]
theorem RpEs.sh{Y:Ky}{H':Hp}:∀{xs:List Dv} {vs:List V},RpEs Y xs H' vs→Rps Y.K emp (sndL xs) H' vs
 | [],vs,h=>Rps.nil_.mpr h
 | x::xs,vs,⟨v,r,e,h1,h2⟩=>by
  refine Rps.cons_.mpr ⟨v,r,e,?_,RpEs.sh h2⟩
  unfold RpE at h1
  split at h1
  · exact Rp.anti Same.emp _ h1
  · exact h1
theorem RpEs.fr{Y:Ky}{H':Hp}:∀{xs:List Dv} {vs:List V},z2z xs=true→RpEs Y xs H' vs→Rps Y.K Y.H₀ (sndL xs) H' vs
 | [],vs,_,h=>Rps.nil_.mpr h
 | x::xs,vs,q,⟨v,r,e,h1,h2⟩=>by
  unfold z2z at q
  rw[Bool.and_eq_true]at q
  refine Rps.cons_.mpr ⟨v,r,e,?_,RpEs.fr q.2 h2⟩
  unfold RpE at h1
  rw[if_pos q.1]at h1
  exact h1
theorem zg7{σ:St}{H:Hp}{Q:VK}(hj:∀ j∈js,j<σ.length)(h:upF X (z0d nt js Fi g Fc Fe) σ H Q):
   zfZ nt js (upI X Fi) (g.low X.K) (frT fun H1=>upBK ⟨X.K,H1⟩ Fc) (frE fun H1=>upK ⟨X.K,H1⟩ Fe) σ H Q:=by
 obtain⟨ρ,f,d,rs,e0,k⟩:=h
 obtain⟨items,ei,e1⟩:=z04 e0
 obtain⟨vs0,ec,e2⟩:=z04 e1
 cases e2
 clear e0 e1
 refine⟨ρ,items,rs,ei,fun J H1 sm hsz wk D hD=>?_⟩
 have nD:H D=none:=sm.free hD
 refine⟨fun i m ys H2=>m=items.length-i∧H2 D=some (.lst ys)∧Same H1 (hidL [D] H2)∧∃ ds rest,RpEs ⟨X.K,H1⟩ ds (hidL [D] H2) ys∧z4e g Fc Fe (sigD nt js ρ) (items.drop i)=some rest∧ds++rest=vs0,⟨_,rfl,z0A,?_,[],vs0,rfl,ec,rfl⟩,?_⟩
 · rw[zaG,zie hD];exact Same.refl _
 rintro i m ys H2 ⟨rfl,e2,s2,ds,rest,r2,c2,es⟩
 obtain⟨w1,w2⟩:=wk [D] H2 s2 (fun a ha=>by rw[List.mem_singleton.mp ha];exact⟨_,e2⟩)
 by_cases hlt:i<items.length
 · obtain⟨x,hx⟩:∃ x,items[i]?=some x:=⟨_,List.getElem?_eq_getElem hlt⟩
   have hdrop:items.drop i=x::items.drop (i+1):=by
     rw[List.drop_eq_getElem_cons hlt]
     rw[List.getElem?_eq_getElem hlt]at hx
     cases hx;rfl
   rw[hdrop]at c2
   unfold z4e at c2
   obtain⟨ρ1,p1,c3⟩:=z04 c2
   obtain⟨b,p2,c4⟩:=z04 c3
   obtain⟨go,yl⟩:=w1 i x hx
   refine .inr ⟨go,fun xv H3 y3=>?_⟩
   obtain⟨s3,k3,r3⟩:=yl xv H3 y3
   have e3:H3 D=some (.lst ys):=by rw[k3 D (by simp)];exact e2
   have s13:Same H1 (hidL [D] H3):=s2.trans s3
   refine Tg.low_mono (Tg.sim (Y:=⟨X.K,H1⟩) (Hh:=hidL [D] H3) z0t ((rs.mono (sm.trans s13)).sigs hj s13) r3 p1) ?_
   rintro σ4 H4 ⟨eH,rs4⟩
   subst eH
   have own:∀{H':Hp},H' D=some (.lst ys)→∀ a∈[D],(∃ vs,H' a=some (.lst vs))∧H1 a=none:=fun{H'} z a ha=>by
     rw[List.mem_singleton.mp ha]
     exact⟨⟨ys,z⟩,hD⟩
   refine⟨[D],own e3,ρ1,b,rs4,p2,fun H5 s5 n5=>?_⟩
   have h5:hidL [D] (z18 [D] H4 H5)=H5:=z2Q n5
   have e5:z18 [D] H4 H5 D=some (.lst ys):=by rw[z4R (by simp)];exact e3
   have m5:items.length-(i+1)<items.length-i:=by omega
   dsimp only
   cases b with
   | true =>
     rw[if_pos rfl]at c4 ⊢
     obtain⟨⟨fv,dv⟩,p3,c5⟩:=z04 c4
     obtain⟨rest',p4,c6⟩:=z04 c5
     cases c6
     have rs5:RepS ⟨X.K,H1⟩ H5 ρ1 σ4:=rs4.mono s5
     refine⟨[D],own e5,ρ1,fv,dv,by rw[h5];exact rs5,p3,fun v H6 s6 r6 n6=>?_⟩
     rw[h5]at s6 r6
     have h6:hidL [D] (z18 [D] (z18 [D] H4 H5) H6)=H6:=z2Q n6
     have r2':RpEs ⟨X.K,H1⟩ ds H6 ys:=r2.mono (s3.trans (s5.trans s6))
     have hlen:ys.length<sizeLine:=by
       have a1:=z6y ec
       have a2:=r2.length
       rw[←es,List.length_append,List.length_cons]at a1
       omega
     refine⟨by rw[z4R (by simp)];exact e5,hlen,_,m5,rfl,z0A,?_,ds++[(fv,dv)],rest',?_,p4,by rw[List.append_assoc];exact es⟩
     · rw[zaG,h6];exact s13.trans (s5.trans s6)
     · rw[zaG,h6];exact r2'.append ⟨v,[],rfl,RpE.of rs5.base r6,rfl⟩
   | false =>
     rw[if_neg Bool.false_ne_true]at c4 ⊢
     refine⟨_,m5,rfl,e5,?_,ds,rest,?_,c4,es⟩
     · rw[h5];exact s13.trans s5
     · rw[h5];exact r2.mono (s3.trans s5)
 · have hd:items.drop i=[]:=List.drop_of_length_le (by omega)
   rw[hd]at c2
   cases c2
   rw[List.append_nil]at es
   subst es
   refine .inl ⟨w2 i (by omega),k _ H2 (sm.trans (s2.trans z0t)) ?_⟩
   by_cases q:z2z ds=true
   · rw[if_pos q]
     exact(Rp.lst_ (K:=X.K) (B:=H)).mpr ⟨D,ys,rfl,nD,e2,Rps.anti (show Same H H1 from sm) _ (r2.fr q)⟩
   · rw[if_neg q]
     exact⟨Rp.lst_.mpr ⟨D,ys,rfl,rfl,e2,r2.sh⟩,⟨_,rfl⟩,fun a e=>by cases e;exact nD⟩
theorem z0O(S:CompScope X N scope nt js)(hc:X.calm=true)(hi:PFI X tg iter Fi)(hg:∀ cl C fp s H,PG (z0T X N scope cl C fp s H) tg (g.low X.K))(hb:g.below nt)
  (hcs:∀ cl C fp s H,PFTs (z0T X N scope cl C fp s H) ifs Fc) (he:∀ cl C fp s H,PF (z0T X N scope cl C fp s H) elt Fe) (hj:∀ j∈js,j<X.N.length)
  (hs:∀ x,foldedSetIterable iter X.env x=pure x:=by intro _;rfl):PF X (.ListComp elt [⟨tg,iter,ifs,0⟩] scope pos) (z0d nt js Fi g Fc Fe):=by
 intro pins s σ H Q I h
 exact zlL S hc hi hg (Tg.ok hb) (fun cl C fp s H=>PTs.frame (t:=fun H1=>upBK ⟨X.K,H1⟩ Fc) (hcs cl C fp s H)) (fun cl C fp s H=>PE.frame (he cl C fp s H)) hs pins s σ H Q I (zg7 (fun j z=>by rw[I.len];exact hj j z) h)
end
end L2

end
section
set_option Elab.async false
set_option linter.all false
set_option maxRecDepth 100000
namespace L2
open PySem PySem.Spec PySem.W PyProof.Rows
def Fly(h0:Heap)(H:Hp)(e C:Addr)(h:Heap):Prop :=
 h0.get? e=none∧H e=none∧∃ oe vs T oT ts a0,h.get? e=some oe∧oe.cls = .ref C∧vs[0]?=some a0∧oe.data = .fields vs∧vs[1]?=some (.ref T)∧h0.get? T=none∧H T=none∧T≠e∧h.get? T=some oT∧oT.data = .fields ts∧ts[3]?=some .none
theorem zg8{l:List Env}{env:Env}{a:Addr}(h:env∈l)(e:env.frame=some a):a∈frs l:=List.mem_filterMap.mpr ⟨env,h,e⟩
theorem UpToSlots.trans{h h1 h2:Heap}(a:h.UpToSlots h1)(b:h1.UpToSlots h2):h.UpToSlots h2:=fun c o e n=>by
 obtain⟨sl,e1⟩:=a c o e n
 obtain⟨sl2,e2⟩:=b c _ e1 n
 exact⟨sl2,e2⟩
section
variable {P:Program}{w:World}{fs ex:List Addr}{H0 H:Hp}{h0 h h':Heap}{l:List Env}{bas:Heap}{e C:Addr}
theorem zif(u:Un fs ex H0 H h0 h)(k:∀ b o o',h0.get? b=some o→h.get? b=some o'→b ∉ frs l→h'.get? b=some o')(sl:∀ b∈frs l,∀ o,h.get? b=some o→∃ z,h'.get? b=some { o with slots:=z })
  (hf:∀ b∈frs l,b∈fs∨h0.get? b=none):Un fs ex H0 H h0 h' where
 keep:=fun b o q n hb hx=>k b o o q (u.keep b o q n hb hx) fun z=>(hf b z).elim hb fun e=>by rw[e]at q;cases q
 slot:=fun b o q n hb hx=>by
  obtain⟨z,e⟩:=u.slot b o q n hb hx
  by_cases m:b∈frs l
  · obtain⟨z',e'⟩:=sl b m _ e
    exact⟨z',e'⟩
  · exact⟨z,k b o _ q e m⟩
 free:=u.free
 there:=fun b o q hx=>by
  obtain⟨o',e⟩:=u.there b o q hx
  by_cases m:b∈frs l
  · obtain⟨z',e'⟩:=sl b m _ e
    exact⟨_,e'⟩
  · exact⟨_,k b o _ q e m⟩
 tups:=u.tups
 frzs:=u.frzs
 tbls:=u.tbls
theorem ObjOk.obj{a:Addr}{o:HO}(x:ObjOk P w H h a o):∃ ob,h.get? a=some ob:=by
 cases o with
 | lst xs=>obtain⟨_,_,_,_,e⟩:=x;exact⟨_,e⟩
 | tup xs=>obtain⟨_,_,_,_,e,_⟩:=x;exact⟨_,e⟩
 | dK kvs=>obtain⟨_,_,_,_,o,_,_,e,_⟩:=x;exact⟨_,e⟩
 | dT kvs=>obtain⟨_,_,_,_,o,_,_,e,_⟩:=x;exact⟨_,e⟩
 | set S n=>obtain⟨o,_,_,_,e,_⟩:=x;exact⟨_,e⟩
 | ins C dx fs=>obtain⟨_,_,_,e,_⟩:=x;exact⟨_,e⟩
 | own y=>obtain⟨_,e⟩:=x;exact⟨_,e⟩
 | xd fs=>obtain⟨_,⟨_,_,_,e,_⟩,_⟩:=x;exact⟨_,e⟩
 | rng lo hi=>obtain⟨_,_,_,e⟩:=x;exact⟨_,e⟩
 | frz ob u=>obtain⟨e,_⟩:=x;exact⟨_,e⟩
 | tbl ps=>exact⟨_,show h.get? a=some _ from x⟩
 | met f y=>exact⟨_,show h.get? a=some _ from x⟩
 | ext φ=>obtain⟨_,⟨_,e⟩,_⟩:=x;exact⟨_,e⟩
theorem zg9(hok:HOk P w H h)(k:∀ b o,H b≠none→h.get? b=some o→h'.get? b=some o):HOk P w H h':=fun b ob e =>
 (hok b ob e).stay (fun c v hc q=>k c v (by
  rcases hc with rfl|hc
  · rw[e];exact fun z=>nomatch z
  · rw[hc];exact fun z=>nomatch z) q) (fun _ q=>q) fun _ _ q=>q
theorem Fly.base(f:Fly h0 H e C h)(ff:h.FunFrames bas l):∃ T a0,h0.get? T=none∧H T=none∧(hideAll h (e::T::frs l)).FlyingW l e (.ref C) a0 h:=by
 obtain⟨n,n2,oe,vs,T,oT,ts,a0,q1,q2,q3,q4,q5,q6,q7,q8,q9,q10,q11⟩:=f
 refine⟨T,a0,q6,q7,fun b o z=>of_hideAll _ z,hideAll_none _ (by simp),funFrames_hide ff fun env he a ea=>by simp[zg8 he ea],oe,vs,T,oT,ts,q1,⟨q2,q3⟩,q4,q5,hideAll_none _ (by simp),q8,q9,q10,q11⟩
theorem Fly.step{T:Addr}{l':List Env}{a0:Value}(n:h0.get? e=none)(n2:H e=none)(n3:h0.get? T=none)(n4:H T=none)(ff:h.FunFrames bas l)(st:∀ b∈frs l,H b=none)(hok:HOk P w H h)(u:Un fs ex H0 H h0 h)
   (f:(hideAll h (e::T::frs l)).FlyingW l' e (.ref C) a0 h') (us:h.UpToSlots h') (hf:∀ b∈frs l,b∈fs∨h0.get? b=none) (hx:∀ b o,h0.get? b=some o→b ∉ ex):Fly h0 H e C h'∧HOk P w H h'∧Un fs ex H0 H h0 h':=by
 have sl:∀ b∈frs l,∀ o,h.get? b=some o→∃ z,h'.get? b=some { o with slots:=z }:=fun b hb o q=>by
   obtain⟨_,o',q',nf⟩:=ff.mem hb
   rw[q]at q';cases q'
   exact us b o q nf
 have k:∀ b o,h.get? b=some o→b ∉ (e::T::frs l)→h'.get? b=some o:=fun b o q m=>f.1 b o (hideAll_get _ q m)
 obtain⟨s1,s2,s3,oe,vs,T',oT,ts,q1,⟨q2,q3⟩,q4,q5,q6,q7,q8,q9,q10⟩:=f
 have hT:T'=T∨h.get? T'=none:=by
   by_cases m:T'∈(e::T::frs l)
   · rcases List.mem_cons.mp m with z|m
     · exact absurd z q7
     · rcases List.mem_cons.mp m with z|m
       · exact .inl z
       · obtain⟨_,o,e1,nf⟩:=ff.mem m
         obtain⟨z,e2⟩:=sl T' m o e1
         rw[q8]at e2
         cases e2
         exact absurd q9 (nf ts)
   · refine .inr ?_
     cases z:h.get? T' with
     | none=>rfl
     | some o=>rw[hideAll_get _ z m]at q6;cases q6
 refine⟨⟨n,n2,oe,vs,T',oT,ts,a0,q1,q2,q3,q4,q5,?_,?_,q7,q8,q9,q10⟩,zg9 hok fun b o hb q=>k b o q fun m=>?_,zif u (fun b o o' q q' m=>k b o' q' fun z=>?_) sl hf⟩
 · rcases hT with z|z
   · rw[z];exact n3
   · cases y:h0.get? T' with
     | none=>rfl
     | some o=>obtain⟨o',e'⟩:=u.there T' o y (hx T' o y);rw[z]at e';cases e'
 · rcases hT with z|z
   · rw[z];exact n4
   · cases y:H T' with
     | none=>rfl
     | some o =>
       obtain⟨ob,q⟩:=(hok T' o y).obj
       rw[z]at q;cases q
 · rcases List.mem_cons.mp m with z|m
   · exact hb (z ▸ n2)
   · rcases List.mem_cons.mp m with z|m
     · exact hb (z ▸ n4)
     · exact hb (st b m)
 · rcases List.mem_cons.mp z with z|z
   · rw[z,n]at q;cases q
   · rcases List.mem_cons.mp z with z|z
     · rw[z,n3]at q;cases q
     · exact m z
end
def CX1(P:Program)(w:World):CXT:=fun outer H s E e s' =>
 ∃ ea C H',e = .ref ea∧s'.os=s.os∧AllBare s'.gens∧Un (frs outer) [] H H' s.heap s'.heap∧HOk P w H' s'.heap∧Fly s.heap H' ea C s'.heap∧E (.ref C) none H'
section
variable {P:Program}{w:World}{K:PySem.W.Frag}{mg:Str→Option Value}{base:Heap}{N:List Str}{qual:Str}{scope:Scope}{f:Addr}{cd:Value}{A:Around}{outer:List Env}{s₀:Shared}{H₀:Hp}{E:XK}
abbrev cx1(P:Program)(w:World)(K:PySem.W.Frag)(mg:Str→Option Value)(base:Heap)(N:List Str)(qual:Str)(scope:Scope)(f:Addr)(cd:Value)(A:Around)(outer:List Env)(s₀:Shared)(H₀:Hp)(E:XK):Cx:=cxOf (CX1 P w) P w K mg base N qual scope f cd A outer s₀ H₀ E
theorem pass1:z5m (CX1 P w) (cx1 P w K mg base N qual scope f cd A outer s₀ H₀ E) E:=by
 rintro pins σ H s e s' I ⟨ea,C,H',rfl,os,bare,un,hok,fly,hE⟩
 have I':Inv (cx1 P w K mg base N qual scope f cd A outer s₀ H₀ E) pins σ H' s':=I.call' os un hok bare fun b z=>absurd z (by simp)
 have ff:=I'.stack
 obtain⟨T,a0,n3,n4,fl⟩:=fly.base ff
 obtain⟨n1,n2,_⟩:=fly
 have old:∀{b:Addr},s.heap.get? b=none→s₀.heap.get? b=none:=fun{b} z=>by
  cases y:s₀.heap.get? b with
  | none=>rfl
  | some o=>obtain⟨o',e'⟩:=I.base.there b o y (by show b ∉ ([]:List Addr);simp);rw[z]at e';cases e'
 refine wpAny_leaves_onW I'.ok.frames rfl fl fun h' fl' us=>?_
 have hf:∀ b∈frs (envOfC qual scope s₀.heap.objs.size f cd::outer),b∈frs outer∨s₀.heap.get? b=none:=fun b hb=>by
  rcases List.mem_cons.mp (I'.stkSub b hb)with z|z
  · rw[z];exact .inr (Heap.get?_none_of_le (Nat.le_refl _))
  · exact .inl z
 obtain⟨f1,f2,f3⟩:=Fly.step (P:=P) (w:=w) (old n1) n2 (old n3) n4 ff I'.stkFree I'.hok I'.base fl' us hf fun b o _=>by show b ∉ ([]:List Addr);simp
 exact⟨ea,C,H',rfl,I'.os,I'.bare,f3,f2,f1,hE⟩
theorem rais1{pins:List (Addr×Obj)}{σ:St}{H:Hp}{s s':Shared}{ea C:Addr}{args:List Value}(I:Inv (cx1 P w K mg base N qual scope f cd A outer s₀ H₀ E) pins σ H s)(m:s.heap.MadeExcOf s'.heap ea (.ref C) args)(os:s'.os=s.os)(gn:s'.gens=s.gens)(hE:E (.ref C) none H):
  (cx1 P w K mg base N qual scope f cd A outer s₀ H₀ E).xe (.ref ea) s':=by
 have ff:=I.stack
 have old:∀{b:Addr},s.heap.get? b=none→s₀.heap.get? b=none:=fun{b} z=>by
  cases y:s₀.heap.get? b with
  | none=>rfl
  | some o=>obtain⟨o',e'⟩:=I.base.there b o y (by show b ∉ ([]:List Addr);simp);rw[z]at e';cases e'
 have unt:∀{b:Addr},s.heap.get? b=none→H b=none:=fun{b} z=>by
  cases y:H b with
  | none=>rfl
  | some o=>obtain⟨o',e'⟩:=(I.hok b o y).obj;rw[z]at e';cases e'
 refine wpAny_leaves_madeW (base:=hideAll s.heap (frs (envOfC qual scope s₀.heap.objs.size f cd::outer))) (h:=s.heap) I.ok.frames rfl (fun b o z=>of_hideAll _ z) (funFrames_hide ff fun env he a ea=>zg8 he ea) m fun h' t fl' _ _ us=>?_
 have hf:∀ b∈frs (envOfC qual scope s₀.heap.objs.size f cd::outer),b∈frs outer∨s₀.heap.get? b=none:=fun b hb=>by
  rcases List.mem_cons.mp (I.stkSub b hb)with z|z
  · rw[z];exact .inr (Heap.get?_none_of_le (Nat.le_refl _))
  · exact .inl z
 have sl:∀ b∈frs (envOfC qual scope s₀.heap.objs.size f cd::outer),∀ o,s.heap.get? b=some o→∃ z,h'.get? b=some { o with slots:=z }:=fun b hb o q=>by
  obtain⟨_,o',q',nf⟩:=ff.mem hb
  rw[q]at q';cases q'
  exact us b o (m.keeps b o q) nf
 have k:∀ b o,s.heap.get? b=some o→b ∉ frs (envOfC qual scope s₀.heap.objs.size f cd::outer)→h'.get? b=some o:=fun b o q n=>fl'.1 b o (hideAll_get _ q n)
 obtain⟨s1,s2,s3,oe,vs,T,oT,ts,q1,⟨q2,q3⟩,q4,q5,q6,q7,q8,q9,q10⟩:=fl'
 have hT:s.heap.get? T=none:=by
  by_cases mT:T∈frs (envOfC qual scope s₀.heap.objs.size f cd::outer)
  · obtain⟨_,o,e1,nf⟩:=ff.mem mT
    obtain⟨z,e2⟩:=sl T mT o e1
    rw[q8]at e2
    cases e2
    exact absurd q9 (nf ts)
  · cases z:s.heap.get? T with
    | none=>rfl
    | some o=>rw[hideAll_get _ z mT]at q6;cases q6
 refine⟨ea,C,H,rfl,os.trans I.os,by rw[gn];exact I.bare,zif (l:=envOfC qual scope s₀.heap.objs.size f cd::outer) I.base (fun b o o' _ q' n=>k b o' q' n) sl hf,zg9 I.hok fun b o hb q=>k b o q fun z=>hb (I.stkFree b z),⟨old m.new,unt m.new,oe,vs,T,oT,ts,_,q1,q2,q3,q4,q5,old hT,unt hT,q7,q8,q9,q10⟩,hE⟩
end
def exN:Nat→Str
 | 0 => "HallError"
 | 1 => "NoHall"
 | 2 => "NoBasket"
 | 3 => "NoPlace"
 | 4 => "NoText"
 | 5 => "Unlike"
 | 6 => "TooMany"
 | _ => "NotWithin"
def XOk(X:Cx)(H₀:Hp)(C:Addr):Prop:=∃ E:XK,(∀ H,Same H₀ H→E (.ref C) none H)∧z5m (CX1 X.prog X.w) X E ∧
 ∀(pins:List (Addr×Obj)) (σ:St) (H:Hp) (s s':Shared) (ea:Addr) (args:List Value),Inv X pins σ H s→s.heap.MadeExcOf s'.heap ea (.ref C) args→s'.os=s.os→s'.gens=s.gens→E (.ref C) none H→X.xe (.ref ea) s'
theorem XOk.base{X:Cx}{H₀ H1:Hp}{C:Addr}(h:XOk X H₀ C)(s:Same H₀ H1):XOk X H1 C:=by
 obtain⟨E,a,b,c⟩:=h
 exact⟨E,fun H z=>a H (s.trans z),b,c⟩
theorem xok1{P:Program}{w:World}{K:PySem.W.Frag}{mg:Str→Option Value}{base:Heap}{N:List Str}{qual:Str}{scope:Scope}{f:Addr}{cd:Value}{A:Around}{outer:List Env}{s₀:Shared}{H₀:Hp}{E:XK}{C:Addr}(h:∀ H,Same H₀ H→E (.ref C) none H):
 XOk (cx1 P w K mg base N qual scope f cd A outer s₀ H₀ E) H₀ C:=⟨E,h,pass1,fun pins σ H s s' ea args I m os gn hE=>rais1 I m os gn hE⟩
end L2

end
section
local macro_rules|`(tactic| omega)=>`(tactic| first|lia|omega +splitDisjunctions)
set_option Elab.async false
set_option linter.all false
set_option maxRecDepth 100000
namespace L2
open PySem PySem.Spec PyProof.Rows
abbrev Own:=List (Nat×Addr)
abbrev Own.adr(O:Own):List Addr:=O.map (·.2)
def zig(X:Cx)(H:Hp)(O:Own)(i:Nat):Cell→Option V→Prop
 | .no,_=>True
 | .ex,o=>∃ a φ,o=some (.ref a)∧hidL O.adr H a=some (.ext φ)∧∀ h,φ h→zi2 X.K a h
 | .sh f d,o=>∃ v,o=some v∧Rp X.K (bsOf X.ky f) d (hidL O.adr H) v
 | .ow f ds,o=>∃ a vs,(i,a)∈O∧o=some (.ref a)∧H a=some (.lst vs)∧Rps X.K (bsOf X.ky f) ds (hidL O.adr H) vs
structure RepO(X:Cx)(H₀ H:Hp)(O:Own)(ρ:Rho)(σ:St):Prop where
 ndA:O.adr.Nodup
 ndI:(O.map (·.1)).Nodup
 own:OwnL X O.adr H
 len:ρ.length=σ.length
 b0:Same X.H₀ H₀
 same:Same H₀ (hidL O.adr H)
 at_:∀(i:Nat) (c:Cell),ρ[i]?=some c→∃ o,σ[i]?=some o∧zig X H O i c o
def RepB(X:Cx)(H₀ H:Hp)(ρ:Rho)(σ:St):Prop:=∃ O,RepO X H₀ H O ρ σ
def z4f:Cell→Cell
 | .ow _ _ => .no
 | c=>c
def z1w:Rho→Rho
 | []=>[]
 | c::ρ=>z4f c::z1w ρ
theorem z9D:∀ ρ:Rho,z1w ρ=ρ.map z4f
 | []=>rfl
 | c::ρ=>by rw[z1w,z9D ρ,List.map_cons]
section
variable {X:Cx}{H₀ H H':Hp}{O:Own}{ρ:Rho}{σ:St}
theorem RepO.mono(h:RepO X H₀ H O ρ σ)(sm:Same H H'):RepO X H₀ H' O ρ σ:=by
 refine⟨h.ndA,h.ndI,fun a ha=>?_,h.len,h.b0,h.same.trans (z1D sm),fun i c e=>?_⟩
 · obtain⟨⟨vs,q⟩,z⟩:=h.own a ha
   exact⟨⟨vs,sm _ _ q⟩,z⟩
 · obtain⟨o,e1,e2⟩:=h.at_ i c e
   refine⟨o,e1,?_⟩
   cases c with
   | no=>trivial
   | ex=>obtain⟨a,φ,q,r,z⟩:=e2;exact⟨a,φ,q,z1D sm _ _ r,z⟩
   | sh f d=>obtain⟨v,q,r⟩:=e2;exact⟨v,q,Rp.mono _ (z1D sm) r⟩
   | ow f ds=>obtain⟨a,vs,q1,q2,q3,r⟩:=e2;exact⟨a,vs,q1,q2,sm _ _ q3,Rps.mono _ (z1D sm) r⟩
theorem RepO.base(h:RepO X H₀ H O ρ σ){H1:Hp}(sm:Same H1 H₀)(b:Same X.H₀ H1):RepO X H1 H O ρ σ:=⟨h.ndA,h.ndI,h.own,h.len,b,sm.trans h.same,h.at_⟩
theorem RepO.below(h:RepO X H₀ H O ρ σ):Same X.H₀ H:=h.b0.trans (h.same.trans z0t)
theorem RepO.bsFree(h:RepO X H₀ H O ρ σ){a:Addr}(ha:a∈O.adr)(f:Bool):bsOf X.ky f a=none:=by
 cases f with
 | false=>rfl
 | true=>exact(h.own a ha).2
theorem z3N{i:Nat}{a:Addr}(h:(i,a)∈O):a∈O.adr:=List.mem_map.mpr ⟨_,h,rfl⟩
theorem RepO.all(h:RepO X H₀ H O ρ σ):RepS X.ky H ρ σ:=by
 refine⟨h.len,h.below,fun i c e=>?_⟩
 obtain⟨o,e1,e2⟩:=h.at_ i c e
 refine⟨o,e1,?_⟩
 cases c with
 | no=>trivial
 | ex=>obtain⟨a,φ,q,r,z⟩:=e2;exact⟨a,φ,q,z0t _ _ r,z⟩
 | sh f d=>obtain⟨v,q,r⟩:=e2;exact⟨v,q,Rp.mono _ z0t r⟩
 | ow f ds =>
  obtain⟨a,vs,q1,q2,q3,r⟩:=e2
  exact⟨_,q2,Rp.lst_.mpr ⟨a,vs,rfl,h.bsFree (z3N q1) f,q3,Rps.mono _ (z2R fun b hb=>by rw[List.mem_singleton.mp hb];exact z3N q1) r⟩⟩
theorem RepO.rest(h:RepO X H₀ H O ρ σ):RepS X.ky (hidL O.adr H) (z1w ρ) σ:=by
 rw[z9D]
 refine⟨by rw[List.length_map];exact h.len,h.b0.trans h.same,fun i c e=>?_⟩
 rw[List.getElem?_map]at e
 cases q:ρ[i]? with
 | none=>rw[q]at e;cases e
 | some c' =>
  rw[q]at e
  obtain⟨o,e1,e2⟩:=h.at_ i c' q
  refine⟨o,e1,?_⟩
  cases c' with
  | no=>cases e;trivial
  | ex=>cases e;exact e2
  | sh f d=>cases e;obtain⟨v,q,r⟩:=e2;exact⟨v,q,r⟩
  | ow f ds=>cases e;trivial
def z2A(O:Own)(i:Nat):Own:=O.filter fun p=>p.1 != i
theorem z1P{p:Nat×Addr}{i:Nat}:p∈z2A O i↔p∈O∧p.1≠i:=by
 unfold z2A
 rw[List.mem_filter]
 simp
theorem z0Z{i:Nat}:∀ a∈(z2A O i).adr,a∈O.adr:=fun a ha=>by
 obtain⟨p,hp,e⟩:=List.mem_map.mp ha
 exact List.mem_map.mpr ⟨p,(z1P.mp hp).1,e⟩
theorem RepO.set(h:RepO X H₀ H O ρ σ){i:Nat}{f:Bool}{d:Dt}{v:V}(r:Rp X.K (bsOf X.ky f) d (hidL O.adr H) v):RepO X H₀ H (z2A O i) (ρ.set i (.sh f d)) (σ.set i (some v)):=by
 have sm:Same (hidL O.adr H) (hidL (z2A O i).adr H):=z2R z0Z
 refine⟨h.ndA.sublist (List.Sublist.map _ (List.filter_sublist)),h.ndI.sublist (List.Sublist.map _ (List.filter_sublist)),fun a ha=>h.own a (z0Z a ha),by rw[List.length_set,List.length_set];exact h.len,h.b0,h.same.trans sm,fun j c q=>?_⟩
 by_cases e:i=j
 · subst e
   rw[List.getElem?_set,if_pos rfl]at q
   rw[List.getElem?_set,if_pos rfl]
   split at q
   · rename_i hl
     cases q
     rw[if_pos (by rw[←h.len];exact hl)]
     exact⟨_,rfl,v,rfl,Rp.mono _ sm r⟩
   · cases q
 · rw[List.getElem?_set_ne e]at q ⊢
   obtain⟨o,e1,e2⟩:=h.at_ j c q
   refine⟨o,e1,?_⟩
   cases c with
   | no=>trivial
   | ex=>obtain⟨a,φ,q,r,z⟩:=e2;exact⟨a,φ,q,sm _ _ r,z⟩
   | sh f d=>obtain⟨v,q,r⟩:=e2;exact⟨v,q,Rp.mono _ sm r⟩
   | ow f ds=>obtain⟨a,vs,q1,q2,q3,r⟩:=e2;exact⟨a,vs,z1P.mpr ⟨q1,fun z=>e z.symm⟩,q2,q3,Rps.mono _ sm r⟩
theorem z8a{D:Addr}{A:List Addr}{H:Hp}:hidL A (hidL [D] H)=hidL (D::A) H:=funext fun b=>by
 unfold hidL
 by_cases q1:b=D
 · subst q1;simp
 · by_cases q2:b∈A
   · simp[q1,q2]
   · simp[q1,q2]
theorem RepO.setNew(h:RepO X H₀ H' O ρ σ){i:Nat}{D:Addr}{f:Bool}{ds:List Dt}{vs:List V}(hi:i<ρ.length)(sm0:Same H' H)(hN:H' D=none)(hD:H D=some (.lst vs))(hn:D ∉ O.adr)(hX:X.H₀ D=none)
   (r:Rps X.K (bsOf X.ky f) ds (hidL (D::O.adr) H) vs):RepO X H₀ H ((i,D)::z2A O i) (ρ.set i (.ow f ds)) (σ.set i (some (.ref D))):=by
 have sub:∀ a∈(Own.adr ((i,D)::z2A O i)),a∈D::O.adr:=fun a ha=>by
   rcases List.mem_cons.mp ha with z|z
   · rw[z];exact List.mem_cons_self
   · exact List.mem_cons_of_mem _ (z0Z a z)
 have sm:Same (hidL (D::O.adr) H) (hidL (Own.adr ((i,D)::z2A O i)) H):=z2R sub
 have sm1:Same H' (hidL [D] H):=fun b o e=>by
   rw[z0k (by rw[List.mem_singleton];rintro rfl;rw[hN]at e;cases e)];exact sm0 _ _ e
 have sm2:Same (hidL O.adr H') (hidL (D::O.adr) H):=by rw[←z8a];exact z1D sm1
 have nD:D ∉ (z2A O i).adr:=fun z=>hn (z0Z D z)
 refine⟨List.nodup_cons.mpr ⟨nD,h.ndA.sublist (List.Sublist.map _ (List.filter_sublist))⟩,List.nodup_cons.mpr ⟨fun z=>?_,h.ndI.sublist (List.Sublist.map _ (List.filter_sublist))⟩,fun a ha=>?_,by rw[List.length_set,List.length_set];exact h.len,h.b0,h.same.trans (sm2.trans sm),fun j c q=>?_⟩
 · obtain⟨p,hp,e⟩:=List.mem_map.mp z
   exact(z1P.mp hp).2 e
 · rcases List.mem_cons.mp ha with z|z
   · rw[z];exact⟨⟨vs,hD⟩,hX⟩
   · obtain⟨⟨ws,q⟩,z2⟩:=h.own a (z0Z a z)
     exact⟨⟨ws,sm0 _ _ q⟩,z2⟩
 · by_cases e:i=j
   · subst e
     rw[List.getElem?_set,if_pos rfl,if_pos hi]at q
     rw[List.getElem?_set,if_pos rfl,if_pos (by rw[←h.len];exact hi)]
     cases q
     exact⟨_,rfl,D,vs,List.mem_cons_self,rfl,hD,Rps.mono _ sm r⟩
   · rw[List.getElem?_set_ne e]at q ⊢
     obtain⟨o,e1,e2⟩:=h.at_ j c q
     refine⟨o,e1,?_⟩
     cases c with
     | no=>trivial
     | ex=>obtain⟨a,φ,q,r,z⟩:=e2;exact⟨a,φ,q,(sm2.trans sm) _ _ r,z⟩
     | sh f d=>obtain⟨v,q,r⟩:=e2;exact⟨v,q,Rp.mono _ (sm2.trans sm) r⟩
     | ow f ds' =>
      obtain⟨a,vs',q1,q2,q3,r⟩:=e2
      exact⟨a,vs',List.mem_cons_of_mem _ (z1P.mpr ⟨q1,fun z=>e z.symm⟩),q2,sm0 _ _ q3,Rps.mono _ (sm2.trans sm) r⟩
theorem zga{O:Own}(nd:O.adr.Nodup):∀{p q:Nat×Addr},p∈O→q∈O→p.2=q.2→p=q:=by
 induction O with
 | nil=>intro p q hp;cases hp
 | cons o O ih =>
  intro p q hp hq e
  have nd:(o.2::O.map (·.2)).Nodup:=nd
  obtain⟨n1,n2⟩:=List.nodup_cons.mp nd
  rcases List.mem_cons.mp hp with hp|hp<;>rcases List.mem_cons.mp hq with hq|hq
  · rw[hp,hq]
  · exact absurd (List.mem_map.mpr ⟨q,hq,by rw[←e,hp]⟩) n1
  · exact absurd (List.mem_map.mpr ⟨p,hp,by rw[e,hq]⟩) n1
  · exact ih n2 hp hq e
theorem zlS{O:Own}(nd:(O.map (·.1)).Nodup):∀{p q:Nat×Addr},p∈O→q∈O→p.1=q.1→p=q:=by
 induction O with
 | nil=>intro p q hp;cases hp
 | cons o O ih =>
  intro p q hp hq e
  have nd:(o.1::O.map (·.1)).Nodup:=nd
  obtain⟨n1,n2⟩:=List.nodup_cons.mp nd
  rcases List.mem_cons.mp hp with hp|hp<;>rcases List.mem_cons.mp hq with hq|hq
  · rw[hp,hq]
  · exact absurd (List.mem_map.mpr ⟨q,hq,by rw[←e,hp]⟩) n1
  · exact absurd (List.mem_map.mpr ⟨p,hp,by rw[e,hq]⟩) n1
  · exact ih n2 hp hq e
theorem zcG{A:List Addr}{a:Addr}{o:HO}{H:Hp}(h:a∈A):hidL A (upd H a o)=hidL A H:=funext fun b=>by
 by_cases q:b∈A
 · rw[z2k q,z2k q]
 · rw[z0k q,z0k q,z0m fun z=>q (by rw[z];exact h)]
theorem RepO.upd(h:RepO X H₀ H O ρ σ){i:Nat}{a:Addr}{f g:Bool}{ds ds0:List Dt}{vs:List V}(hc:ρ[i]?=some (.ow g ds0))(hi:(i,a)∈O)(r:Rps X.K (bsOf X.ky f) ds (hidL O.adr H) vs):
   RepO X H₀ (upd H a (.lst vs)) O (ρ.set i (.ow f ds)) σ:=by
 have ha:a∈O.adr:=z3N hi
 have hh:hidL O.adr (L2.upd H a (.lst vs))=hidL O.adr H:=zcG ha
 have hlt:i<ρ.length:=by
   by_cases hlt:i<ρ.length
   · exact hlt
   · rw[List.getElem?_eq_none (by omega)]at hc;cases hc
 refine⟨h.ndA,h.ndI,fun b hb=>?_,by rw[List.length_set];exact h.len,h.b0,by rw[hh];exact h.same,fun j c q=>?_⟩
 · by_cases e:b=a
   · subst e;exact⟨⟨vs,z0A⟩,(h.own b hb).2⟩
   · rw[z0m e];exact h.own b hb
 · by_cases e:i=j
   · subst e
     rw[List.getElem?_set,if_pos rfl,if_pos hlt]at q
     cases q
     obtain⟨o,e1,a',vs',q1,q2,q3,r'⟩:=h.at_ i _ hc
     have e2:(i,a')=(i,a):=zlS h.ndI q1 hi rfl
     cases e2
     exact⟨o,e1,a,vs,hi,q2,z0A,by rw[hh];exact r⟩
   · rw[List.getElem?_set_ne e]at q
     obtain⟨o,e1,e2⟩:=h.at_ j c q
     refine⟨o,e1,?_⟩
     cases c with
     | no=>trivial
     | ex=>obtain⟨b,φ,q,r,z⟩:=e2;exact⟨b,φ,q,by rw[hh];exact r,z⟩
     | sh f d=>obtain⟨v,q,r⟩:=e2;exact⟨v,q,by rw[hh];exact r⟩
     | ow f ds' =>
      obtain⟨b,vs',q1,q2,q3,r'⟩:=e2
      have hne:b≠a:=fun z=>by
       have:=zga h.ndA q1 hi z
       exact e (congrArg Prod.fst this).symm
      exact⟨b,vs',q1,q2,by rw[z0m hne];exact q3,by rw[hh];exact r'⟩
def relC:Cell→Cell
 | .ow f ds => .sh f (.lst ds)
 | c=>c
def z9E(ρ:Rho)(i:Nat):Rho:=match ρ[i]? with|some c=>ρ.set i (relC c)|none=>ρ
def relS:List Nat→Rho→Rho
 | [],ρ=>ρ
 | i::is,ρ=>relS is (z9E ρ i)
theorem RepO.rel(h:RepO X H₀ H O ρ σ)(i:Nat):RepO X H₀ H (z2A O i) (z9E ρ i) σ:=by
 have sm:Same (hidL O.adr H) (hidL (z2A O i).adr H):=z2R z0Z
 have hl:(z9E ρ i).length=ρ.length:=by
  unfold z9E
  split
  · exact List.length_set
  · rfl
 refine⟨h.ndA.sublist (List.Sublist.map _ (List.filter_sublist)),h.ndI.sublist (List.Sublist.map _ (List.filter_sublist)),fun a ha=>h.own a (z0Z a ha),hl.trans h.len,h.b0,h.same.trans sm,fun j c q=>?_⟩
 have other:∀{c:Cell},ρ[j]?=some c→(∀ f ds,c = .ow f ds→j≠i)→∃ o,σ[j]?=some o∧zig X H (z2A O i) j c o:=fun{c} q hne=>by
  obtain⟨o,e1,e2⟩:=h.at_ j c q
  refine⟨o,e1,?_⟩
  cases c with
  | no=>trivial
  | ex=>obtain⟨a,φ,q,r,z⟩:=e2;exact⟨a,φ,q,sm _ _ r,z⟩
  | sh f d=>obtain⟨v,q,r⟩:=e2;exact⟨v,q,Rp.mono _ sm r⟩
  | ow f ds=>obtain⟨a,vs,q1,q2,q3,r⟩:=e2;exact⟨a,vs,z1P.mpr ⟨q1,hne f ds rfl⟩,q2,q3,Rps.mono _ sm r⟩
 unfold z9E at q
 cases e:ρ[i]? with
 | none =>
  rw[e]at q
  exact other q fun f ds _ z=>by rw[z,e]at q;cases q
 | some c' =>
  rw[e]at q
  dsimp only at q
  by_cases hij:i=j
  · subst hij
    have hlt:i<ρ.length:=by
     by_cases hlt:i<ρ.length
     · exact hlt
     · rw[List.getElem?_eq_none (by omega)]at e;cases e
    rw[List.getElem?_set,if_pos rfl,if_pos hlt]at q
    cases q
    cases c' with
    | no=>obtain⟨o,e1,e2⟩:=h.at_ i _ e;exact⟨o,e1,trivial⟩
    | ex=>exact other e fun f ds z=>by cases z
    | sh f d=>exact other e fun f ds z=>by cases z
    | ow f ds =>
     obtain⟨o,e1,a,vs,q1,q2,q3,r⟩:=h.at_ i _ e
     have hna:a ∉ (z2A O i).adr:=fun z=>by
       obtain⟨p,hp,ep⟩:=List.mem_map.mp z
       have:=zga h.ndA (z1P.mp hp).1 q1 ep
       exact(z1P.mp hp).2 (by rw[this])
     refine⟨o,e1,.ref a,q2,Rp.lst_.mpr ⟨a,vs,rfl,h.bsFree (z3N q1) f,by rw[z0k hna];exact q3,Rps.mono _ ?_ r⟩⟩
     rw[z83,z8a]
     refine z2R fun b hb=>?_
     rcases List.mem_cons.mp hb with z|z
     · rw[z];exact z3N q1
     · exact z0Z b z
  · rw[List.getElem?_set_ne hij]at q
    exact other q fun f ds _ z=>hij z.symm
theorem RepO.rels(h:RepO X H₀ H O ρ σ):∀ is:List Nat,∃ O',RepO X H₀ H O' (relS is ρ) σ:=fun is=>by
 induction is generalizing O ρ with
 | nil=>exact⟨O,h⟩
 | cons i is ih=>exact ih (h.rel i)
end
inductive Oc where
 | nx (ρ:Rho)|rt (f:Fl) (d:Dt)|bk (ρ:Rho)|ct (ρ:Rho)|ex (n:Nat)
def OcOk(X:Cx)(H₀:Hp)(D:Ends):Oc→Prop
 | .nx ρ=>∀ σ H,RepB X H₀ H ρ σ→D.nx σ H
 | .rt f d=>∀ v H,Same H₀ H→Rp X.K (bsOf X.ky f.isFr) d H v→D.rt v H
 | .bk ρ=>∀ σ H,RepB X H₀ H ρ σ→D.bk σ H
 | .ct ρ=>∀ σ H,RepB X H₀ H ρ σ→D.ct σ H
 | .ex n=>∀ C,X.mg (exN n)=some (.ref C)→XOk X H₀ C
abbrev FS:=Rho→Option Oc
def upS(X:Cx)(F:FS):TS:=fun D σ H=>∃ H₀ ρ oc,RepB X H₀ H ρ σ∧F ρ=some oc∧OcOk X H₀ D oc
def PFS(X:Cx)(st:Stmt)(F:FS):Prop:=PS X st (upS X F)
def PFSs(X:Cx)(sts:List Stmt)(F:FS):Prop:=PSs X sts (upS X F)
theorem PS.imp{X:Cx}{st:Stmt}{t t':TS}(h:PS X st t)(q:∀ D σ H,t' D σ H→t D σ H):PS X st t':=fun pins s σ H D I z=>h pins s σ H D I (q D σ H z)
theorem PSs.imp{X:Cx}{st:List Stmt}{t t':TS}(h:PSs X st t)(q:∀ D σ H,t' D σ H→t D σ H):PSs X st t':=fun pins s σ H D I z=>h pins s σ H D I (q D σ H z)
section
variable {X:Cx}{st:Stmt}{rest:List Stmt}{F G:FS}{e:Expr}{Fe:FE}{pos:Pos}
def z0M:FS:=fun ρ=>some (.nx ρ)
def seqO(G:FS):Oc→Option Oc
 | .nx ρ=>G ρ
 | o=>some o
def sSeq(F G:FS):FS:=fun ρ=>(F ρ).bind (seqO G)
theorem z0V:PFSs X [] z0M:=zlv.imp (by rintro D σ H ⟨H₀,ρ,oc,rb,e,k⟩;cases e;exact k σ H rb)
theorem z0b(h:PFS X st F):PFSs X [st] F:=zlw h
theorem z06(h1:PFS X st F)(h2:PFSs X rest G):PFSs X (st::rest) (sSeq F G):=(zhJ h1 h2).imp fun D σ H hZ=>hZ.elim fun H₀ hZ=>hZ.elim fun ρ hZ=>hZ.elim fun oc hZ=>hZ.elim fun rb hZ=>hZ.elim fun e k=>by
 obtain⟨o1,e1,e2⟩:=z04 e
 refine⟨H₀,ρ,o1,rb,e1,?_⟩
 cases o1 with
 | nx ρ'=>exact fun σ' H' rb'=>⟨H₀,ρ',oc,rb',e2,k⟩
 | rt f d=>cases e2;exact k
 | ex C=>cases e2;exact k
 | bk ρ'=>cases e2;exact k
 | ct ρ'=>cases e2;exact k
def z6z:FS:=fun _=>none
theorem zaH:PFS X st z6z:=fun pins s σ H D I hZ=>hZ.elim fun H₀ hZ=>hZ.elim fun ρ hZ=>hZ.elim fun oc hZ=>hZ.elim fun rb hZ=>hZ.elim fun e k=>by cases e
def sRet(F:FE):FS:=fun ρ=>(F ρ).map fun x => .rt x.1 x.2
theorem z0s(he:PF X e Fe):PFS X (.Return (some e) pos) (sRet Fe):=(ps_ret he).imp fun D σ H ⟨H₀,ρ,oc,⟨O,rb⟩,e0,k⟩=>by
 unfold sRet at e0
 cases h:Fe ρ with
 | none=>rw[h]at e0;cases e0
 | some x =>
  rw[h]at e0
  cases e0
  refine⟨ρ,x.1,x.2,rb.all,h,fun v H' sm r=>k v H' (rb.same.trans (z0t.trans sm)) ?_⟩
  by_cases q:x.1.isFr=true
  · rw[q];exact r.fr rb.below q
  · rw[show x.1.isFr=false by simpa using q];exact r.sh
def sIf(c:FT)(F G:FS):FS:=fun ρ=>(c ρ).bind fun b=>if b then F ρ else G ρ
theorem s_if{c:Expr}{a b:List Stmt}{Fc:FT}(hc:PFT X c Fc)(ha:PFSs X a F)(hb:PFSs X b G):PFS X (.If c a b pos) (sIf Fc F G):=(ps_if hc ha hb).imp fun D σ H ⟨H₀,ρ,oc,⟨O,rb⟩,e0,k⟩=>by
 obtain⟨z,e1,e2⟩:=z04 e0
 refine⟨ρ,z,rb.all,e1,fun H' sm=>?_⟩
 dsimp only
 cases z with
 | true=>rw[if_pos rfl]at e2 ⊢;exact⟨H₀,ρ,oc,⟨O,rb.mono sm⟩,e2,k⟩
 | false=>rw[if_neg Bool.false_ne_true]at e2 ⊢;exact⟨H₀,ρ,oc,⟨O,rb.mono sm⟩,e2,k⟩
def z8b(F:FE):FS:=fun ρ=>(F ρ).map fun _ => .nx ρ
theorem zih(he:PF X e Fe)(hs:swapsWith e none pos.line X.env=pure false:=by rfl):PFS X (.Expr e pos) (z8b Fe):=(z5M he hs).imp fun D σ H ⟨H₀,ρ,oc,⟨O,rb⟩,e0,k⟩=>by
 unfold z8b at e0
 cases h:Fe ρ with
 | none=>rw[h]at e0;cases e0
 | some x =>
  rw[h]at e0
  cases e0
  exact⟨ρ,x.1,x.2,rb.all,h,fun v H' sm r=>k σ H' ⟨O,rb.mono sm⟩⟩
def AsgF(X:Cx)(st:Stmt)(i:Nat)(F:FE):Prop:=PS X st (tAsg (upF X F) (z7X i))
theorem z09{i:Nat}{x:Str}{pos':Pos}(he:PF X e Fe)(hN:X.N.Nodup)(hi:X.N[i]?=some x)(hx:Loc X.env.scope x)(hs:swapsWith e (some (.Name x pos')) pos.line X.env=pure false)(hf:X.fn x=true∨X.env.scope.names.lookup x=some .local):
 AsgF X (.Assign [.Name x pos'] e pos) i Fe:=ps_set hN hi hx he hs hf
theorem z4g{N:List Str}{scope:Scope}{nt:Nat}{js:List Nat}{tg elt iter:Expr}{ifs:List Expr}{Fi:FI}{g:Tg}{Fc:FT}{i:Nat}{x:Str}{pos' spos:Pos}(hN:X.N.Nodup)(hix:X.N[i]?=some x)(hx:X.env.scope.names.lookup x=some .local)
  (hsw:swapsWith (.ListComp elt [⟨tg,iter,ifs,0⟩] scope pos) (some (.Name x pos')) spos.line X.env=pure true)
  (S:CompScope X N scope nt js) (hc:X.calm=true) (hi:PFI X tg iter Fi) (hg:∀ cl C fp s H,PG (z0T X N scope cl C fp s H) tg (g.low X.K)) (hb:g.below nt)
  (hcs:∀ cl C fp s H,PFTs (z0T X N scope cl C fp s H) ifs Fc) (he:∀ cl C fp s H,PF (z0T X N scope cl C fp s H) elt Fe) (hj:∀ j∈js,j<X.N.length)
  (hs:∀ x,foldedSetIterable iter X.env x=pure x:=by intro _;rfl):AsgF X (.Assign [.Name x pos'] (.ListComp elt [⟨tg,iter,ifs,0⟩] scope pos) spos) i (z0d nt js Fi g Fc Fe):=by
 intro pins s σ H D I h
 exact zlM hN hix hx S hc hi hg (Tg.ok hb) (fun cl C fp s H=>PTs.frame (t:=fun H1=>upBK ⟨X.K,H1⟩ Fc) (hcs cl C fp s H)) (fun cl C fp s H=>PE.frame (he cl C fp s H)) hsw hs pins s σ H D I
  (zg7 (fun j z=>by rw[I.len];exact hj j z) h)
def sSet(rels:List Nat)(i:Nat)(F:FE):FS:=fun ρ=>(F (z1w (relS rels ρ))).map fun x => .nx ((relS rels ρ).set i (.sh x.1.isFr x.2))
theorem z0o{rels:List Nat}{i:Nat}(ha:AsgF X st i Fe):PFS X st (sSet rels i Fe):=(PS.frame ha).imp fun D σ H ⟨H₀,ρ,oc,⟨O,rb⟩,e0,k⟩=>by
 unfold sSet at e0
 cases h:Fe (z1w (relS rels ρ)) with
 | none=>rw[h]at e0;cases e0
 | some x =>
  rw[h]at e0
  cases e0
  obtain⟨O',rb'⟩:=rb.rels rels
  refine⟨O'.adr,rb'.own,z1w (relS rels ρ),x.1,x.2,rb'.rest,h,fun v H' sm r hn=>?_⟩
  have hg:hidL O'.adr (z18 O'.adr H H')=H':=z2Q hn
  have rb2:RepO X H₀ (z18 O'.adr H H') O' (relS rels ρ) σ:=rb'.mono (Same.glue sm hn)
  refine k _ _ ⟨_,rb2.set (f:=x.1.isFr) ?_⟩
  rw[hg]
  by_cases q:x.1.isFr=true
  · rw[q];exact r.fr (rb'.b0.trans rb'.same) q
  · rw[show x.1.isFr=false by simpa using q];exact r.sh
def z2m(i:Nat)(F:FE):FS:=fun ρ=>(F ρ).bind fun x=>if x.1.isNw then some (.nx (ρ.set i (.sh true x.2))) else none
theorem zii{H H':Hp}{O:Own}{f:Fl}{d:Dt}{v:V}(ho:OwnL X O.adr H)(sm:Same H H')(q:f.isNw=true)(r:RpF X.ky H f d H' v):Rp X.K H d (hidL O.adr H') v:=by
 cases f<;>first|cases q|skip
 refine Rp.hid (fun b hb=>?_) d (fun b hb o e=>?_) r
 · obtain⟨⟨vs,z⟩,_⟩:=ho b hb
   rw[z];exact fun w=>nomatch w
 · obtain⟨⟨vs,z⟩,_⟩:=ho b hb
   rw[sm _ _ z]at e
   cases e
   exact⟨vs,rfl⟩
theorem z8c{i:Nat}(ha:AsgF X st i Fe):PFS X st (z2m i Fe):=PS.imp ha fun D σ H ⟨H₀,ρ,oc,⟨O,rb⟩,e0,k⟩=>by
 obtain⟨x,e1,e2⟩:=z04 e0
 split at e2
 · rename_i q
   cases e2
   refine⟨ρ,x.1,x.2,rb.all,e1,fun v H' sm r=>k _ _ ⟨_,(rb.mono sm).set (f:=true) ?_⟩⟩
   exact Rp.anti rb.below _ (zii rb.own sm q r)
 · cases e2
def sOwn(i:Nat)(F:FE):FS:=fun ρ=>(F (z1w ρ)).bind fun x=>match x with
 | (.nw,.lst ds)=>if i<ρ.length then some (.nx (ρ.set i (.ow true ds))) else none
 | (.tn,.lst ds)=>if i<ρ.length then some (.nx (ρ.set i (.ow false ds))) else none
 | _=>none
theorem zbt{i:Nat}(ha:AsgF X st i Fe):PFS X st (sOwn i Fe):=(PS.frame ha).imp fun D σ H ⟨H₀,ρ,oc,⟨O,rb⟩,e0,k⟩=>by
 obtain⟨x,e1,e2⟩:=z04 e0
 refine⟨O.adr,rb.own,z1w ρ,x.1,x.2,rb.rest,e1,fun v H' sm r hn=>?_⟩
 have hg:hidL O.adr (z18 O.adr H H')=H':=z2Q hn
 have sg:Same H (z18 O.adr H H'):=Same.glue sm hn
 have new:∀{f:Bool} {ds:List Dt} {D:Addr} {vs:List V},hidL O.adr H D=none→H' D=some (.lst vs)→Rps X.K (bsOf X.ky f) ds (hidL [D] H') vs→i<ρ.length→RepB X H₀ (z18 O.adr H H') (ρ.set i (.ow f ds)) (σ.set i (some (.ref D))):=by
   intro f ds D vs hD hv hr hi
   have nO:D ∉ O.adr:=fun z=>by rw[hn D z]at hv;cases hv
   have hH:H D=none:=by rw[z0k nO]at hD;exact hD
   refine⟨_,rb.setNew hi sg hH (by rw[z11 nO];exact hv) nO (rb.below.free hH) ?_⟩
   rw[←z8a,z83,hg]
   exact hr
 split at e2
 · rename_i ds
   split at e2
   · rename_i hi
     cases e2
     obtain⟨D,vs,rfl,h0,h1,h2⟩:=(Rp.lst_ (K:=X.K)).mp (show Rp X.K (hidL O.adr H) (.lst ds) H' v from r)
     exact k _ _ (new (f:=true) h0 h1 (Rps.anti (rb.b0.trans rb.same) _ h2) hi)
   · cases e2
 · rename_i ds
   split at e2
   · rename_i hi
     cases e2
     obtain⟨D,vs,rfl,h0,h1,h2⟩:=Rp.lst_.mp r.1
     exact k _ _ (new (f:=false) (r.2.2 D rfl) h1 h2 hi)
   · cases e2
 · cases e2
def sOwnA(i:Nat)(F:FE):FS:=fun ρ=>(F ρ).bind fun x=>match x with
 | (.nw,.lst ds)=>if i<ρ.length then some (.nx (ρ.set i (.ow true ds))) else none
 | _=>none
def z0Y(c:FT)(F:FS):Nat→FS
 | 0,_=>none
 | n+1,ρ=>(c ρ).bind fun b=>if b then(F ρ).bind fun oc=>match oc with|.nx ρ'=>z0Y c F n ρ'|.ct ρ'=>z0Y c F n ρ'|.bk ρ'=>some (.nx ρ')|.rt f d=>some (.rt f d)|.ex C=>some (.ex C) else some (.nx ρ)
open Classical in
noncomputable def z3h(c:FT)(F:FS):FS:=fun ρ=>if h:∃ n o,z0Y c F n ρ=some o then some (choose (choose_spec h)) else none
theorem z38{c:FT}{F:FS}:∀{n m:Nat} {ρ:Rho} {o:Oc},n≤m→z0Y c F n ρ=some o→z0Y c F m ρ=some o
 | 0,m,ρ,o,_,h=>by cases h
 | n+1,0,ρ,o,hl,h=>by omega
 | n+1,m+1,ρ,o,hl,h=>by
  unfold z0Y at h ⊢
  obtain⟨b,e1,e2⟩:=z04 h
  rw[e1]
  show(if b=true then _ else _)=_
  cases b with
  | false=>exact e2
  | true =>
   rw[if_pos rfl]at e2 ⊢
   obtain⟨oc,e3,e4⟩:=z04 e2
   rw[e3]
   cases oc with
   | nx ρ'=>exact z38 (by omega) e4
   | ct ρ'=>exact z38 (by omega) e4
   | bk ρ'=>exact e4
   | rt f d=>exact e4
   | ex C=>exact e4
theorem z4V{c:FT}{F:FS}{n:Nat}{ρ:Rho}{o:Oc}(h:z0Y c F n ρ=some o):z3h c F ρ=some o:=by
 have hx:∃ n o,z0Y c F n ρ=some o:=⟨n,o,h⟩
 unfold z3h
 rw[dif_pos hx]
 have z:=Classical.choose_spec (Classical.choose_spec hx)
 have a:=z38 (Nat.le_max_left n (Classical.choose hx)) h
 have b:=z38 (Nat.le_max_right n (Classical.choose hx)) z
 rw[a]at b
 exact b.symm
theorem zh7{c:FT}{F:FS}{ρ:Rho}{o:Oc}(h:z3h c F ρ=some o):∃ n,z0Y c F n ρ=some o:=by
 unfold z3h at h
 split at h
 · rename_i hx
   cases h
   exact⟨_,Classical.choose_spec (Classical.choose_spec hx)⟩
 · cases h
theorem zaI{c:Expr}{body:List Stmt}{Fc:FT}(hp:PassesOwn (model X.prog X.w) X.A X.env X.xe)(hc:PFT X c Fc)(hb:PFSs X body F):PFS X (.While c body [] pos) (z3h Fc F):=(zhL hp hc hb).imp fun D σ H hZ=>hZ.elim fun H₀ hZ=>hZ.elim fun ρ hZ=>hZ.elim fun oc hZ=>hZ.elim fun rb hZ=>hZ.elim fun e0 k=>by
 obtain⟨n0,e1⟩:=zh7 e0
 refine⟨fun m σ' H'=>∃ ρ',RepB X H₀ H' ρ' σ'∧z0Y Fc F m ρ'=some oc,⟨n0,ρ,rb,e1⟩,?_⟩
 rintro m σ' H' ⟨ρ',⟨O,rb'⟩,w'⟩
 cases m with
 | zero=>cases w'
 | succ n =>
  unfold z0Y at w'
  obtain⟨z,p1,p2⟩:=z04 w'
  refine⟨ρ',z,rb'.all,p1,fun H2 sm=>?_⟩
  dsimp only
  cases z with
  | false =>
   rw[if_neg Bool.false_ne_true]at p2 ⊢
   cases p2
   exact k _ _ ⟨O,rb'.mono sm⟩
  | true =>
   rw[if_pos rfl]at p2 ⊢
   obtain⟨oc',p3,p4⟩:=z04 p2
   refine⟨fun σ' H'=>∃ ρ'',RepB X H₀ H' ρ'' σ'∧z0Y Fc F n ρ''=some oc,fun σ3 H3 hZ=>hZ.elim fun ρ3 hZ=>hZ.elim fun rb3 w3=>⟨n,Nat.lt_succ_self n,ρ3,rb3,w3⟩,H₀,ρ',oc',⟨O,rb'.mono sm⟩,p3,?_⟩
   cases oc' with
   | nx ρ3=>exact fun σ3 H3 rb3=>⟨ρ3,rb3,p4⟩
   | ct ρ3=>exact fun σ3 H3 rb3=>⟨ρ3,rb3,p4⟩
   | bk ρ3=>cases p4;exact k
   | rt f d=>cases p4;exact k
   | ex C=>cases p4;exact k
def forF(g:Tg)(F:FS):List Dt→FS
 | [],ρ=>some (.nx ρ)
 | x::xs,ρ=>(g.put x ρ).bind fun ρ2=>(F ρ2).bind fun oc=>match oc with|.nx ρ'=>forF g F xs ρ'|.ct ρ'=>forF g F xs ρ'|.bk ρ'=>some (.nx ρ')|.rt f d=>some (.rt f d)|.ex C=>some (.ex C)
def sFor(rels:List Nat)(Fi:FI)(g:Tg)(F:FS):FS:=fun ρ=>(Fi (z1w (relS rels ρ))).bind fun items=>forF g F items (relS rels ρ)
end
section
variable {X:Cx}{H₀ H H':Hp}{O:Own}{ρ ρ':Rho}{σ:St}
theorem z7f:∀{is:List Nat} {ds:List Dt} {vs:List V} {O:Own} {ρ:Rho} {σ:St},RepO X H₀ H O ρ σ→Rps X.K emp ds (hidL O.adr H) vs→ds.length=is.length→z2b ρ is ds=ρ' →
  z1Z is vs σ H fun σ' H'=>H'=H∧∃ O',RepO X H₀ H O' ρ' σ'
 | [],[],vs,O,ρ,σ,rs,r,hl,q=>⟨Rps.nil_.mp r,rfl,O,by rw[←q];exact rs⟩
 | [],d::ds,vs,O,ρ,σ,rs,r,hl,q=>by cases hl
 | i::is,[],vs,O,ρ,σ,rs,r,hl,q=>by cases hl
 | i::is,d::ds,vs,O,ρ,σ,rs,r,hl,q=>by
  obtain⟨v,r',rfl,h1,h2⟩:=Rps.cons_.mp r
  exact⟨v,r',rfl,z7f (rs.set (f:=false) h1) (Rps.mono _ (z2R z0Z) h2) (by simpa using hl) q⟩
theorem Tg.simO{g:Tg}{d:Dt}{v:V}(rs:RepO X H₀ H O ρ σ)(r:Rp X.K emp d (hidL O.adr H) v)(h:g.put d ρ=some ρ'):
  g.low X.K v σ H fun σ' H'=>H'=H∧∃ O',RepO X H₀ H O' ρ' σ':=by
 cases g with
 | one i=>cases h;exact⟨rfl,_,rs.set (f:=false) r⟩
 | many is =>
  cases d<;>first|cases h|skip
  rename_i ds
  replace h:(if ds.length=is.length then some (z2b ρ is ds) else none)=some ρ':=h
  split at h
  · rename_i hl
    obtain⟨a,vs,rfl,h1,h2⟩:=Rp.tup_.mp r
    exact⟨a,vs,rfl,z0t.seqT h1,by rw[h2.length];exact hl,z7f rs h2 hl (Option.some.inj h)⟩
  · cases h
end
section
variable {X:Cx}{tg iter:Expr}{body:List Stmt}{Fi:FI}{g:Tg}{F:FS}{pos:Pos}
theorem z7g{rels:List Nat}(hp:PassesOwn (model X.prog X.w) X.A X.env X.xe)(hc:X.calm=true)(hi:PFI X tg iter Fi)(hg:PG X tg (g.low X.K))(hb:PFSs X body F)
   (hs:∀ x,foldedSetIterable iter X.env x=pure x:=by intro _;rfl):PFS X (.For tg iter body [] pos) (sFor rels Fi g F):=(zhM hp hc (PI.frame hi) hg hb hs).imp fun D σ H ⟨H₀,ρ,oc,⟨O,rb⟩,e0,k⟩=>by
 obtain⟨items,e1,e2⟩:=z04 e0
 obtain⟨O',rb'⟩:=rb.rels rels
 refine⟨O'.adr,rb'.own,z1w (relS rels ρ),items,rb'.rest,e1,fun J H1 sm hsz wk hn=>?_⟩
 have hg1:hidL O'.adr (z18 O'.adr H H1)=H1:=z2Q hn
 have s01:Same H₀ H1:=rb'.same.trans sm
 have start:RepO X H1 (z18 O'.adr H H1) O' (relS rels ρ) σ:=by
   have z:=rb'.mono (Same.glue sm hn)
   exact⟨z.ndA,z.ndI,z.own,z.len,rb'.b0.trans s01,by rw[hg1];exact Same.refl _,z.at_⟩
 have back:∀{oc:Oc},OcOk X H₀ D oc→OcOk X H1 D oc:=fun{oc} z=>by
   cases oc with
   | nx ρ5=>exact fun σ5 H5 hZ=>hZ.elim fun O5 r5=>z σ5 H5 ⟨O5,r5.base s01 rb'.b0⟩
   | bk ρ5=>exact fun σ5 H5 hZ=>hZ.elim fun O5 r5=>z σ5 H5 ⟨O5,r5.base s01 rb'.b0⟩
   | ct ρ5=>exact fun σ5 H5 hZ=>hZ.elim fun O5 r5=>z σ5 H5 ⟨O5,r5.base s01 rb'.b0⟩
   | rt f d=>exact fun v H5 s5 r5=>z v H5 (s01.trans s5) r5
   | ex n=>exact fun C q=>(z C q).base s01
 refine⟨fun i m σ' H'=>m=items.length-i∧∃ ρ',RepB X H1 H' ρ' σ'∧forF g F (items.drop i) ρ'=some oc,⟨_,rfl,_,⟨O',start⟩,e2⟩,?_⟩
 rintro i m σ' H' ⟨rfl,ρ',⟨O2,r2⟩,f2⟩
 obtain⟨w1,w2⟩:=wk O2.adr H' r2.same fun a ha=>by obtain⟨⟨vs,q⟩,_⟩:=r2.own a ha;exact⟨_,q⟩
 by_cases hlt:i<items.length
 · obtain⟨x,hx⟩:∃ x,items[i]?=some x:=⟨_,List.getElem?_eq_getElem hlt⟩
   have hdrop:items.drop i=x::items.drop (i+1):=by
    rw[List.drop_eq_getElem_cons hlt]
    rw[List.getElem?_eq_getElem hlt]at hx
    cases hx;rfl
   rw[hdrop]at f2
   unfold forF at f2
   obtain⟨ρ2,p1,f3⟩:=z04 f2
   obtain⟨oc',p2,f4⟩:=z04 f3
   obtain⟨go,yl⟩:=w1 i x hx
   refine .inr ⟨go,fun σ3 H3=>∃ ρ3,RepB X H1 H3 ρ3 σ3∧forF g F (items.drop (i+1)) ρ3=some oc,fun σ3 H3 hZ=>hZ.elim fun ρ3 hZ=>hZ.elim fun r3 f3=>⟨items.length-(i+1),by omega,rfl,ρ3,r3,f3⟩,fun xv H3 y3=>?_⟩
   obtain⟨s3,k3,r3⟩:=yl xv H3 y3
   have sm3:Same H' H3:=fun b o e=>by
    by_cases hb:b∈O2.adr
    · rw[k3 b hb];exact e
    · exact(z3J (s3 b o (by rw[z0k hb];exact e))).2
   refine Tg.low_mono (Tg.simO (r2.mono sm3) r3 p1) ?_
   rintro σ4 H4 ⟨eH,O4,r4⟩
   subst eH
   refine⟨H1,ρ2,oc',⟨O4,r4⟩,p2,?_⟩
   cases oc' with
   | nx ρ5=>exact fun σ5 H5 r5=>⟨ρ5,r5,f4⟩
   | ct ρ5=>exact fun σ5 H5 r5=>⟨ρ5,r5,f4⟩
   | bk ρ5=>cases f4;exact back k
   | rt f d=>cases f4;exact back k
   | ex C=>cases f4;exact back k
 · have hd:items.drop i=[]:=List.drop_of_length_le (by omega)
   rw[hd]at f2
   cases f2
   exact .inl ⟨w2 i (by omega),back k σ' H' ⟨O2,r2⟩⟩
end
section
variable {P:Program}{w:World}{K:PySem.W.Frag}{mg:Str→Option Value}{base:Heap}
def rho0(n:Nat)(ds:List Dt):Rho:=ds.map (Cell.sh false)++List.replicate (n-ds.length) Cell.no
theorem z8d{X:Cx}{H:Hp}{ds:List Dt}{vs:List V}{N:List Str}(h0:X.H₀=H)(h:Rps X.K emp ds H vs):RepO X H H [] (rho0 N.length ds) (start N vs):=by
 have hl:=h.length
 refine⟨List.nodup_nil,List.nodup_nil,fun a ha=>(nomatch ha),by unfold rho0 start;simp[hl],by rw[h0];exact Same.refl H,by show Same H (hidL [] H);rw[zbo];exact Same.refl H,fun i c e=>?_⟩
 unfold rho0 at e
 unfold start
 by_cases hi:i<ds.length
 · rw[List.getElem?_append_left (by simpa using hi),List.getElem?_map]at e
   cases q:ds[i]? with
   | none=>rw[q]at e;cases e
   | some d =>
     rw[q]at e
     cases e
     obtain⟨v,e1,e2⟩:=h.get q
     refine⟨some v,?_,v,rfl,by show Rp X.K emp d (hidL [] H) v;rw[zbo];exact e2⟩
     rw[List.getElem?_append_left (by simp;omega),List.getElem?_map,e1];rfl
 · rw[List.getElem?_append_right (by simp;omega),List.getElem?_replicate]at e
   split at e
   · cases e
     rename_i hlt
     simp at hlt
     refine⟨none,?_,trivial⟩
     rw[List.getElem?_append_right (by simp;omega),List.getElem?_replicate,if_pos (by simp;omega)]
   · cases e
def cOf(np n:Nat)(fr:Bool)(F:FS):FC:=fun ds=>if ds.length=np then
 (F (rho0 n ds)).bind fun oc=>match oc with|.rt f d=>if fr&&!(f.isFr||d.flat) then none else some d|.nx _=>some .non|_=>none
 else none
theorem Fun.data{x qual:Str}{st:Stmt}{f:Addr}{fd:FuncData}{N ps:List Str}{k:Nat}{fr:Bool}{F:FS}(Fu:Fun K x qual st f fd)(S:FnScope N ps (z05 st))
    (body:∀(cdv:Value) (A:Around) (outer:List Env) (s:Shared) (H:Hp) (E:XK),Room k (A.deeper (envOfC qual (z05 st) s.heap.objs.size f cdv)) →
      PFSs (cxOf CX0 P w K mg base N qual (z05 st) f cdv A outer s H E).nox (z1u st) F):FnOk P w K mg base CX0 (k+1) f fd ps (spc K fr (cOf ps.length N.length fr F)):=by
  refine Fu.ok S (fun vs H Q E h=>?_) (fun cdv A outer s H vs Q E hr h=>?_)
  · obtain⟨ds,d,r,e,q⟩:=h
    unfold cOf at e
    split at e
    · rename_i hl
      rw[r.length];exact hl
    · cases e
  · obtain⟨ ds,d,r,e,q⟩:=h
    unfold cOf at e
    split at e
    · rename_i hl
      obtain⟨oc,e1,e2⟩:=z04 e
      refine⟨_,body cdv A outer s H E hr,H,rho0 N.length ds,oc,⟨[],z8d rfl r⟩,e1,?_⟩
      cases oc with
      | nx ρ=>cases e2;exact fun σ H' hZ=>hZ.elim fun O rb=>q _ H' (rb.same.trans z0t) (Rp.non_.mpr rfl)
      | bk ρ=>cases e2
      | ct ρ=>cases e2
      | ex C=>cases e2
      | rt f d' =>
        have e2:(if(fr&&!(f.isFr||d'.flat))=true then none else some d')=some d:=e2
        split at e2
        · cases e2
        · rename_i hf
          cases e2
          refine fun v H' sm r'=>q v H' sm ?_
          cases fr with
          | false=>exact Rp.anti Same.emp _ r'
          | true =>
            have hf:f.isFr=true∨d.flat=true:=by
              cases h1:f.isFr<;>cases h2:d.flat<;>simp[h1,h2]at hf ⊢
            rcases hf with hf|hf
            · rw[hf]at r';exact r'
            · exact Rp.flat d hf r'
    · cases e
theorem zh8{l:PySem.W.OpenLaw}{q:Program}{loose:List Str}{XP:(Str→Option Value)→Heap→Prop}{YP:World→Heap→Prop}{d:DefRec}{K:Params→PySem.W.Frag}{x:Str}{k:Nat}{fr:Bool}{c:FC}(hn:l.most=some 63)(hdf:d.params.defaults=[])
  (hY:∀(w:World) (h:Heap),YP w h→(K w.params).In h)
  (F:∀(w:World) (mg:Str→Option Value) (fa:Addr) (h:Heap),(K w.params).In h→h.Ns mainGlobals mg→mg d.name=some (.ref fa) →
   ∃ fd:FuncData,(∀(s:Shared) (u:Value),BindsTo s fd ⟨[u],[]⟩ [(x,u)])∧∀ base:Heap,(K w.params).In base→base.Ns mainGlobals mg→FnOk l.prog w (K w.params) mg base CX0 k fa fd [x] (spc (K w.params) fr c))
  (hc:∀ ns:List Int,ns.length≤63→c [.scr ns]=some (.bl true))
  (hr:Room k callerA):PySem.W.WalkO q loose XP YP l.row.toRowW d [] (fun f vs=>PySem.call f vs) :=
 L2.zlI (n:=63) (k:=k) (x:=x) (CX:=fun _=>CX0) (sp:=fun w=>spc (K w.params) fr c) hn (by decide) hdf hr hY F
  (fun w H a ns hl _ hS=>⟨[.scr ns],_,Rps.one (Rp.scr_.mpr ⟨a,rfl,rfl,hS⟩),hc ns hl,fun v H' _ r=>by cases fr<;>exact Rp.bl_.mp r⟩) fun _ _ _ _ _ z=>z
end
def zij(XN:List Str)(xs:List (Str×NameKind))(scope:Scope)(N:List Str)(nt:Nat)(js:List Nat):Bool :=
 decide ((scope.names.map (·.1)).Nodup)&&(N.length==nt+js.length)&&((List.range js.length).all fun k=>match js[k]? with
  | some j=>(match N[nt+k]?,XN[j]? with|some x,some y=>x==y&&scope.names.lookup x==some .free|_,_=>false)
  | none=>false)&&scope.names.all fun p=>p.2 != .free||xs.lookup p.1==some .cell||xs.lookup p.1==some .free
theorem z0c{X:Cx}{N:List Str}{scope:Scope}{nt:Nat}{js:List Nat}(XN:List Str)(xs:List (Str×NameKind))(h1:X.N=XN)(h2:X.env.scope.names=xs)(hk:scope.kind = .function)(c:zij XN xs scope N nt js=true):CompScope X N scope nt js:=by
 unfold zij at c
 rw[Bool.and_eq_true,Bool.and_eq_true,Bool.and_eq_true]at c
 obtain⟨⟨⟨c1,c2⟩,c3⟩,c4⟩:=c
 have nd:=of_decide_eq_true c1
 refine⟨hk,nd,fun x hx e=>by rw[z2u nd hx,e],beq_iff_eq.mp c2,fun k j e=>?_,fun x hx e=>?_⟩
 · have hk:k<js.length:=by
     by_cases hk:k<js.length
     · exact hk
     · rw[List.getElem?_eq_none (by omega)]at e;cases e
   have z:=List.all_eq_true.mp c3 k (List.mem_range.mpr hk)
   rw[e]at z
   dsimp only at z
   rw[h1]
   cases q1:N[nt+k]? with
   | none=>rw[q1]at z;cases z
   | some x =>
     cases q2:XN[j]? with
     | none=>rw[q1,q2]at z;cases z
     | some y =>
       rw[q1,q2]at z
       dsimp only at z
       rw[Bool.and_eq_true]at z
       have exy:x=y:=beq_iff_eq.mp z.1
       subst exy
       exact⟨x,rfl,rfl,beq_iff_eq.mp z.2⟩
 · have z:=List.all_eq_true.mp c4 x hx
   rw[e]at z
   have z:(xs.lookup x.1==some .cell||xs.lookup x.1==some .free)=true:=by simpa using z
   show X.env.scope.names.lookup x.1=_∨X.env.scope.names.lookup x.1=_
   rw[h2]
   rcases Bool.or_eq_true _ _ |>.mp z with z|z
   · exact .inl (beq_iff_eq.mp z)
   · exact .inr (beq_iff_eq.mp z)
structure Df(K:PySem.W.Frag)(mg:Str→Option Value)(name:Str)(st:Stmt)(ps:List Str)(f:Addr)(fd:FuncData):Prop where
 fn:Fun K name name st f fd
 mg:mg name=some (.ref f)
 bd:Binds K fd ps []
theorem df_mk{K:PySem.W.Frag}{h:Heap}{mg:Str→Option Value}(X:K.In h)(G:h.Ns mainGlobals mg){x:Str}{st:Stmt}{f:Addr}{oc:Value}{od an:Option Addr}{osl:Array (Option Value)}{kV doc pm cdv ct:Value}{ps:List Str}
  (e:PySem.W.nsIn K mainGlobals x=some (some (.ref f))) (l:K.lookup f=some ⟨oc,od,.func (PySem.W.fnOf x x (z2j st) (z1u st) (z05 st) .none kV doc pm an cdv ct),osl⟩) (c:PySem.W.codeIn K cdv x=true) (k:PySem.W.keepIn K (.ref f)=true)
  (hb:∀(kV doc pm:Value) (an:Option Addr) (cdv ct:Value) (us:List Value),us.length=ps.length→bindArgs (PySem.W.fnOf x x (z2j st) (z1u st) (z05 st) .none kV doc pm an cdv ct) ⟨us,[]⟩=pure (ps.zip us)) :
  Df K mg x st ps f (PySem.W.fnOf x x (z2j st) (z1u st) (z05 st) .none kV doc pm an cdv ct) :=
 ⟨zhV l c k,PySem.W.mg_of X G e,(zhV (st:=st) l c k).binds hb⟩
end L2

end
section
set_option Elab.async false
set_option linter.all false
set_option maxRecDepth 100000
namespace ZL
open PySem PyProof.Rows
def ItAt(h:Heap)(tu:Bool)(it l:Addr)(k:Nat):Prop:=if tu then h.IsTupleIter it l k else h.IsListIter it l k
def SqAt(h:Heap)(tu:Bool)(l:Addr)(xs:Array Value):Prop:=if tu then h.IsTuple l xs else h.IsList l xs
section
variable {h h':Heap}{tu:Bool}{it l c:Addr}{k:Nat}{xs:Array Value}
theorem ItAt.at(x:ItAt h tu it l k)(q:∀ o,h.get? it=some o→h'.get? it=some o):ItAt h' tu it l k:=by
 unfold ItAt at x ⊢
 cases tu with
 | true=>obtain⟨o,e,r⟩:=x;exact⟨o,q o e,r⟩
 | false=>obtain⟨o,e,r⟩:=x;exact⟨o,q o e,r⟩
theorem SqAt.at(x:SqAt h tu l xs)(q:∀ o,h.get? l=some o→h'.get? l=some o):SqAt h' tu l xs:=by
 unfold SqAt at x ⊢
 cases tu with
 | true=>obtain⟨o,e,r⟩:=x;exact⟨o,q o e,r⟩
 | false=>obtain⟨o,e,r⟩:=x;exact⟨o,q o e,r⟩
theorem ItAt.lt(x:ItAt h tu it l k):it<h.objs.size:=by
 unfold ItAt at x
 cases tu with
 | true=>obtain⟨o,e,_⟩:=x;exact Heap.lt_size e
 | false=>obtain⟨o,e,_⟩:=x;exact Heap.lt_size e
theorem SqAt.lt(x:SqAt h tu l xs):l<h.objs.size:=by
 unfold SqAt at x
 cases tu with
 | true=>obtain⟨o,e,_⟩:=x;exact Heap.lt_size e
 | false=>obtain⟨o,e,_⟩:=x;exact Heap.lt_size e
end
section
variable {prog:Program}{w:World}{A:Around}{E:Value→Shared→Prop}{s:Shared}
theorem zcH{it t:Addr}{i:Nat}{items:Array Value}{x:Value}{Q:Value→Shared→Prop}(a:s.heap.IsTupleIter it t i)(b:s.heap.IsTuple t items)(c:items[i]?=some x)
  (q:∀ h',h'.IsTupleIter it t (i+1)→Heap.SameBut it s.heap h'→Q x { s with heap:=h' }):wpAny (model prog w) A (Builtin.SmallTypes.nextOf (.ref it)) Q E s:=by
 obtain⟨o,e1,e2,e3⟩:=id a
 obtain⟨p,f1,_,n,f2⟩:=b
 unfold Builtin.SmallTypes.nextOf
 refine wpAny_bind (wpAny_callSpecial?_slot (name:=Str.ofString "__next__") a.typeIs F.slot_tuple_iterator_next (wpAny_call_entry F.slot_tuple_iterator_next a.typeIs F.entry_tuple_iterator_next ?_ (F.args_tuple_iterator_next_1 _)))
 show wpAny _ _ (field (.ref it) 0 >>= fun z=>_) _ _ s
 refine wpAny_bind (wpAny_field e1 e3 (x:=Value.ref t) rfl ?_)
 show wpAny _ _ (if(Value.ref t==Value.none)=true then _ else _) _ _ s
 rw[if_neg (by exact Bool.false_ne_true)]
 show wpAny _ _ (field (.ref it) 1 >>= fun z=>_) _ _ s
 refine wpAny_bind (wpAny_field e1 e3 (x:=Value.int i 0) rfl ?_)
 show wpAny _ _ (seqItems? (.ref t) >>= fun z=>_) _ _ s
 refine wpAny_bind (wpAny_seqItems f1 f2 ?_)
 simp only[Int.toNat_natCast,c]
 refine wpAny_bind (wpAny_setField e1 e3 (by simp) (wpAny_pure ⟨x,rfl,wpAny_pure (q _ ⟨_,Heap.get?_update_self _ e1 (Obj.isFreed_of_fields (Obj.data_mapFields e3 _)),(Obj.cls_mapFields ..).trans e2,?_⟩ (Heap.SameBut.update ..))⟩))
 rw[Obj.data_mapFields e3]
 simp[rawInt]
theorem zh9{it t:Addr}{i:Nat}{items:Array Value}{Q:Value→Shared→Prop}(hn:A.handled=none)(a:s.heap.IsTupleIter it t i)(b:s.heap.IsTuple t items)(c:items[i]?=none)
  (q:∀ h' e,Heap.ExtBut it s.heap h'→(∃ o,h'.get? e=some o∧o.cls = .type "StopIteration")→E (.ref e) { s with heap:=h' }):wpAny (model prog w) A (Builtin.SmallTypes.nextOf (.ref it)) Q E s:=by
 obtain⟨o,e1,e2,e3⟩:=id a
 obtain⟨p,f1,_,n,f2⟩:=b
 unfold Builtin.SmallTypes.nextOf
 refine wpAny_bind (wpAny_callSpecial?_slot (name:=Str.ofString "__next__") a.typeIs F.slot_tuple_iterator_next (wpAny_call_entry F.slot_tuple_iterator_next a.typeIs F.entry_tuple_iterator_next ?_ (F.args_tuple_iterator_next_1 _)))
 show wpAny _ _ (field (.ref it) 0 >>= fun z=>_) _ _ s
 refine wpAny_bind (wpAny_field e1 e3 (x:=Value.ref t) rfl ?_)
 show wpAny _ _ (if(Value.ref t==Value.none)=true then _ else _) _ _ s
 rw[if_neg (by exact Bool.false_ne_true)]
 show wpAny _ _ (field (.ref it) 1 >>= fun z=>_) _ _ s
 refine wpAny_bind (wpAny_field e1 e3 (x:=Value.int i 0) rfl ?_)
 show wpAny _ _ (seqItems? (.ref t) >>= fun z=>_) _ _ s
 refine wpAny_bind (wpAny_seqItems f1 f2 ?_)
 simp only[Int.toNat_natCast,c]
 refine wpAny_bind (wpAny_rule (wpAny_bind (wpAny_setField e1 e3 (by simp) ?_)))
 show wpAny _ _ (newExc (.type "StopIteration") [] >>= fun z=>_) _ _ _
 refine wpAny_bind ?_
 simp only[newExc,newTuple]
 refine wpAny_bind (wpAny_newObj_type ?_ (by size_fits))
 refine wpAny_bind (m:=firstArgMember _ _) (wpAny_of_eq (a:=Value.none) (by first|(simp only[firstArgMember];rfl)|rfl) ?_)
 refine wpAny_newObj_type ?_ (by size_fits)
 simp only[raiseNew]
 refine wpAny_bind (wpAny_handled ?_)
 first|rw[hn]|rw[show A.in1.handled=none from hn]
 refine wpAny_bind (wpAny_pure (wpAny_throw ?_))
 exact q _ _ (((Heap.SameBut.update ..).extBut.push _).push _) ⟨_,Heap.get?_push_size _ rfl,rfl⟩
theorem z9F{tu:Bool}{it l:Addr}{i:Nat}{items:Array Value}{x:Value}{Q:Option Value→Shared→Prop}(a:ItAt s.heap tu it l i)(b:SqAt s.heap tu l items)(c:items[i]?=some x)
  (q:∀ h',ItAt h' tu it l (i+1)→Heap.SameBut it s.heap h'→Q (some x) { s with heap:=h' }):wpAny (model prog w) A (Builtin.SmallTypes.nextOrEnd (.ref it)) Q E s:=by
 unfold Builtin.SmallTypes.nextOrEnd
 cases tu with
 | true=>exact wpAny_bind (wpAny_attempt (zcH a b c fun h' p1 p2=>wpAny_pure (q h' p1 p2)))
 | false=>exact wpAny_bind (wpAny_attempt (wpAny_nextOf_list_item a b c fun h' p1 p2=>wpAny_pure (q h' p1 p2)))
theorem zbu{tu:Bool}{it l:Addr}{i:Nat}{items:Array Value}{Q:Option Value→Shared→Prop}(hn:A.handled=none)(a:ItAt s.heap tu it l i)(b:SqAt s.heap tu l items)(c:items[i]?=none)
  (q:∀ h',Heap.ExtBut it s.heap h'→Q none { s with heap:=h' }):wpAny (model prog w) A (Builtin.SmallTypes.nextOrEnd (.ref it)) Q E s:=by
 unfold Builtin.SmallTypes.nextOrEnd
 cases tu with
 | true=>exact wpAny_bind (wpAny_attempt (zh9 hn a b c fun h' e p1 hZ=>hZ.elim fun o hZ=>hZ.elim fun p2 p3=>wpAny_bind (wpAny_isInstance (T := "StopIteration") (b:=true) ⟨o,p2,p3⟩ isSubtype_stop (wpAny_pure (q h' p1)))))
 | false=>exact wpAny_bind (wpAny_attempt (wpAny_nextOf_list_end hn a b c fun h' e p1 hZ=>hZ.elim fun o hZ=>hZ.elim fun p2 p3=>wpAny_bind (wpAny_isInstance (T := "StopIteration") (b:=true) ⟨o,p2,p3⟩ isSubtype_stop (wpAny_pure (q h' p1)))))
def z2n(h:Heap)(z ti to:Addr)(f:Value):Prop:=h.get? z=some { cls := .type "zip",dict:=none,data := .fields #[f,.bool false,.bool true,.ref ti,.ref to],slots:=#[] }
structure Apart(z ti to i j a b:Addr):Prop where
 p1:ti≠z
 p2:to≠z
 p3:i≠z
 p4:j≠z
 p5:ti≠to
 p6:ti≠i
 p7:ti≠j
 p8:to≠i
 p9:to≠j
 p10:i≠j
 a1:a≠z
 a2:a≠to
 a3:a≠i
 a4:a≠j
 b1:b≠z
 b2:b≠to
 b3:b≠i
 b4:b≠j
def zEnd(l:List Value)(n:Nat):Sem PySem.Fin:=do
 if n > 0 then
  rule "zip.__next__.shorter";raiseError "ValueError" s!"zip() argument {n + 1} is shorter than {if n == 1 then "argument 1" else s!"arguments 1-{n}"}"
 for (e,m) in (l.drop 1).zipIdx 1 do
  if(←Builtin.SmallTypes.nextOrEnd e).isSome then
   rule "zip.__next__.longer";raiseError "ValueError" s!"zip() argument {m + 1} is longer than {if m == 1 then "argument 1" else s!"arguments 1-{m}"}"
 rule "zip.__next__.all-ended";Builtin.SmallTypes.stopIteration
theorem zik{z ti to i j a b:Addr}{ta tb:Bool}{k:Nat}{xs ys:Array Value}{x y u v:Value}{Q:Value→Shared→Prop}(D:Apart z ti to i j a b)
  (hz:z2n s.heap z ti to .none) (hI:IsPair s.heap ti (.ref i) (.ref j)) (hO:IsPair s.heap to u v) (hi:ItAt s.heap ta i a k) (hj:ItAt s.heap tb j b k) (ha:SqAt s.heap ta a xs) (hb:SqAt s.heap tb b ys) (hx:xs[k]?=some x) (hy:ys[k]?=some y)
  (hQ:∀ h',z2n h' z ti to (rawInt s.heap.objs.size)→IsPair h' to x y→ItAt h' ta i a (k+1)→ItAt h' tb j b (k+1)→IsPair h' s.heap.objs.size x y→h'.objs.size=s.heap.objs.size+1 →
   (∀ c o,c≠z→c≠to→c≠i→c≠j→s.heap.get? c=some o→h'.get? c=some o)→Q (.ref s.heap.objs.size) { s with heap:=h' }) :
  wpAny (model prog w) A (Builtin.«zip.__next__» ⟨[.ref z],[]⟩) (fun fin s'=>∃ v,fin = .done (.ret v)∧Q v s') E s:=by
 show wpAny _ _ (field (.ref z) 2 >>= fun t=>_) _ _ _
 refine wpAny_bind (wpAny_field hz rfl (x:=Value.bool true) rfl ?_)
 show wpAny _ _ (field (.ref z) 3 >>= fun t=>_) _ _ _
 refine wpAny_bind (wpAny_field hz rfl (x:=Value.ref ti) rfl ?_)
 refine wpAny_bind (wpAny_seqItems hI rfl ?_)
 show wpAny _ _ (Builtin.SmallTypes.ownedTupleIsFree (.ref z) >>= fun t=>_) _ _ _
 refine wpAny_bind ?_
 unfold Builtin.SmallTypes.ownedTupleIsFree
 refine wpAny_bind (wpAny_field hz rfl (x:=Value.none) rfl (wpAny_pure ?_))
 simp only[if_true]
 refine wpAny_bind (wpAny_rule ?_)
 refine wpAny_bind (wpAny_field hz rfl (x:=Value.ref to) rfl ?_)
 refine wpAny_bind (wpAny_setField_rec hz (by simp) fun g1 z1 m1=>?_)
 replace z1:z2n g1 z ti to .ellipsis:=z1
 refine wpAny_bind ?_
 simp only[List.zipIdx_cons,List.forIn_cons,List.zipIdx_nil,List.forIn_nil]
 refine wpAny_bind (wpAny_bind (wpAny_onRaise ?_))
 show wpAny _ _ (Builtin.SmallTypes.nextOrEnd (.ref i)) _ _ _
 refine z9F (hi.at fun o e=>m1.extBut _ _ D.p3 e) (ha.at fun o e=>m1.extBut _ _ D.a1 e) hx fun g2 i2 m2=>?_
 have o2:IsPair g2 to u v:=m2.extBut _ _ D.p8 (m1.extBut _ _ D.p2 hO)
 refine wpAny_bind (wpAny_seqItems o2 rfl ?_)
 refine wpAny_bind (wpAny_updateSeq_pair o2 fun g3 o3 m3=>?_)
 replace o3:IsPair g3 to x v:=o3
 refine wpAny_bind (wpAny_letGo (wpAny_pure ?_))
 refine wpAny_bind (wpAny_bind (wpAny_onRaise ?_))
 show wpAny _ _ (Builtin.SmallTypes.nextOrEnd (.ref j)) _ _ _
 refine z9F (hj.at fun o e=>m3.extBut _ _ D.p9.symm (m2.extBut _ _ D.p10.symm (m1.extBut _ _ D.p4 e))) (hb.at fun o e=>m3.extBut _ _ D.b2 (m2.extBut _ _ D.b3 (m1.extBut _ _ D.b1 e))) hy fun g4 j4 m4=>?_
 have o4:IsPair g4 to x v:=m4.extBut _ _ D.p9 o3
 refine wpAny_bind (wpAny_seqItems o4 rfl ?_)
 refine wpAny_bind (wpAny_updateSeq_pair o4 fun g5 o5 m5=>?_)
 replace o5:IsPair g5 to x y:=o5
 refine wpAny_bind (wpAny_letGo (wpAny_pure (wpAny_pure ?_)))
 refine wpAny_bind (wpAny_seqItems o5 rfl ?_)
 refine wpAny_bind (wpAny_newTuple ?_)
 have sz:g5.objs.size=s.heap.objs.size:=by rw[m5.1,m4.1,m3.1,m2.1,m1.1]
 have z5:z2n g5 z ti to .ellipsis:=m5.extBut _ _ D.p2.symm (m4.extBut _ _ D.p4.symm (m3.extBut _ _ D.p2.symm (m2.extBut _ _ D.p3.symm z1)))
 have k5:∀ c o,c≠z→c≠to→c≠i→c≠j→s.heap.get? c=some o→g5.get? c=some o:=fun c o c1 c2 c3 c4 e=>m5.extBut _ _ c2 (m4.extBut _ _ c4 (m3.extBut _ _ c2 (m2.extBut _ _ c3 (m1.extBut _ _ c1 e))))
 have i5:ItAt g5 ta i a (k+1):=i2.at fun o e=>m5.extBut _ _ D.p8.symm (m4.extBut _ _ D.p10 (m3.extBut _ _ D.p8.symm e))
 have j5:ItAt g5 tb j b (k+1):=j4.at fun o e=>m5.extBut _ _ D.p9.symm e
 have zl:z<g5.objs.size:=Heap.lt_size z5
 show wpAny _ _ (Builtin.SmallTypes.ownedTupleHandOut (.ref z) (.ref g5.objs.size) >>= fun t=>_) _ _ _
 refine wpAny_bind ?_
 unfold Builtin.SmallTypes.ownedTupleHandOut
 have z6:z2n (g5.push { cls := .type "tuple",data := .seq #[x,y] }) z ti to .ellipsis:=Heap.get?_push_of_some _ z5
 refine wpAny_bind (wpAny_setField_rec z6 (by simp) fun g7 z7 m7=>?_)
 replace z7:z2n g7 z ti to (rawInt g5.objs.size):=z7
 refine wpAny_setField_rec z7 (by simp) fun g8 z8 m8=>?_
 replace z8:z2n g8 z ti to (rawInt g5.objs.size):=z8
 have up:∀ c o,c≠z→g5.get? c=some o→g8.get? c=some o:=fun c o c1 e=>m8.extBut _ _ c1 (m7.extBut _ _ c1 (Heap.get?_push_of_some _ e))
 have t8:IsPair g8 g5.objs.size x y:=m8.extBut _ _ (Nat.ne_of_gt zl) (m7.extBut _ _ (Nat.ne_of_gt zl) (Heap.get?_push_size _ rfl))
 have s8:g8.objs.size=g5.objs.size+1:=by rw[m8.1,m7.1,Heap.size_push]
 rw[sz]at z8 t8 s8
 refine wpAny_pure ⟨_,rfl,?_⟩
 show Q (.ref g5.objs.size) _
 rw[sz]
 exact hQ g8 z8 (up _ _ D.p2 o5) (i5.at fun o e=>up _ o D.p3 e) (j5.at fun o e=>up _ o D.p4 e) t8 s8 fun c o c1 c2 c3 c4 e=>up c o c1 (k5 c o c1 c2 c3 c4 e)
theorem zlT{z ti to i j a b:Addr}{ta tb:Bool}{k:Nat}{xs ys:Array Value}{u v:Value}{Q:Fin→Shared→Prop}(hn:A.handled=none)(D:Apart z ti to i j a b)
  (hz:z2n s.heap z ti to .none) (hI:IsPair s.heap ti (.ref i) (.ref j)) (hO:IsPair s.heap to u v) (hi:ItAt s.heap ta i a k) (hj:ItAt s.heap tb j b k) (ha:SqAt s.heap ta a xs) (hb:SqAt s.heap tb b ys) (hx:xs[k]?=none) (hy:ys[k]?=none)
  (hE:∀ h' e,(∀ c o,c≠z→c≠to→c≠i→c≠j→s.heap.get? c=some o→h'.get? c=some o)→(∃ o,h'.get? e=some o∧o.cls = .type "StopIteration")→E (.ref e) { s with heap:=h' }) :
  wpAny (model prog w) A (Builtin.«zip.__next__» ⟨[.ref z],[]⟩) Q E s:=by
 show wpAny _ _ (field (.ref z) 2 >>= fun t=>_) _ _ _
 refine wpAny_bind (wpAny_field hz rfl (x:=Value.bool true) rfl ?_)
 show wpAny _ _ (field (.ref z) 3 >>= fun t=>_) _ _ _
 refine wpAny_bind (wpAny_field hz rfl (x:=Value.ref ti) rfl ?_)
 refine wpAny_bind (wpAny_seqItems hI rfl ?_)
 show wpAny _ _ (Builtin.SmallTypes.ownedTupleIsFree (.ref z) >>= fun t=>_) _ _ _
 refine wpAny_bind ?_
 unfold Builtin.SmallTypes.ownedTupleIsFree
 refine wpAny_bind (wpAny_field hz rfl (x:=Value.none) rfl (wpAny_pure ?_))
 simp only[if_true]
 refine wpAny_bind (wpAny_rule ?_)
 refine wpAny_bind (wpAny_field hz rfl (x:=Value.ref to) rfl ?_)
 refine wpAny_bind (wpAny_setField_rec hz (by simp) fun g1 z1 m1=>?_)
 replace z1:z2n g1 z ti to .ellipsis:=z1
 refine wpAny_bind ?_
 simp only[List.zipIdx_cons,List.forIn_cons,List.zipIdx_nil,List.forIn_nil]
 refine wpAny_bind (wpAny_bind (wpAny_onRaise ?_))
 show wpAny _ _ (Builtin.SmallTypes.nextOrEnd (.ref i)) _ _ _
 refine zbu hn (hi.at fun o e=>m1.extBut _ _ D.p3 e) (ha.at fun o e=>m1.extBut _ _ D.a1 e) hx fun g2 m2=>?_
 have z2:z2n g2 z ti to .ellipsis:=m2 _ _ D.p3.symm z1
 refine wpAny_bind (wpAny_setField_rec z2 (by simp) fun g3 z3 m3=>?_)
 refine wpAny_bind ?_
 show wpAny _ _ (zEnd [.ref i,.ref j] 0) _ _ _
 unfold zEnd
 rw[if_neg (Nat.lt_irrefl 0)]
 show wpAny _ _ (forIn [(Value.ref j,1)] PUnit.unit _ >>= fun t=>_) _ _ _
 simp only[List.forIn_cons,List.forIn_nil]
 refine wpAny_bind (wpAny_bind (wpAny_bind (zbu hn (hj.at fun o e=>m3.extBut _ _ D.p4 (m2 _ _ D.p10.symm (m1.extBut _ _ D.p4 e))) (hb.at fun o e=>m3.extBut _ _ D.b1 (m2 _ _ D.b3 (m1.extBut _ _ D.b1 e))) hy fun g4 m4=>?_)))
 simp only[Option.isSome_none,Bool.false_eq_true,if_false]
 refine wpAny_pure (wpAny_pure (wpAny_bind (wpAny_rule ?_)))
 unfold Builtin.SmallTypes.stopIteration
 refine wpAny_bind ?_
 simp only[newExc,newTuple]
 refine wpAny_bind (wpAny_newObj_type ?_ (by size_fits))
 refine wpAny_bind (m:=firstArgMember _ _) (wpAny_of_eq (a:=Value.none) (by first|(simp only[firstArgMember];rfl)|rfl) ?_)
 refine wpAny_newObj_type ?_ (by size_fits)
 simp only[raiseNew]
 refine wpAny_bind (wpAny_handled ?_)
 first|rw[hn]|rw[show A.in1.handled=none from hn]
 refine wpAny_bind (wpAny_pure (wpAny_throw ?_))
 refine hE _ _ (fun c o c1 c2 c3 c4 e=>?_) ⟨_,Heap.get?_push_size _ rfl,rfl⟩
 exact Heap.get?_push_of_some _ (Heap.get?_push_of_some _ (m4 _ _ c4 (m3.extBut _ _ c1 (m2 _ _ c3 (m1.extBut _ _ c1 e)))))
theorem zha{z ti to i j a b:Addr}{ta tb:Bool}{k:Nat}{xs ys:Array Value}{x y u v:Value}{Q:Option Value→Shared→Prop}(D:Apart z ti to i j a b)
  (hz:z2n s.heap z ti to .none) (hI:IsPair s.heap ti (.ref i) (.ref j)) (hO:IsPair s.heap to u v) (hi:ItAt s.heap ta i a k) (hj:ItAt s.heap tb j b k) (ha:SqAt s.heap ta a xs) (hb:SqAt s.heap tb b ys) (hx:xs[k]?=some x) (hy:ys[k]?=some y)
  (hQ:∀ h',z2n h' z ti to (rawInt s.heap.objs.size)→IsPair h' to x y→ItAt h' ta i a (k+1)→ItAt h' tb j b (k+1)→IsPair h' s.heap.objs.size x y→h'.objs.size=s.heap.objs.size+1 →
   (∀ c o,c≠z→c≠to→c≠i→c≠j→s.heap.get? c=some o→h'.get? c=some o)→Q (some (.ref s.heap.objs.size)) { s with heap:=h' }):wpAny (model prog w) A (pyNext (.ref z)) Q E s:=by
 have t:s.TypeIs (.ref z) "zip" := ⟨_,hz,rfl⟩
 unfold pyNext
 exact wpAny_bind (wpAny_attempt (wpAny_callSpecial?_slot (name:=Str.ofString "__next__") t F.slot_zip_next (wpAny_call_entry F.slot_zip_next t F.entry_zip_next
  (zik D hz hI hO hi hj ha hb hx hy fun h' q1 q2 q3 q4 q5 q6 q7=>wpAny_pure (hQ h' q1 q2 q3 q4 q5 q6 q7)) (F.args_zip_next_1 _))))
theorem zil{z ti to i j a b:Addr}{ta tb:Bool}{k:Nat}{xs ys:Array Value}{u v:Value}{Q:Option Value→Shared→Prop}(hn:A.handled=none)(D:Apart z ti to i j a b)
  (hz:z2n s.heap z ti to .none) (hI:IsPair s.heap ti (.ref i) (.ref j)) (hO:IsPair s.heap to u v) (hi:ItAt s.heap ta i a k) (hj:ItAt s.heap tb j b k) (ha:SqAt s.heap ta a xs) (hb:SqAt s.heap tb b ys) (hx:xs[k]?=none) (hy:ys[k]?=none)
  (hQ:∀ h',(∀ c o,c≠z→c≠to→c≠i→c≠j→s.heap.get? c=some o→h'.get? c=some o)→Q none { s with heap:=h' }):wpAny (model prog w) A (pyNext (.ref z)) Q E s:=by
 have t:s.TypeIs (.ref z) "zip" := ⟨_,hz,rfl⟩
 unfold pyNext
 refine wpAny_bind (wpAny_attempt (wpAny_callSpecial?_slot (name:=Str.ofString "__next__") t F.slot_zip_next (wpAny_call_entry F.slot_zip_next t F.entry_zip_next
  (zlT hn D hz hI hO hi hj ha hb hx hy fun h' e q1 hZ=>hZ.elim fun o hZ=>hZ.elim fun q2 q3=>?_) (F.args_zip_next_1 _))))
 exact wpAny_bind (wpAny_isInstance (T := "StopIteration") (b:=true) ⟨o,q2,q3⟩ isSubtype_stop (wpAny_pure (hQ _ q1)))
theorem let_go{elts:List Expr}{n:Nat}{pos:Pos}{z ti to t:Addr}{Q:Unit→Shared→Prop}(hz:z2n s.heap z ti to (rawInt t))
  (hQ:∀ h',z2n h' z ti to .none→Heap.SameBut z s.heap h'→Q () { s with heap:=h' }):wpAny (model prog w) A (letOwnedTupleGo (.Tuple elts n pos) (.ref z) (.ref t)) Q E s:=by
 unfold letOwnedTupleGo
 refine wpAny_bind (wpAny_load hz ?_)
 show wpAny _ _ (if(["enumerate", "zip", "dict_itemiterator", "dict_reverseitemiterator", "odict_iterator", "itertools.zip_longest", "itertools.pairwise"].contains "zip" && (#[rawInt t,.bool false,.bool true,.ref ti,.ref to]:Array Value)[0]?==some (rawInt t))=true then _ else _) Q E s
 rw[if_pos (by simp)]
 refine wpAny_bind (wpAny_rule ?_)
 show wpAny _ _ (setField (.ref z) 0 .none) Q E s
 exact wpAny_setField_rec hz (by simp) fun h' q1 q2=>hQ h' q1 q2
theorem zbv{z ti to:Addr}{f:Value}{Q:Value→Shared→Prop}(hz:z2n s.heap z ti to f)(h:Q (.ref z) s):wpAny (model prog w) A (pyIter (.ref z)) Q E s:=by
 have t:s.TypeIs (.ref z) "zip" := ⟨_,hz,rfl⟩
 refine wpAny_pyIter_slot t F.slot_zip_iter (wpAny_call_entry F.slot_zip_iter t F.entry_zip_iter ?_ (F.args_zip_iter_1 _))
 show wpAny _ _ (ret (.ref z)) _ _ s
 exact wpAny_pure ⟨_,rfl, "zip",_,t,F.slot_zip_next.lookup,h⟩
def zbw(tu:Bool)(l:Addr):Obj:={ cls := .type (if tu then "tuple_iterator" else "list_iterator"),data := .fields #[.ref l,.int 0 0] }
theorem zbx{tu:Bool}{l:Addr}{xs:Array Value}{Q:Value→Shared→Prop}(h:SqAt s.heap tu l xs)(q:Q (.ref s.heap.objs.size) { s with heap:=s.heap.push (zbw tu l) }):wpAny (model prog w) A (pyIter (.ref l)) Q E s:=by
 cases tu with
 | true=>exact wpAny_pyIter_tuple h q
 | false=>exact wpAny_pyIter_list h q
theorem zby{h:Heap}{tu:Bool}{l p:Addr}(e:h.get? p=some (zbw tu l)):ItAt h tu p l 0:=by
 unfold ItAt
 cases tu with
 | true=>exact⟨_,e,rfl,rfl⟩
 | false=>exact⟨_,e,rfl,rfl⟩
abbrev h1(h:Heap)(ta:Bool)(a:Addr):Heap:=h.push (zbw ta a)
abbrev h2(h:Heap)(ta tb:Bool)(a b:Addr):Heap:=(h1 h ta a).push (zbw tb b)
abbrev h3(h:Heap)(ta tb:Bool)(a b:Addr):Heap:=(h2 h ta tb a b).push { cls := .type "tuple",data := .seq #[.ref h.objs.size,.ref (h1 h ta a).objs.size] }
abbrev h4(h:Heap)(ta tb:Bool)(a b:Addr):Heap:=(h3 h ta tb a b).push { cls := .type "tuple",data := .seq #[.none,.none] }
abbrev h5(h:Heap)(ta tb:Bool)(a b:Addr):Heap:=(h4 h ta tb a b).push { cls := .type "zip",data := .fields #[.none,.bool false,.bool true,.ref (h2 h ta tb a b).objs.size,.ref (h3 h ta tb a b).objs.size] }
theorem zhb(a b:Addr)(ta tb:Bool)(xs ys:Array Value):Meets (Builtin.«zip.__new__» ⟨[.type "zip",.ref a,.ref b],[(Str.ofString "strict",.bool true)]⟩)
  (fun _ R s=>SqAt s.heap ta a xs∧SqAt s.heap tb b ys∧R (.ok (.ret (.ref (h4 s.heap ta tb a b).objs.size))) { s with heap:=h5 s.heap ta tb a b }) :=
 .of_wp fun prog w A R s hZ=>hZ.elim fun qa hZ=>hZ.elim fun qb q=>by
  obtain⟨hp,g,d,tk,os⟩:=s
  have f1:=sub_zip
  have e1:SqAt (Shared.heap ⟨hp,g,d,tk,os⟩) ta a xs:=qa
  have e2:SqAt (Shared.heap ⟨hp.push (zbw ta a),g,d,tk,os⟩) tb b ys:=qb.at fun o e=>Heap.get?_push_of_some _ e
  wp_walk using zbx e1,zbx e2
  exact⟨_,rfl,q⟩
end
end ZL

end
section
set_option Elab.async false
set_option linter.all false
set_option maxRecDepth 100000
set_option maxHeartbeats 4000000
namespace ZL
open PySem PyProof.Rows
theorem okT(a b v:Value):checkTypeCall "zip" ⟨[a,b],[(Str.ofString "strict",v)]⟩=pure ():=by kernel_rfl
theorem okN(a b v:Value):checkBuiltinCall "zip.__new__" ⟨[.type "zip",a,b],[(Str.ofString "strict",v)]⟩=pure ():=by kernel_rfl
theorem okI(a b c v:Value):argsOk "object.__init__" ⟨[a,b,c],[(Str.ofString "strict",v)]⟩:=by
 unfold argsOk;rw[signature?_of (id := "object.__init__") (n := "__init__".toList.reverse) (o := "object".toList.reverse) (by kernel_rfl) F.owner_object];kernel_rfl
section
variable {prog:Program}{w:World}{A:Around}{E:Value→Shared→Prop}{s:Shared}
theorem zcI(self a b v:Value):Meets (Builtin.«object.__init__» ⟨[self,a,b],[(Str.ofString "strict",v)]⟩) (fun _ R s=>s.TypeIs self "zip" ∧ R (.ok (.ret .none)) s):=by
 refine Meets.of_wp ?_
 rintro prog w A R s ⟨t,q⟩
 have hl:=F.called_zip.init.lookup
 have hm:=F.called_zip.made
 have hne:(some "zip.__new__" != some "object.__new__")=true:=by decide
 repeat (any_goals first|assumption|wp_step)
 exact⟨_,rfl,q⟩
theorem zim{a b:Addr}{ta tb:Bool}{xs ys:Array Value}{Q:Value→Shared→Prop}(qa:SqAt s.heap ta a xs)(qb:SqAt s.heap tb b ys)
   (q:Q (.ref (h4 s.heap ta tb a b).objs.size) { s with heap:=h5 s.heap ta tb a b }):wpAny (model prog w) A (call (.type "zip") [.ref a,.ref b] [(Str.ofString "strict",.bool true)]) Q E s:=by
 obtain⟨c,tl,hmro⟩:=F.called_zip.mro
 have m1:=F.called_zip.made
 have m2:=F.called_zip.sub
 have m3:=okT (.ref a) (.ref b) (.bool true)
 refine wpAny_call (codeAny_of_tree ?_)
 show wpAny _ _ (callAny (.type "zip") _) _ _ _
 refine wpAny_pure ⟨Code.quiet_builtin _ (by decide +kernel),codeAny_builtin F.entry_type_call ?_⟩
 rw[Around.under_plain (weight_type_call_type "zip" _ _) (units_type_call_type "zip" _ _)]
 have m4:=F.called_zip.notType
 have m5:=F.called_zip.canCreate
 repeat (any_goals first|assumption|wp_step)
 refine codeAny_mono (codeAny_call_builtin F.called_zip.plain F.entry_zip_new (wpAny_of_eq (okN _ _ _) (zhb a b ta tb xs ys prog w A.in1 (wants (fun o s1=>s1.TypeIs o "zip" ∧ Q o s1) E) s ⟨qa,qb,?_⟩))) fun r s1 hr=>?_
 · exact⟨⟨_,Heap.get?_push_size _ rfl,rfl⟩,q⟩
 cases r with
 | error e=>exact hr
 | ok fl =>
   cases fl with
   | ret o =>
    obtain⟨ty,hq⟩:=hr
    have n1:=F.called_zip.init.lookup
    have n2:=F.called_zip.init.bind o
    repeat (any_goals first|assumption|wp_step)
    refine codeAny_mono (codeAny_call_builtin F.called_zip.init.plain F.entry_object_init (F.called_zip.init.check _ _ _ _ _ _ _ _ ty (okI o _ _ _) (zcI o _ _ _ prog w A.in1 (wants (fun r s2=>r = .none∧Q o s2) E) s1 ⟨ty,rfl,hq⟩))) fun r2 s2 hr2=>?_
    cases r2 with
    | error e=>exact hr2
    | ok f2 =>
     cases f2 with
     | ret r =>
      obtain⟨rfl,hq⟩:=hr2
      repeat (any_goals first|assumption|wp_step)
     | _=>exact hr2.elim
   | _=>exact hr.elim
end
end ZL

end
section
local macro_rules|`(tactic| omega)=>`(tactic| first|lia|omega +splitDisjunctions)
set_option Elab.async false
set_option linter.all false
set_option maxRecDepth 100000
set_option maxHeartbeats 1000000
namespace L2
open PySem PySem.Spec PyProof.Rows ZL
section
variable {X:Cx}{pins:List (Addr×Obj)}{σ:St}{H:Hp}{s:Shared}{h':Heap}
theorem Inv.turnedL{t':Nat}{ch:List Addr}(I:Inv X pins σ H s)(k:∀ b o,b ∉ ch→s.heap.get? b=some o→h'.get? b=some o)(hc:∀ b∈ch,FpOk X pins H b):Inv X pins σ H { s with heap:=h',toks:=t' }:=by
 have nit:∀ b u,H b=some u→b ∉ ch:=fun b u e z=>by rw[(hc b z).1]at e;cases e
 refine I.step (g':=s.gens) (d':=s.drawn) (ch:=ch) (fun b hb=>?_) (fun b o _ _ hn e _=>k b o hn e) (fun b o _ _ hn e _=>⟨o.slots,k b o hn e⟩) (fun _ _ _ _ n=>n)
   (fun b o hn e=>⟨o,k b o hn e⟩) (fun _ _ e=>e) (fun _ _ _ e=>e) (fun b ps e=>⟨#[],by rw[e];simp⟩) (fun m hm=>?_) (fun b u e=>?_) I.bare
 · obtain⟨f0,f1,f2,f3,f4,f5⟩:=hc b hb
   exact⟨f3,f1,f4,f5⟩
 · obtain⟨o,es,ep,ho,r⟩:=hm
   exact⟨o,es,ep,k _ o (fun z=>(hc _ z).2.1 rfl) ho,r⟩
 · refine(I.hok b u e).stay (fun c v hcc q=>k c v ?_ q) (fun _ q=>q) fun _ _ q=>q
   rcases hcc with z|z
   · rw[z];exact nit b u e
   · exact nit c _ z
theorem Inv.pair{t':Nat}{ch:List Addr}{x y:V}{u v:Value}(I:Inv X pins σ H s)(rx:RelV x u)(ry:RelV y v)(hp:h'.get? s.heap.objs.size=some { cls := .type "tuple",data := .seq #[u,v] })
   (k:∀ b o,b ∉ ch→s.heap.get? b=some o→h'.get? b=some o) (hc:∀ b∈ch,FpOk X pins H b) (hl:∀ b∈ch,b<s.heap.objs.size) :
   H s.heap.objs.size=none∧Inv X pins σ (upd H s.heap.objs.size (.tup [x,y])) { s with heap:=h',toks:=t' }:=by
 have hn:H s.heap.objs.size=none:=I.hok.fresh (Nat.le_refl _)
 have I1:Inv X pins σ (upd H s.heap.objs.size (.tup [x,y])) { s with heap:=s.heap.push { cls := .type "tuple",data := .seq #[u,v] },toks:=t' } :=
   I.laid (fun b o e=>Heap.get?_push_of_some _ e) (Nat.le_refl _) ⟨by show 2≤sizeLine;decide,[u,v],.cons rx (.cons ry .nil),⟨_,Heap.get?_push_size _ rfl,rfl,_,rfl⟩⟩
 refine⟨hn,Inv.turnedL (s:={ s with heap:=s.heap.push { cls := .type "tuple",data := .seq #[u,v] },toks:=t' }) (h':=h') (t':=t') (ch:=ch) I1 (fun b o hb e=>?_) fun b hb=>?_⟩
 · by_cases q:b=s.heap.objs.size
   · subst q
     have e2:(s.heap.push { cls := .type "tuple",data := .seq #[u,v] }).get? s.heap.objs.size=some _:=Heap.get?_push_size _ rfl
     have e:(s.heap.push { cls := .type "tuple",data := .seq #[u,v] }).get? s.heap.objs.size=some o:=e
     rw[e2]at e
     rw[hp];exact e
   · refine k b o hb ?_
     have e:(s.heap.push { cls := .type "tuple",data := .seq #[u,v] }).get? b=some o:=e
     rw[Heap.get?_push_ne _ _ _ q]at e
     exact e
 · obtain⟨f0,f⟩:=hc b hb
   exact⟨by rw[z0m (Nat.ne_of_lt (hl b hb))];exact f0,f⟩
end
def SqV(K:PySem.W.Frag)(tu:Bool)(H:Hp)(a:Addr)(xs:List V):Prop:=if tu then SqT K H a xs else SqL K H a xs
theorem SqV.mono{K:PySem.W.Frag}{tu:Bool}{H H':Hp}{a:Addr}{xs:List V}(e:Same H H')(h:SqV K tu H a xs):SqV K tu H' a xs:=by
 unfold SqV at h ⊢
 cases tu with
 | true=>exact e.seqT h
 | false=>exact e.seq h
theorem Inv.sq{X:Cx}{pins:List (Addr×Obj)}{σ:St}{H:Hp}{s:Shared}{tu:Bool}{a:Addr}{xs:List V}(I:Inv X pins σ H s)(h:SqV X.K tu H a xs):∃ its:List Value,Vals xs its∧SqAt s.heap tu a its.toArray∧xs.length≤sizeLine:=by
 unfold SqV at h
 unfold SqAt
 cases tu with
 | true=>obtain⟨its,r,p,z⟩:=I.tuple h;exact⟨its,r,p,z⟩
 | false=>obtain⟨its,r,p,z⟩:=I.list h;exact⟨its,r,p.isList,z⟩
theorem Inv.sq_inj{X:Cx}{pins:List (Addr×Obj)}{σ:St}{H:Hp}{s:Shared}{tu:Bool}{a:Addr}{xs ys:List V}(I:Inv X pins σ H s)(h:SqV X.K tu H a xs)(h':SqV X.K tu H a ys):xs=ys:=by
 unfold SqV at h h'
 cases tu with
 | true=>exact I.tuple_inj h h'
 | false=>exact I.list_inj h h'
def Itz(K:PySem.W.Frag)(ta tb:Bool)(a b:Addr):It where
 go:=fun i H=>∃ xs ys x y,SqV K ta H a xs∧SqV K tb H b ys∧xs[i]?=some x∧ys[i]?=some y
 yld:=fun i H v H'=>∃ p x y,(∀ xs,SqV K ta H a xs→xs[i]?=some x)∧(∀ ys,SqV K tb H b ys→ys[i]?=some y)∧H p=none∧v = .ref p∧H'=upd H p (.tup [x,y])
 stop:=fun i H=>∃ xs ys,SqV K ta H a xs∧SqV K tb H b ys∧xs.length≤i∧ys.length≤i
theorem mem5{z ti to i j c:Addr}(h:c ∉ [z,ti,to,i,j]):c≠z∧c≠ti∧c≠to∧c≠i∧c≠j:=by simpa using h
theorem zin{P:Program}{w:World}{K:PySem.W.Frag}{elts:List Expr}{n:Nat}{pos:Pos}{ta tb:Bool}{z ti to i j a b:Addr}(D:Apart z ti to i j a b):
  Turn P w K (.Tuple elts n pos) (Itz K ta tb a b) [z,ti,to,i,j] z (fun k h=>z2n h z ti to .none∧IsPair h ti (.ref i) (.ref j)∧(∃ u v,IsPair h to u v)∧ItAt h ta i a k∧ItAt h tb j b k) where
 mem:=by simp
 obj:=fun k h ⟨q1,q2,⟨u,v,q3⟩,q4,q5⟩ c hc=>by
  have it:∀{tu:Bool} {it l:Addr} {k:Nat},ItAt h tu it l k→∃ o,h.get? it=some o∧∀ v,o.data ≠ .cell v:=fun{tu it l k} q=>by
    unfold ItAt at q
    cases tu with
    | true=>obtain⟨o,e,_,d⟩:=q;exact⟨o,e,fun v z=>by rw[d]at z;cases z⟩
    | false=>obtain⟨o,e,_,d⟩:=q;exact⟨o,e,fun v z=>by rw[d]at z;cases z⟩
  simp only[List.mem_cons,List.not_mem_nil,or_false]at hc
  rcases hc with rfl|rfl|rfl|rfl|rfl
  · exact⟨_,q1,fun v z=>by have z':Data.fields _=Data.cell v:=z;cases z'⟩
  · exact⟨_,q2,fun v z=>by have z':Data.seq _ _=Data.cell v:=z;cases z'⟩
  · exact⟨_,q3,fun v z=>by have z':Data.seq _ _=Data.cell v:=z;cases z'⟩
  · exact it q4
  · exact it q5
 keep:=fun k h h' ⟨q1,q2,⟨u,v,q3⟩,q4,q5⟩ kk=>⟨kk z (by simp) _ q1,kk ti (by simp) _ q2,⟨u,v,kk to (by simp) _ q3⟩,q4.at fun o e=>kk i (by simp) o e,q5.at fun o e=>kk j (by simp) o e⟩
 item:=by
  intro X hP hw hK hc k pins s σ H E I hf ⟨q1,q2,⟨u,v,q3⟩,q4,q5⟩ hg
  subst hP hw hK
  obtain⟨xs,ys,x,y,hx,hy,ex,ey⟩:=hg
  obtain⟨its,rx,px,_⟩:=I.sq hx
  obtain⟨jts,ry,py,_⟩:=I.sq hy
  obtain⟨ux,hux,rux⟩:=rx.get ex
  obtain⟨uy,huy,ruy⟩:=ry.get ey
  have lt:∀ b∈[z,ti,to,i,j],b<s.heap.objs.size:=fun b hb=>by
    simp only[List.mem_cons,List.not_mem_nil,or_false]at hb
    rcases hb with rfl|rfl|rfl|rfl|rfl
    · exact Heap.lt_size q1
    · exact Heap.lt_size q2
    · exact Heap.lt_size q3
    · exact q4.lt
    · exact q5.lt
  refine zha D q1 q2 q3 q4 q5 px py (x:=ux) (y:=uy) (by simpa using hux) (by simpa using huy) fun h' a1 a2 a3 a4 a5 a6 a7=>⟨_,rfl,let_go a1 fun h'' b1 b2=>?_⟩
  have hzp:s.heap.objs.size≠z:=Nat.ne_of_gt (lt z (by simp))
  have kk:∀ b o,b ∉ [z,ti,to,i,j]→s.heap.get? b=some o→h''.get? b=some o:=fun b o hb e=>by
    obtain⟨c1,c2,c3,c4,c5⟩:=mem5 hb
    exact b2.extBut _ _ c1 (a7 b o c1 c3 c4 c5 e)
  obtain⟨hn,I1⟩:=I.pair (t':=s.toks) (h':=h'') rux ruy (b2.extBut _ _ hzp a5) kk hf lt
  refine⟨.ref s.heap.objs.size,_,I1,rfl,⟨_,x,y,fun zs hz=>by rw[I.sq_inj hz hx];exact ex,fun zs hz=>by rw[I.sq_inj hz hy];exact ey,hn,rfl,rfl⟩,?_,fun b hb=>by rw[z0m (Nat.ne_of_lt (lt b hb))];exact(hf b hb).1⟩
  exact⟨b1,b2.extBut _ _ D.p1 (a7 _ _ D.p1 D.p5 D.p6 D.p7 q2),⟨_,_,b2.extBut _ _ D.p2 a2⟩,a3.at fun o e=>b2.extBut _ _ D.p3 e,a4.at fun o e=>b2.extBut _ _ D.p4 e⟩
 done:=by
  intro X hP hw hK hc k pins s σ H E I hf ⟨q1,q2,⟨u,v,q3⟩,q4,q5⟩ hg
  subst hP hw hK
  obtain⟨xs,ys,hx,hy,ex,ey⟩:=hg
  obtain⟨its,rx,px,_⟩:=I.sq hx
  obtain⟨jts,ry,py,_⟩:=I.sq hy
  have l1:=rx.length
  have l2:=ry.length
  refine zil (I.ok.hd hc) D q1 q2 q3 q4 q5 px py (by simp;omega) (by simp;omega) fun h' a7=>⟨rfl,I.turnedL (t':=s.toks) (ch:=[z,ti,to,i,j]) (fun b o hb e=>?_) hf⟩
  obtain⟨c1,c2,c3,c4,c5⟩:=mem5 hb
  exact a7 b o c1 c3 c4 c5 e
 self:=fun _ _ _ _ _ q h=>zbv q.1 h
def Ite(K:PySem.W.Frag)(a:Addr):It where
 go:=fun i H=>∃ xs x,SqL K H a xs∧xs[i]?=some x
 yld:=fun i H v H'=>∃ p x,(∀ xs,SqL K H a xs→xs[i]?=some x)∧H p=none∧v = .ref p∧H'=upd H p (.tup [.int i,x])
 stop:=fun i H=>∃ xs,SqL K H a xs∧xs.length≤i
theorem zhc{P:Program}{w:World}{K:PySem.W.Frag}{elts:List Expr}{n:Nat}{pos:Pos}{e it a:Addr}(hne:e≠it):
  Turn P w K (.Tuple elts n pos) (Ite K a) [e,it] e (fun k h=>(∃ old,IsEnum h e it k old)∧h.IsListIter it a k) where
 mem:=by simp
 obj:=fun k h ⟨⟨old,q1⟩,q2⟩ c hc=>by
  simp only[List.mem_cons,List.not_mem_nil,or_false]at hc
  rcases hc with rfl|rfl
  · exact⟨_,q1,fun v z=>by have z':Data.fields _=Data.cell v:=z;cases z'⟩
  · obtain⟨o,e,_,d⟩:=q2;exact⟨o,e,fun v z=>by rw[d]at z;cases z⟩
 keep:=fun k h h' ⟨⟨old,q1⟩,q2⟩ kk=>⟨⟨old,kk e (by simp) _ q1⟩,q2.at fun o q=>kk it (by simp) o q⟩
 item:=by
  intro X hP hw hK hc k pins s σ H E I hf ⟨⟨old,q1⟩,q2⟩ hg
  subst hP hw hK
  obtain⟨xs,x,hx,ex⟩:=hg
  obtain⟨its,rx,px,_⟩:=I.list hx
  obtain⟨ux,hux,rux⟩:=rx.get ex
  have lt:∀ b∈[e,it],b<s.heap.objs.size:=fun b hb=>by
    simp only[List.mem_cons,List.not_mem_nil,or_false]at hb
    rcases hb with rfl|rfl
    · exact Heap.lt_size q1
    · obtain⟨o,z,_⟩:=q2;exact Heap.lt_size z
  refine wpAny_pyNext_enum_item q1 q2 px.isList (x:=ux) (by simpa using hux) hne fun h' a1 a2 a3 a4 a5=>⟨_,rfl,wpAny_letOwnedTupleGo_enum a1 fun h'' b1 b2=>?_⟩
  have hzp:s.heap.objs.size≠e:=Nat.ne_of_gt (lt e (by simp))
  have kk:∀ b o,b ∉ [e,it]→s.heap.get? b=some o→h''.get? b=some o:=fun b o hb q=>by
    have c:b≠e∧b≠it:=by simpa using hb
    exact b2.extBut _ _ c.1 (a5 b o c.1 c.2 q)
  obtain⟨hn,I1⟩:=I.pair (x := .int k) (t':=s.toks+1) (h':=h'') ⟨s.toks,rfl⟩ rux (b2.extBut _ _ hzp a3) kk hf lt
  refine⟨.ref s.heap.objs.size,_,I1,rfl,⟨_,x,fun zs hz=>by rw[I.list_inj hz hx];exact ex,hn,rfl,rfl⟩,⟨⟨_,b1⟩,a2.at fun o q=>b2.extBut _ _ (Ne.symm hne) q⟩,fun b hb=>by rw[z0m (Nat.ne_of_lt (lt b hb))];exact(hf b hb).1⟩
 done:=by
  intro X hP hw hK hc k pins s σ H E I hf ⟨⟨old,q1⟩,q2⟩ hg
  subst hP hw hK
  obtain⟨xs,hx,ex⟩:=hg
  obtain⟨its,rx,px,_⟩:=I.list hx
  have l1:=rx.length
  refine wpAny_pyNext_enum_end (I.ok.hd hc) q1 q2 px.isList (by simp;omega) fun h' a5=>⟨rfl,I.turnedL (t':=s.toks) (ch:=[e,it]) (fun b o hb q=>?_) hf⟩
  have c:b≠e∧b≠it:=by simpa using hb
  exact a5 b o c.2 q
 self:=fun _ _ _ _ _ q h=>by obtain⟨⟨old,q1⟩,_⟩:=q;exact wpAny_pyIter_enum q1 h
def Itv(K:PySem.W.Frag)(a:Addr)(n:Nat):It where
 go:=fun i H=>i<n∧∃ xs,SqL K H a xs∧xs.length=n
 yld:=fun i H v H'=>H'=H∧∀ xs,SqL K H a xs→xs[n-1-i]?=some v
 stop:=fun i H=>n≤i
theorem zio{P:Program}{w:World}{K:PySem.W.Frag}{tg:Expr}{it a:Addr}{n:Nat}:Turn P w K tg (Itv K a n) [it] it (fun k h=>k≤n∧h.IsRevIter it a ((n:Int)-1-(k:Int))) where
 mem:=by simp
 obj:=fun k h ⟨_,q⟩ c hc=>by
  have e:c=it:=by simpa using hc
  subst e
  obtain⟨o,e,_,d⟩:=q;exact⟨o,e,fun v z=>by rw[d]at z;cases z⟩
 keep:=fun k h h' ⟨q0,q⟩ kk=>⟨q0,q.at fun o z=>kk it (by simp) o z⟩
 item:=by
  intro X hP hw hK hc k pins s σ H E I hf ⟨q0,q⟩ hg
  subst hP hw hK
  obtain⟨hk,xs,hx,hn⟩:=hg
  obtain⟨its,rx,px,_⟩:=I.list hx
  have hlt:n-1-k<xs.length:=by omega
  obtain⟨ux,hux,rux⟩:=rx.get (List.getElem?_eq_getElem hlt)
  obtain⟨f0,f1,f2,f3,f4,f5⟩:=hf it (by simp)
  have e1:(n:Int)-1-(k:Int)=((n-1-k:Nat):Int):=by omega
  rw[e1]at q
  refine wpAny_pyNext_rev_item q px.isList (x:=ux) (by simpa using hux) fun h' b1 b2=>?_
  have I1:Inv X pins σ H { s with heap:=h' }:=I.turned (t':=s.toks) (fun b o hb e=>(b2.2 b hb).trans e) f0 f1 f3 f4 f5
  have e2:((n-1-k:Nat):Int)-1=(n:Int)-1-((k+1:Nat):Int):=by omega
  rw[e2]at b1
  obtain⟨o,e,c,d⟩:=id b1
  exact⟨ux,rfl,zfV (s:={ s with heap:=h' }) e c d (by decide) ⟨_,H,I1,rux,⟨rfl,fun ys hy=>by rw[I.list_inj hy hx];exact List.getElem?_eq_getElem hlt⟩,⟨by omega,b1⟩,fun b hb=>(hf b hb).1⟩⟩
 done:=by
  intro X hP hw hK hc k pins s σ H E I hf ⟨q0,q⟩ hg
  subst hP hw hK
  have hg:n≤k:=hg
  obtain rfl:k=n:=by omega
  obtain⟨f0,f1,f2,f3,f4,f5⟩:=hf it (by simp)
  have e1:(k:Int)-1-(k:Int) = -1:=by omega
  rw[e1]at q
  exact wpAny_pyNext_rev_end (I.ok.hd hc) q fun h' eb=>⟨rfl,I.turned (t':=s.toks) (fun b o hb e=>eb b o hb e) f0 f1 f3 f4 f5⟩
 self:=fun _ _ _ _ _ st h=>wpAny_pyIter_revIter st.2 h
section
variable {K:PySem.W.Frag}{H1:Hp}
theorem zlU{A:List Addr}{H:Hp}{p:Addr}{o:HO}(hp:H p=none)(hA:∀ a∈A,∃ o,H a=some o):hidL A (upd H p o)=upd (hidL A H) p o:=funext fun b=>by
 have np:p ∉ A:=fun z=>by obtain⟨u,e⟩:=hA p z;rw[hp]at e;cases e
 by_cases q:b=p
 · subst q;rw[z0k np,z0A,z0A]
 · rw[z0m q]
   by_cases z:b∈A
   · rw[z2k z,z2k z]
   · rw[z0k z,z0k z,z0m q]
theorem zbz{A:List Addr}{H:Hp}{p:Addr}{d d':Dt}{x y:V}(hp:H p=none)(hA:∀ a∈A,∃ o,H a=some o)(rx:Rp K emp d (hidL A H) x)(ry:Rp K emp d' (hidL A H) y):
  Same (hidL A H) (hidL A (upd H p (.tup [x,y])))∧(∀ a∈A,upd H p (.tup [x,y]) a=H a)∧Rp K emp (.tup [d,d']) (hidL A (upd H p (.tup [x,y]))) (.ref p):=by
 have np:p ∉ A:=fun z=>by obtain⟨u,e⟩:=hA p z;rw[hp]at e;cases e
 have hq:hidL A H p=none:=by rw[z0k np];exact hp
 rw[zlU hp hA]
 refine⟨z0U hq,fun a ha=>z0m fun z=>np (z ▸ ha),Rp.tup_.mpr ⟨p,_,rfl,SqT.of z0A,?_⟩⟩
 exact Rps.cons_.mpr ⟨x,[y],rfl,Rp.mono _ (z0U hq) rx,Rps.one (Rp.mono _ (z0U hq) ry)⟩
def zipD:List Dt→List Dt→List Dt
 | x::xs,y::ys => .tup [x,y]::zipD xs ys
 | _,_=>[]
theorem zbA:∀{xs ys:List Dt} {i:Nat} {d:Dt},(zipD xs ys)[i]?=some d→∃ x y,xs[i]?=some x∧ys[i]?=some y∧d = .tup [x,y]
 | [],ys,i,d,h=>by simp[zipD]at h
 | x::xs,[],i,d,h=>by simp[zipD]at h
 | x::xs,y::ys,0,d,h=>by simp[zipD]at h;exact⟨x,y,rfl,rfl,h.symm⟩
 | x::xs,y::ys,i+1,d,h=>by
  have h:(zipD xs ys)[i]?=some d:=by simpa[zipD]using h
  obtain⟨a,b,q1,q2,q3⟩:=zbA h
  exact⟨a,b,by simpa using q1,by simpa using q2,q3⟩
theorem z5U:∀{xs ys:List Dt},(zipD xs ys).length=min xs.length ys.length
 | [],ys=>by simp[zipD]
 | x::xs,[]=>by simp[zipD]
 | x::xs,y::ys=>by rw[zipD,List.length_cons,z5U,List.length_cons,List.length_cons];omega
theorem ziq{ta tb:Bool}{a b:Addr}{ds es:List Dt}{vs ws:List V}(h1:SqV K ta H1 a vs)(h2:SqV K tb H1 b ws)(r1:Rps K emp ds H1 vs)(r2:Rps K emp es H1 ws)(hl:ds.length=es.length):Walk K (Itz K ta tb a b) (zipD ds es) H1:=by
 intro A H sm hA
 have s2:Same H1 H:=sm.trans z0t
 refine⟨fun i d e=>?_,fun i hi=>⟨vs,ws,h1.mono s2,h2.mono s2,?_,?_⟩⟩
 · obtain⟨x,y,ex,ey,rfl⟩:=zbA e
   obtain⟨v,e1,p1⟩:=r1.get ex
   obtain⟨u,e2,p2⟩:=r2.get ey
   refine⟨⟨vs,ws,v,u,h1.mono s2,h2.mono s2,e1,e2⟩,?_⟩
   rintro z H' ⟨p,v',u',f1,f2,hp,ez,eH⟩
   have g1:=f1 vs (h1.mono s2)
   have g2:=f2 ws (h2.mono s2)
   rw[e1]at g1
   rw[e2]at g2
   cases g1;cases g2
   subst ez;subst eH
   exact zbz hp hA (Rp.mono _ sm p1) (Rp.mono _ sm p2)
 · rw[z5U]at hi;rw[r1.length];omega
 · rw[z5U]at hi;rw[r2.length];omega
def z2B:Nat→List Dt→List Dt
 | _,[]=>[]
 | n,x::xs => .tup [.int n,x]::z2B (n+1) xs
theorem z9G:∀{xs:List Dt} {n i:Nat} {d:Dt},(z2B n xs)[i]?=some d→∃ x,xs[i]?=some x∧d = .tup [.int ((n+i:Nat):Int),x]
 | [],n,i,d,h=>by simp[z2B]at h
 | x::xs,n,0,d,h=>by simp[z2B]at h;exact⟨x,rfl,h.symm⟩
 | x::xs,n,i+1,d,h=>by
  have h:(z2B (n+1) xs)[i]?=some d:=by simpa[z2B]using h
  obtain⟨a,q1,q3⟩:=z9G h
  exact⟨a,by simpa using q1,by rw[q3,show n+1+i=n+(i+1) by omega]⟩
theorem z6A:∀{xs:List Dt} {n:Nat},(z2B n xs).length=xs.length
 | [],n=>rfl
 | x::xs,n=>by rw[z2B,List.length_cons,List.length_cons,z6A]
theorem zhd{a:Addr}{ds:List Dt}{vs:List V}(h1:SqL K H1 a vs)(r1:Rps K emp ds H1 vs):Walk K (Ite K a) (z2B 0 ds) H1:=by
 intro A H sm hA
 have s2:Same H1 H:=sm.trans z0t
 refine⟨fun i d e=>?_,fun i hi=>⟨vs,s2.seq h1,?_⟩⟩
 · obtain⟨x,ex,rfl⟩:=z9G e
   rw[Nat.zero_add]
   obtain⟨v,e1,p1⟩:=r1.get ex
   refine⟨⟨vs,v,s2.seq h1,e1⟩,?_⟩
   rintro z H' ⟨p,v',f1,hp,ez,eH⟩
   have g1:=f1 vs (s2.seq h1)
   rw[e1]at g1
   cases g1
   subst ez;subst eH
   exact zbz hp hA (Rp.int_.mpr rfl) (Rp.mono _ sm p1)
 · rw[z6A]at hi;rw[r1.length];omega
theorem zir{a:Addr}{ds:List Dt}{vs:List V}(h1:SqL K H1 a vs)(r1:Rps K emp ds H1 vs):Walk K (Itv K a vs.length) ds.reverse H1:=by
 intro A H sm hA
 have s2:Same H1 H:=sm.trans z0t
 have hl:=r1.length
 refine⟨fun i d e=>?_,fun i hi=>?_⟩
 · have hi:i<ds.length:=by
    by_cases hi:i<ds.length
    · exact hi
    · rw[List.getElem?_eq_none (by simp;omega)]at e;cases e
   rw[List.getElem?_reverse hi]at e
   obtain⟨v,e1,p1⟩:=r1.get e
   refine⟨⟨by omega,vs,s2.seq h1,rfl⟩,?_⟩
   rintro z H' ⟨eH,f1⟩
   subst eH
   have g1:=f1 vs (s2.seq h1)
   rw[hl,e1]at g1
   cases g1
   exact⟨Same.refl _,fun _ _=>rfl,Rp.mono _ sm p1⟩
 · show vs.length≤i
   rw[List.length_reverse]at hi;omega
end
section
variable {X:Cx}{a b e:Expr}{Fa Fb:FE}{elts:List Expr}{n:Nat}{tpos pos:Pos}
theorem zhe{M:Model}{A:Around}{E:Value→Shared→Prop}{s:Shared}{env:Env}{T:String}{es:List Expr}{kws:List Keyword}{Q:Value→Shared→Prop}
  (h:wpAny M A (spliced (backTo pos (starEach (e::es) env))) (fun vs s1=>wpAny M A (evalAll ((backToKw pos (keywordEach kws env)).map (·.2))) (fun ks s2=>wpAny M A (call (.type T) vs (((backToKw pos (keywordEach kws env)).filterMap (·.1)).zip ks)) Q E s2) E s1) E s)
  (h1:backTo pos (starEach (e::es) env)=(false,eval e env)::backTo pos (starEach es env)) (h2:(backTo pos (starEach (e::es) env)).any (·.1)=false) (h3:(backToKw pos (keywordEach kws env)).all (·.1.isSome)=true) (h4:(backToKw pos (keywordEach kws env)).any (·.1.isNone)=false) :
  wpAny M A (callWith pos (.type T) [] (backTo pos (starEach (e::es) env)) (backToKw pos (keywordEach kws env))) Q E s:=by
 unfold callWith
 have g:wpAny M A (evalArgs (.type T) true (backTo pos (starEach (e::es) env)) (backToKw pos (keywordEach kws env))) (fun z s1=>wpAny M A (call (.type T) ([]++z.pos) z.kw) Q E s1) E s:=by
  rw[h1]at h ⊢
  exact evalArgs_kwB h3 h
 refine wpAny_bind (wpAny_holding (wpAny_mono g (fun z s1 g1=>wpAny_bind (wpAny_standAt ?_)) fun _ _ x=>x))
 simp only[h2,h4,Bool.or_false]
 refine wpAny_bind (wpAny_pure ?_)
 exact wpAny_bind (wpAny_mono g1 (fun r s2 hr=>wpAny_bind (wpAny_holding (wpAny_point (wpAny_pure hr)))) fun _ _ x=>x)
theorem zis{H:Hp}{d:Dt}{ds:List Dt}{v:V}(e:seqD d=some ds)(r:Rp X.K emp d H v):∃ tu p vs,v = .ref p∧SqV X.K tu H p vs∧Rps X.K emp ds H vs:=by
 cases d<;>first|cases e|skip
 · obtain⟨p,vs,rfl,_,h1,h2⟩:=r.items
   exact⟨false,p,vs,rfl,SqL.of h1,h2⟩
 · obtain⟨p,vs,rfl,h1,h2⟩:=Rp.tup_.mp r
   exact⟨true,p,vs,rfl,h1,h2⟩
def iZip(F G:FE):FI:=fun ρ=>(F ρ).bind fun x=>(G ρ).bind fun y=>(seqD x.2).bind fun xs=>(seqD y.2).bind fun ys=>if xs.length=ys.length then some (zipD xs ys) else none
theorem zgb{p kp kpos:Pos}{jc:Nat}(hg:Gl X "zip")(hm:X.mg "zip" = none)(ha:PF X a Fa)(hb:PF X b Fb)(hs:starEach [a,b] X.env=[(false,eval a X.env),(false,eval b X.env)]:=by rfl)(hs1:starEach [b] X.env=[(false,eval b X.env)]:=by rfl):
   PFI X (.Tuple elts n tpos) (.Call (.Name "zip" p) [a,b] [⟨some "strict",.Constant (.bool true) jc kp,kpos⟩] pos) (iZip Fa Fb):=by
 intro pins s σ H R I ⟨ρ,items,rs,e0,k⟩
 obtain⟨⟨fa,da⟩,ea,e1⟩:=z04 e0
 obtain⟨⟨fb,db⟩,eb,e2⟩:=z04 e1
 obtain⟨xs,ex,e3⟩:=z04 e2
 obtain⟨ys,ey,e4⟩:=z04 e3
 clear e0 e1 e2 e3
 split at e4
 · rename_i hl
   cases e4
   have hA:PA X [a,b] (upAs X (z02 Fa (z02 Fb fNil))):=z03 ha (z03 hb z07 hs1) (by rw[hs,hs1])
   refine wpAny_Call_Name_kw (z3E I hg hm (by decide +kernel:bootBuiltins "zip" = some (.type "zip")) ?_)
   refine zhe (T := "zip") (thn (hA pos pins s σ H (fun vs H1=>Same H H1∧∃ va vb,vs=[va,vb]∧Rp X.K emp da H1 va∧Rp X.K emp db H1 vb) I ⟨ρ,[(fa,da),(fb,db)],rs,by simp[z02,fNil,ea,eb],fun vs H1 s1 ⟨va,r1,ee1,q1,vb,r2,ee2,q2,q3⟩=>⟨s1,va,vb,by rw[ee1,ee2,show r2=[]from q3],q1.sh,q2.sh⟩⟩) fun us s1 ⟨vs,H1,I1,rv,s1H,va,vb,ev,ra,rb⟩=>?_) (by rw[hs,hs1];rfl) (by rw[hs];rfl) rfl rfl
   subst ev
   obtain⟨ua,ub,rfl,rua,rub⟩:=rv.two
   obtain⟨ta,pa,vsa,rfl,qa1,qa2⟩:=zis ex ra
   obtain⟨tb,pb,vsb,rfl,qb1,qb2⟩:=zis ey rb
   cases rua;cases rub
   have hk:=zfW (X:=X) (nm:=some "strict") (kpos:=kpos) (pe_bl (X:=X) (b:=true) (j:=jc) (pos:=kp)) zhR
   refine thn (hk pos pins s1 σ H1 (fun zs H2=>zs=[.bl true]∧H2=H1) I1 ⟨rfl,rfl⟩) ?_
   rintro ks s2 ⟨zs,H2,I2,rz,ez,eH⟩
   subst ez;subst eH
   obtain⟨uk,rfl,ruk⟩:=rz.one
   cases ruk
   obtain⟨ita,rva,sa,hza⟩:=I2.sq qa1
   obtain⟨itb,rvb,sb,hzb⟩:=I2.sq qb1
   refine zim sa sb ?_
   have z1:(h1 s2.heap ta pa).objs.size=s2.heap.objs.size+1:=Heap.size_push ..
   have z2:(h2 s2.heap ta tb pa pb).objs.size=s2.heap.objs.size+2:=by rw[Heap.size_push,z1]
   have z3:(h3 s2.heap ta tb pa pb).objs.size=s2.heap.objs.size+3:=by rw[Heap.size_push,z2]
   have z4:(h4 s2.heap ta tb pa pb).objs.size=s2.heap.objs.size+4:=by rw[Heap.size_push,z3]
   have g5:(h5 s2.heap ta tb pa pb).get? (h4 s2.heap ta tb pa pb).objs.size=some _:=Heap.get?_push_size _ rfl
   have g4:(h5 s2.heap ta tb pa pb).get? (h3 s2.heap ta tb pa pb).objs.size=some _:=Heap.get?_push_of_some _ (Heap.get?_push_size _ rfl)
   have g3:(h5 s2.heap ta tb pa pb).get? (h2 s2.heap ta tb pa pb).objs.size=some _:=Heap.get?_push_of_some _ (Heap.get?_push_of_some _ (Heap.get?_push_size _ rfl))
   have g2:(h5 s2.heap ta tb pa pb).get? (h1 s2.heap ta pa).objs.size=some _:=Heap.get?_push_of_some _ (Heap.get?_push_of_some _ (Heap.get?_push_of_some _ (Heap.get?_push_size _ rfl)))
   have g1:(h5 s2.heap ta tb pa pb).get? s2.heap.objs.size=some _:=Heap.get?_push_of_some _ (Heap.get?_push_of_some _ (Heap.get?_push_of_some _ (Heap.get?_push_of_some _ (Heap.get?_push_size _ rfl))))
   have up:∀ c o,s2.heap.get? c=some o→(h5 s2.heap ta tb pa pb).get? c=some o:=fun c o x=>Heap.get?_push_of_some _ (Heap.get?_push_of_some _ (Heap.get?_push_of_some _ (Heap.get?_push_of_some _ (Heap.get?_push_of_some _ x))))
   refine zbv (z:=(h4 s2.heap ta tb pa pb).objs.size) (ti:=(h2 s2.heap ta tb pa pb).objs.size) (to:=(h3 s2.heap ta tb pa pb).objs.size) (f := .none) g5 ?_
   have la:=sa.lt
   have lb:=sb.lt
   have D:Apart (h4 s2.heap ta tb pa pb).objs.size (h2 s2.heap ta tb pa pb).objs.size (h3 s2.heap ta tb pa pb).objs.size s2.heap.objs.size (h1 s2.heap ta pa).objs.size pa pb:=by
     rw[z1,z2,z3,z4]
     constructor<;>exact fun z=>by simp only[Addr]at *;omega
   refine⟨_,[(h4 s2.heap ta tb pa pb).objs.size,(h2 s2.heap ta tb pa pb).objs.size,(h3 s2.heap ta tb pa pb).objs.size,s2.heap.objs.size,(h1 s2.heap ta pa).objs.size],_,_,H2,rfl,I2.kept (t':=s2.toks) up,zin (ta:=ta) (tb:=tb) D,⟨g5,g3,⟨_,_,g4⟩,zby g1,zby g2⟩,fun c hc=>?_,k _ H2 s1H ?_ (ziq qa1 qb1 qa2 qb2 hl)⟩
   · have hge:s2.heap.objs.size≤c:=by
      rw[z1,z2,z3,z4]at hc
      simp only[List.mem_cons,List.not_mem_nil,or_false]at hc
      rcases hc with rfl|rfl|rfl|rfl|rfl<;>omega
     exact I2.fpOk hge (I2.hok.fresh hge)
   · rw[z5U,←qa2.length];omega
 · cases e4
def lstD:Dt→Option (List Dt)
 | .lst ds=>some ds
 | _=>none
def z2V(F:FE):FI:=fun ρ=>(F ρ).bind fun x=>(lstD x.2).map (z2B 0)
theorem zit{H:Hp}{d:Dt}{ds:List Dt}{v:V}(e:lstD d=some ds)(r:Rp X.K emp d H v):∃ p vs,v = .ref p∧SqL X.K H p vs∧Rps X.K emp ds H vs:=by
 cases d<;>first|cases e|skip
 obtain⟨p,vs,rfl,_,h1,h2⟩:=r.items
 exact⟨p,vs,rfl,SqL.of h1,h2⟩
theorem z8e{p:Pos}(hg:Gl X "enumerate")(hm:X.mg "enumerate" = none)(ha:PF X a Fa)(hs:starEach [a] X.env=[(false,eval a X.env)]:=by rfl):PFI X (.Tuple elts n tpos) (.Call (.Name "enumerate" p) [a] [] pos) (z2V Fa):=by
 intro pins s σ H R I ⟨ρ,items,rs,e0,k⟩
 obtain⟨⟨fa,da⟩,ea,e1⟩:=z04 e0
 cases ex:lstD da with
 | none=>rw[ex]at e1;cases e1
 | some xs =>
  rw[ex]at e1
  cases e1
  have hA:PA X [a] (upAs X (z02 Fa fNil)):=z03 ha z07 hs
  refine wpAny_Call_Name_kw (z3E I hg hm (by decide +kernel:bootBuiltins "enumerate" = some (.type "enumerate")) ?_)
  refine PyProof.Rows.callWith_type1 (thn (hA pos pins s σ H (fun vs H1=>Same H H1∧∃ va,vs=[va]∧Rp X.K emp da H1 va) I ⟨ρ,[(fa,da)],rs,by simp[z02,fNil,ea],fun vs H1 s1 ⟨va,r1,ee1,q1,q3⟩=>⟨s1,va,by rw[ee1,show r1=[]from q3],q1.sh⟩⟩) fun us s1 ⟨vs,H1,I1,rv,s1H,va,ev,ra⟩=>?_) hs rfl
  subst ev
  obtain⟨ua,rfl,rua⟩:=rv.one
  obtain⟨pa,vsa,rfl,qa1,qa2⟩:=zit ex ra
  cases rua
  obtain⟨ita,rva,pl,hza⟩:=I1.list qa1
  refine call_enumerate_list pl.isList fun h' b1 b2 b3 b4=>wpAny_pyIter_enum b1 ?_
  refine⟨_,[s1.heap.objs.size+1,s1.heap.objs.size],_,_,H1,rfl,I1.kept (t':=s1.toks) b4,zhc (Nat.succ_ne_self _),⟨⟨_,b1⟩,b2⟩,fun c hc=>?_,k _ H1 s1H ?_ (zhd qa1 qa2)⟩
  · have hge:s1.heap.objs.size≤c:=by
     simp only[List.mem_cons,List.not_mem_nil,or_false]at hc
     rcases hc with rfl|rfl
     · exact Nat.le_succ _
     · exact Nat.le_refl _
    exact I1.fpOk hge (I1.hok.fresh hge)
  · rw[z6A,←qa2.length];exact hza
def iRev(F:FE):FI:=fun ρ=>(F ρ).bind fun x=>(lstD x.2).map List.reverse
theorem i_rev{tg:Expr}{p:Pos}(hg:Gl X "reversed")(hm:X.mg "reversed" = none)(ha:PF X a Fa)(hs:starEach [a] X.env=[(false,eval a X.env)]:=by rfl):PFI X tg (.Call (.Name "reversed" p) [a] [] pos) (iRev Fa):=by
 intro pins s σ H R I ⟨ρ,items,rs,e0,k⟩
 obtain⟨⟨fa,da⟩,ea,e1⟩:=z04 e0
 cases ex:lstD da with
 | none=>rw[ex]at e1;cases e1
 | some xs =>
  rw[ex]at e1
  cases e1
  have hA:PA X [a] (upAs X (z02 Fa fNil)):=z03 ha z07 hs
  refine wpAny_Call_Name_kw (z3E I hg hm (by decide +kernel:bootBuiltins "reversed" = some (.type "reversed")) ?_)
  refine PyProof.Rows.callWith_type1 (thn (hA pos pins s σ H (fun vs H1=>Same H H1∧∃ va,vs=[va]∧Rp X.K emp da H1 va) I ⟨ρ,[(fa,da)],rs,by simp[z02,fNil,ea],fun vs H1 s1 ⟨va,r1,ee1,q1,q3⟩=>⟨s1,va,by rw[ee1,show r1=[]from q3],q1.sh⟩⟩) fun us s1 ⟨vs,H1,I1,rv,s1H,va,ev,ra⟩=>?_) hs rfl
  subst ev
  obtain⟨ua,rfl,rua⟩:=rv.one
  obtain⟨pa,vsa,rfl,qa1,qa2⟩:=zit ex ra
  cases rua
  obtain⟨ita,rva,pl,hza⟩:=I1.list qa1
  have hn:ita.toArray.size=vsa.length:=by rw[List.size_toArray,←rva.length]
  refine call_reversed_list pl.isList ?_
  rw[hn]
  have g1:(s1.heap.push (revObj pa ((vsa.length:Int)-1))).get? s1.heap.objs.size=some _:=Heap.get?_push_size _ rfl
  have it1:(s1.heap.push (revObj pa ((vsa.length:Int)-1))).IsRevIter s1.heap.objs.size pa ((vsa.length:Int)-1-((0:Nat):Int)):=⟨_,g1,rfl,by show Data.fields _=_;simp⟩
  refine wpAny_pyIter_revIter it1 ?_
  refine⟨_,[s1.heap.objs.size],_,_,H1,rfl,I1.kept (t':=s1.toks) (fun c o x=>Heap.get?_push_of_some _ x),zio (n:=vsa.length),⟨Nat.zero_le _,it1⟩,fun c hc=>?_,k _ H1 s1H ?_ (zir qa1 qa2)⟩
  · rw[List.mem_singleton.mp hc]
    exact I1.fpOk (Nat.le_refl _) (I1.hok.fresh (Nat.le_refl _))
  · rw[List.length_reverse,←qa2.length];exact hza
end
end L2

end
section
set_option Elab.async false
set_option linter.all false
set_option maxRecDepth 100000
set_option maxHeartbeats 1000000
namespace L2
open PySem PySem.Spec PyProof.Rows
section
variable {X:Cx}
def ziu:V→List V→Hp→VK→Prop:=fun x vs H Q=>∃ l xs y,x = .ref l∧vs=[.int 0,y]∧H l=some (.lst xs)∧xs.length<sizeLine∧Q .non (upd H l (.lst (y::xs)))
theorem zcJ:MtM X "list.insert" ziu:=by
 intro pins s σ H x vs v us Q I rx rv h
 obtain⟨l,xs,y,rfl,rfl,hH,hz,q⟩:=h
 cases rx
 obtain⟨u0,u,rfl,ru0,ru⟩:=rv.two
 obtain⟨t0,rfl⟩:=ru0
 obtain⟨z,its,n,r,hl,e⟩:=I.lstM hH
 refine call_meets F.slot_list_insert ⟨_,e,rfl⟩ F.entry_list_insert (F.args_list_insert_3 _ _ _) (AutoSeq1.list_insert_list_int_val_1 l its.toArray n 0 t0 u (by decide) (by rw[List.size_toArray];omega)) ⟨e,?_⟩
 refine⟨.non,_,I.lset (its':=u::its) hH e ?_ (.cons ru r) ?_,rfl,q⟩
 · simp
 · rw[List.length_cons];omega
theorem zgc{Y:Ky}{f g:Bool}:Same (bsOf Y (f&&g)) (bsOf Y f):=by
 cases f<;>cases g<;>first|exact Same.refl _|exact Same.emp
theorem zgd{Y:Ky}{f g:Bool}:Same (bsOf Y (f&&g)) (bsOf Y g):=by
 cases f<;>cases g<;>first|exact Same.refl _|exact Same.emp
section
variable {H₀ H H':Hp}{O:Own}{ρ:Rho}{σ:St}{i:Nat}{f:Bool}{ds:List Dt}
theorem RepO.get(h:RepO X H₀ H O ρ σ)(e:ρ[i]?=some (.ow f ds)):∃ a vs,(i,a)∈O∧σ[i]?=some (some (.ref a))∧H a=some (.lst vs)∧Rps X.K (bsOf X.ky f) ds (hidL O.adr H) vs:=by
 obtain⟨o,e1,a,vs,q1,q2,q3,q4⟩:=h.at_ i _ e
 subst q2
 exact⟨a,vs,q1,e1,q3,q4⟩
theorem zbB{x:Dv}{v:V}(rb:RepO X H₀ H O ρ σ)(r:RpF X.ky (hidL O.adr H) x.1 x.2 H' v):Rp X.K (bsOf X.ky x.1.isFr) x.2 H' v:=by
 by_cases q:x.1.isFr=true
 · rw[q];exact r.fr (rb.b0.trans rb.same) q
 · rw[show x.1.isFr=false by simpa using q];exact r.sh
theorem zlV{x:Dv}{v:V}(rb:RepO X H₀ H O ρ σ)(sm:Same H H')(q:x.1.isNw=true)(r:RpF X.ky H x.1 x.2 H' v):Rp X.K (bsOf X.ky true) x.2 (hidL O.adr H') v :=
 Rp.anti rb.below _ (zii rb.own sm q r)
end
abbrev FW:=List Dt→Dt→Option (List Dt)
def z5V(ρ:Rho)(i:Nat):Option (Bool×List Dt):=match ρ[i]? with|some (.ow f ds)=>some (f,ds)|_=>none
theorem z6B{ρ:Rho}{i:Nat}{f:Bool}{ds:List Dt}(h:z5V ρ i=some (f,ds)):ρ[i]?=some (.ow f ds):=by
 unfold z5V at h
 split at h
 · rename_i e;cases h;exact e
 · cases h
def sWr(w:FW)(i:Nat)(F:FE):FS:=fun ρ=>(z5V ρ i).bind fun o=>(F (z1w ρ)).bind fun x=>(w o.2 x.2).map fun ds => .nx (ρ.set i (.ow (o.1&&x.1.isFr) ds))
def sWrA(w:FW)(i:Nat)(F:FE):FS:=fun ρ=>(z5V ρ i).bind fun o=>(F ρ).bind fun x=>if x.1.isNw then(w o.2 x.2).map fun ds => .nx (ρ.set i (.ow o.1 ds)) else none
def wApp:FW:=fun ds d=>if ds.length<1000000 then some (ds++[d]) else none
def z8f:FW:=fun ds d=>if ds.length<1000000 then some (d::ds) else none
def MtW(X:Cx)(id:String)(pre:List V)(w:FW):Prop:=∀(H:Hp) (B:Hp) (Hh:Hp) (l:Addr) (vs:List V) (y:V) (ds:List Dt) (d:Dt) (ds':List Dt) (Q:VK),H l=some (.lst vs)→Same Hh H→Rps X.K B ds Hh vs→Rp X.K B d Hh y→w ds d=some ds' →
 (∀ vs',Rps X.K B ds' Hh vs'→Q .non (upd H l (.lst vs')))→∃ r,MtM X id r∧r (.ref l) (pre++[y]) H Q
theorem mw_app:MtW X "list.append" [] wApp:=fun H B Hh l vs y ds d ds' Q hl sm rs r e k=>by
 unfold wApp at e
 split at e
 · rename_i h
   cases e
   exact⟨_,z9w,l,vs,y,rfl,rfl,hl,by rw[rs.length];exact Nat.lt_trans h (by decide),k _ (rs.append (Rps.one r))⟩
 · cases e
theorem zlW:MtW X "list.insert" [.int 0] z8f:=fun H B Hh l vs y ds d ds' Q hl sm rs r e k=>by
 unfold z8f at e
 split at e
 · rename_i h
   cases e
   exact⟨_,zcJ,l,vs,y,rfl,rfl,hl,by rw[rs.length];exact Nat.lt_trans h (by decide),k _ (Rps.cons_.mpr ⟨y,vs,rfl,r,rs⟩)⟩
 · cases e
section
variable {id:String}{w:FW}{x:Str}{name:Str}{e:Expr}{Fe:FE}{i:Nat}{px apos cpos pos:Pos}{pre:List V}
theorem s_wr1(hw:MtW X id [] w)(slot:Slot "list" name id)(hty:typeOf (.builtin id)=pure (.type "method_descriptor"))(hN:X.N[i]?=some x)(hv:Vis X.env.scope x)(he:PF X e Fe)(hd:(x==("__debug__" : Str))=false:=by decide)(hcd:(x==("__classdict__" : Str))=false:=by decide)
  (hbase:attributeBase (.Name x px) name X.env (eval (.Name x px) X.env)=eval (.Name x px) X.env:=by rfl)
  (hfew:((backTo cpos (starEach [e] X.env)).all (fun x=>!x.1)&&(backToKw cpos (keywordEach [] X.env)).all (fun x=>x.1.isSome)&&decide ([e].length+([]:List Keyword).length+(if([]:List Keyword).isEmpty then 0 else 1)<30))=true:=by rfl)
  (hline:(apos.endLine==cpos.line)=true:=by rfl) (hs:starEach [e] X.env=[(false,eval e X.env)]:=by rfl) (hsw:swapsWith (.Call (.Attribute (.Name x px) name apos) [e] [] cpos) none pos.line X.env=pure false:=by rfl) :
  PFS X (.Expr (.Call (.Attribute (.Name x px) name apos) [e] [] cpos) pos) (sWr w i Fe):=by
 intro pins s σ H D I ⟨H₀,ρ,oc,⟨O,rb⟩,e0,k⟩
 obtain⟨⟨f,ds⟩,e1,e2⟩:=z04 e0
 obtain⟨z,e3,e4⟩:=z04 e2
 cases hw':w ds z.2 with
 | none=>rw[hw']at e4;cases e4
 | some ds' =>
  rw[hw']at e4
  cases e4
  obtain⟨a,vs,q1,q2,q3,q4⟩:=rb.get (z6B e1)
  have hm:MtM X id (fun o us H' Q=>∃ y,o = .ref a∧us=[y]∧Same (hidL O.adr H) (hidL O.adr H')∧H' a=some (.lst vs)∧Rp X.K (bsOf X.ky z.1.isFr) z.2 (hidL O.adr H') y∧∀ vs',Rps X.K (bsOf X.ky (f&&z.1.isFr)) ds' (hidL O.adr H') vs'→Q .non (upd H' a (.lst vs'))):=by
   intro pins s σ H' o us v vs2 Q I ro ru ⟨y,eo,eu,sm,ha,ry,kk⟩
   subst eo;subst eu
   obtain⟨r,hr,hq⟩:=hw H' (bsOf X.ky (f&&z.1.isFr)) (hidL O.adr H') a vs y ds z.2 ds' Q ha z0t (Rps.anti zgc _ (Rps.mono _ sm q4)) (Rp.anti zgd _ ry) hw' kk
   exact hr pins s σ H' _ _ v vs2 Q I ro ru hq
  refine z5M (pe_bm F.plainAttrs_list slot hty hm (z7W hN hv hd hcd) (PA.frame (z03 he z07 hs)) hbase hfew hline hs rfl) hsw pins s σ H D I ⟨.ref a,q2,.inl ⟨rfl,vs,SqL.of q3⟩,O.adr,rb.own,z1w ρ,[z],rb.rest,by simp[z02,fNil,e3],?_⟩
  rintro us H' sm ⟨y,r,eu,ry,er⟩ hn
  have er:r=[]:=er
  subst er;subst eu
  have hg:hidL O.adr (z18 O.adr H H')=H':=z2Q hn
  refine⟨y,rfl,rfl,by rw[hg];exact sm,by rw[z4R (z3N q1)];exact q3,by rw[hg];exact zbB rb ry,fun vs' rs'=>k _ _ ⟨O,?_⟩⟩
  exact(rb.mono (Same.glue sm hn)).upd (z6B e1) q1 rs'
theorem s_insA{j0:Nat}{p0:Pos}(hN:X.N[i]?=some x)(hv:Vis X.env.scope x)(he:PF X e Fe)(hd:(x==("__debug__" : Str))=false:=by decide)(hcd:(x==("__classdict__" : Str))=false:=by decide)
   (hbase:attributeBase (.Name x px) "insert" X.env (eval (.Name x px) X.env)=eval (.Name x px) X.env:=by rfl)
   (hfew:((backTo cpos (starEach [.Constant (.int 0) j0 p0,e] X.env)).all (fun x=>!x.1)&&(backToKw cpos (keywordEach [] X.env)).all (fun x=>x.1.isSome)&&decide ([Expr.Constant (.int 0) j0 p0,e].length+([]:List Keyword).length+(if([]:List Keyword).isEmpty then 0 else 1)<30))=true:=by rfl)
   (hline:(apos.endLine==cpos.line)=true:=by rfl) (hs:starEach [e] X.env=[(false,eval e X.env)]:=by rfl) (hs2:starEach [.Constant (.int 0) j0 p0,e] X.env=(false,eval (.Constant (.int 0) j0 p0) X.env)::starEach [e] X.env:=by rfl)
   (hsw:swapsWith (.Call (.Attribute (.Name x px) "insert" apos) [.Constant (.int 0) j0 p0,e] [] cpos) none pos.line X.env=pure false:=by rfl) :
   PFS X (.Expr (.Call (.Attribute (.Name x px) "insert" apos) [.Constant (.int 0) j0 p0,e] [] cpos) pos) (sWrA z8f i Fe):=by
 intro pins s σ H D I ⟨H₀,ρ,oc,⟨O,rb⟩,e0,k⟩
 obtain⟨⟨f,ds⟩,e1,e2⟩:=z04 e0
 obtain⟨z,e3,e5⟩:=z04 e2
 split at e5
 · rename_i qn
   cases hw':z8f ds z.2 with
   | none=>rw[hw']at e5;cases e5
   | some ds' =>
    rw[hw']at e5
    cases e5
    obtain⟨a,vs,q1,q2,q3,q4⟩:=rb.get (z6B e1)
    have hm:MtM X "list.insert" (fun o us H' Q=>∃ y,o = .ref a∧us=[.int 0,y]∧Same H H'∧RpF X.ky H z.1 z.2 H' y∧∀ vs',Rps X.K (bsOf X.ky f) ds' (hidL O.adr H') vs'→Q .non (upd H' a (.lst vs'))):=by
     intro pins s σ H' o us v vs2 Q I ro ru ⟨y,eo,eu,sm,ry,kk⟩
     subst eo;subst eu
     have r1:=zlV rb sm qn ry
     obtain⟨r,hr,hq⟩:=zlW (X:=X) H' (bsOf X.ky f) (hidL O.adr H') a vs y ds z.2 ds' Q (sm _ _ q3) z0t (Rps.mono _ (z1D sm) q4) (Rp.anti (by cases f<;>first|exact Same.refl _|exact Same.emp) _ r1) hw' kk
     exact hr pins s σ H' _ _ v vs2 Q I ro ru hq
    refine z5M (pe_bm F.plainAttrs_list F.slot_list_insert F.type_list_insert hm (z7W hN hv hd hcd) (z03 (z0a (X:=X)) (z03 he z07 hs) hs2) hbase hfew hline hs2 (by rw[hs];rfl)) hsw pins s σ H D I ⟨.ref a,q2,.inl ⟨rfl,vs,SqL.of q3⟩,ρ,[(.nw,.int 0),z],rb.all,by simp[z02,fNil,fC,e3],?_⟩
    rintro us H' sm ⟨y0,r0,eu0,ry0,y,r,eu,ry,er⟩
    have er:r=[]:=er
    subst er;subst eu;subst eu0
    have e00:y0 = .int 0:=Rp.int_.mp ry0.sh
    subst e00
    exact⟨y,rfl,rfl,sm,ry,fun vs' rs'=>k _ _ ⟨O,(rb.mono sm).upd (z6B e1) q1 rs'⟩⟩
 · cases e5
end
def setD(ds:List Dt)(j:Int)(d:Dt):Option (List Dt):=(ixN ds.length j).map fun k=>ds.set k d
def sPut(i:Nat)(Fj Fe:FE):FS:=fun ρ=>(z5V ρ i).bind fun o=>(Fe (z1w ρ)).bind fun x=>(Fj ρ).bind fun j=>(intD j.2).bind fun n=>(setD o.2 n x.2).map fun ds => .nx (ρ.set i (.ow (o.1&&x.1.isFr) ds))
section
variable {x:Str}{e j:Expr}{Fe Fj:FE}{i:Nat}{px spos pos:Pos}
theorem zbC(hN:X.N[i]?=some x)(hv:Vis X.env.scope x)(hj:PF X j Fj)(he:PF X e Fe)(hd:(x==("__debug__" : Str))=false:=by decide)(hcd:(x==("__classdict__" : Str))=false:=by decide)
  (ha:∀ v,assign (.Subscript (.Name x px) j spos) X.env v=(do
   let ov ←holding [v] (eval (.Name x px) X.env)
   let iv ←holding [v,ov] (eval j X.env)
   standAt spos
   holding [v,ov,iv] (setItem ov iv v)
   release [v,ov,iv] []):=by intro _;rfl)
  (hs:swapsWithSole [.Subscript (.Name x px) j spos] e pos.line X.env=pure false:=by rfl) (hw:swappedStores [.Subscript (.Name x px) j spos] e X.env=pure none:=by rfl)
  (h1:(assignEach [.Subscript (.Name x px) j spos] X.env).map (·.2)=[assign (.Subscript (.Name x px) j spos) X.env]:=by rfl) :
  PFS X (.Assign [.Subscript (.Name x px) j spos] e pos) (sPut i Fj Fe):=by
 intro pins s σ H D I ⟨H₀,ρ,oc,⟨O,rb⟩,e0,k⟩
 obtain⟨⟨f,ds⟩,e1,e2⟩:=z04 e0
 obtain⟨z,e3,e4⟩:=z04 e2
 obtain⟨⟨fj,dj⟩,e5,e6⟩:=z04 e4
 obtain⟨n,e7,e8⟩:=z04 e6
 obtain⟨a,vs,q1,q2,q3,q4⟩:=rb.get (z6B e1)
 unfold setD at e8
 cases hx:ixN ds.length n with
 | none=>rw[hx]at e8;cases e8
 | some m =>
  rw[hx]at e8
  cases e8
  refine ps_asg (PE.frame he) (pg_sub (z7W hN hv hd hcd) hj zhT ha) hs hw h1 pins s σ H D I ⟨O.adr,rb.own,z1w ρ,z.1,z.2,rb.rest,e3,fun v H' sm r hn=>?_⟩
  have hg:hidL O.adr (z18 O.adr H H')=H':=z2Q hn
  have rb2:=rb.mono (Same.glue sm hn)
  refine⟨.ref a,q2,ρ,fj,dj,rb2.all,e5,fun v2 H2 s2 r2=>?_⟩
  have ed:=z4U e7
  have ed:dj = .int n:=ed
  subst ed
  have rv:Rp X.K (bsOf X.ky z.1.isFr) z.2 (hidL O.adr H2) v:=Rp.mono _ (by rw[←hg];exact z1D s2) (zbB rb r)
  have ha2:H2 a=some (.lst vs):=s2 _ _ (by rw[z4R (z3N q1)];exact q3)
  refine⟨a,vs,n,m,rfl,Rp.int_.mp r2.sh,ha2,by rw[q4.length];exact hx,k _ _ ⟨O,(rb2.mono s2).upd (z6B e1) q1 ?_⟩⟩
  exact Rps.set m (Rps.anti zgc _ (Rps.mono _ (z1D ((Same.glue sm hn).trans s2)) q4)) (Rp.anti zgd _ rv)
end
end
end L2

end
section
set_option Elab.async false
set_option linter.all false
set_option maxRecDepth 100000
set_option maxHeartbeats 1000000
namespace L2
open PySem PySem.Spec PyProof.Rows
def upR(X:Cx)(F:FI):TI:=fun σ H R=>∃ ρ items,RepS X.ky H ρ σ∧F ρ=some items∧∀ J H',Same H H'→items.length≤sizeLine→(∀ H2,Walk X.K J items H2)→R J H'
def PFR(X:Cx)(tg e:Expr)(F:FI):Prop:=PI X tg e (upR X F)
section
variable {X:Cx}{tg a b e:Expr}{Fa Fb Fe:FE}{pos:Pos}
theorem zhf{p:Pos}(hg:Gl X "range")(hm:X.mg "range" = none)(ha:PF X a Fa)(hs:starEach [a] X.env=[(false,eval a X.env)]:=by rfl):PFR X tg (.Call (.Name "range" p) [a] [] pos) (z0D Fa) :=
 (z9p hg hm (z2C ha z6w hs) hs).imp fun σ H R hZ=>hZ.elim fun ρ hZ=>hZ.elim fun items hZ=>hZ.elim fun rs hZ=>hZ.elim fun e0 k=>by
  obtain⟨⟨f,d⟩,e1,e2⟩:=z04 e0
  obtain⟨j,e3,e4⟩:=z04 e2
  clear e0 e2
  have ed:=z4U e3
  cases (show d = .int j from ed)
  split at e4
  · rename_i hr
    cases e4
    obtain⟨h1,h2⟩:=zaF hr
    refine⟨ρ,f,_,rs,e1,fun v H1 s1 r1=>⟨j,by rw[Rp.int_.mp r1.sh],by omega,by omega,k _ H1 s1 ?_ (fun _=>z5q)⟩⟩
    rw[z5r]
    have:sizeLine=16777216:=rfl
    omega
  · cases e4
theorem zhg{p:Pos}(hg:Gl X "range")(hm:X.mg "range" = none)(ha:PF X a Fa)(hb:PF X b Fb)(hs:starEach [a,b] X.env=[(false,eval a X.env),(false,eval b X.env)]:=by rfl)
  (hs1:starEach [b] X.env=[(false,eval b X.env)]:=by rfl):PFR X tg (.Call (.Name "range" p) [a,b] [] pos) (z7F Fa Fb) :=
 (zgW hg hm (z2C ha (z2C hb z6w hs1) (by rw[hs,hs1])) hs hs1).imp fun σ H R hZ=>hZ.elim fun ρ hZ=>hZ.elim fun items hZ=>hZ.elim fun rs hZ=>hZ.elim fun e0 k=>by
  obtain⟨⟨f,d⟩,e1,e2⟩:=z04 e0
  obtain⟨⟨f',d'⟩,e1',e2'⟩:=z04 e2
  obtain⟨i,e3,e4⟩:=z04 e2'
  obtain⟨j,e5,e6⟩:=z04 e4
  clear e0 e2 e2' e4
  have ed:=z4U e3
  have ed':=z4U e5
  cases (show d = .int i from ed)
  cases (show d' = .int j from ed')
  split at e6
  · rename_i hr
    rw[Bool.and_eq_true]at hr
    cases e6
    obtain⟨h1,h2⟩:=zaF hr.1
    obtain⟨h3,h4⟩:=zaF hr.2
    refine⟨ρ,f,_,rs,e1,fun v H1 s1 r1=>⟨ρ,f',_,rs.mono s1,e1',fun v' H2 s2 r2=>⟨i,j,by rw[Rp.int_.mp r1.sh,Rp.int_.mp r2.sh],⟨by omega,by omega,by omega,by omega⟩,k _ H2 (s1.trans s2) ?_ (fun _=>z5q)⟩⟩⟩
    rw[z5r]
    have:sizeLine=16777216:=rfl
    omega
  · cases e6
end
def z7h(Fi:FI)(g:Tg)(F:FS):FS:=fun ρ=>(Fi ρ).bind fun items=>forF g F items ρ
section
variable {X:Cx}{tg iter:Expr}{body:List Stmt}{Fi:FI}{g:Tg}{F:FS}{pos:Pos}
theorem ziv(hp:PassesOwn (model X.prog X.w) X.A X.env X.xe)(hc:X.calm=true)(hi:PFR X tg iter Fi)(hg:PG X tg (g.low X.K))(hb:PFSs X body F)
   (hs:∀ x,foldedSetIterable iter X.env x=pure x:=by intro _;rfl):PFS X (.For tg iter body [] pos) (z7h Fi g F):=(zhM hp hc hi hg hb hs).imp fun D σ H ⟨H₀,ρ,oc,⟨O,rb⟩,e0,k⟩=>by
 obtain⟨items,e1,e2⟩:=z04 e0
 refine⟨ρ,items,rb.all,e1,fun J H1 sm hsz wk=>?_⟩
 refine⟨fun i m σ' H'=>m=items.length-i∧∃ ρ',RepB X H₀ H' ρ' σ'∧forF g F (items.drop i) ρ'=some oc,⟨_,rfl,_,⟨O,rb.mono sm⟩,e2⟩,?_⟩
 rintro i m σ' H' ⟨rfl,ρ',⟨O2,r2⟩,f2⟩
 obtain⟨w1,w2⟩:=wk (hidL O2.adr H') O2.adr H' (Same.refl _) fun a ha=>by obtain⟨⟨vs,q⟩,_⟩:=r2.own a ha;exact⟨_,q⟩
 by_cases hlt:i<items.length
 · obtain⟨x,hx⟩:∃ x,items[i]?=some x:=⟨_,List.getElem?_eq_getElem hlt⟩
   have hdrop:items.drop i=x::items.drop (i+1):=by
    rw[List.drop_eq_getElem_cons hlt]
    rw[List.getElem?_eq_getElem hlt]at hx
    cases hx;rfl
   rw[hdrop]at f2
   unfold forF at f2
   obtain⟨ρ2,p1,f3⟩:=z04 f2
   obtain⟨oc',p2,f4⟩:=z04 f3
   obtain⟨go,yl⟩:=w1 i x hx
   refine .inr ⟨go,fun σ3 H3=>∃ ρ3,RepB X H₀ H3 ρ3 σ3∧forF g F (items.drop (i+1)) ρ3=some oc,fun σ3 H3 hZ=>hZ.elim fun ρ3 hZ=>hZ.elim fun r3 f3=>⟨items.length-(i+1),by omega,rfl,ρ3,r3,f3⟩,fun xv H3 y3=>?_⟩
   obtain⟨s3,k3,r3⟩:=yl xv H3 y3
   have sm3:Same H' H3:=fun b o e=>by
    by_cases hb:b∈O2.adr
    · rw[k3 b hb];exact e
    · exact(z3J (s3 b o (by rw[z0k hb];exact e))).2
   refine Tg.low_mono (Tg.simO (r2.mono sm3) r3 p1) ?_
   rintro σ4 H4 ⟨eH,O4,r4⟩
   subst eH
   refine⟨H₀,ρ2,oc',⟨O4,r4⟩,p2,?_⟩
   cases oc' with
   | nx ρ5=>exact fun σ5 H5 r5=>⟨ρ5,r5,f4⟩
   | ct ρ5=>exact fun σ5 H5 r5=>⟨ρ5,r5,f4⟩
   | bk ρ5=>cases f4;exact k
   | rt f d=>cases f4;exact k
   | ex C=>cases f4;exact k
 · have hd:items.drop i=[]:=List.drop_of_length_le (by omega)
   rw[hd]at f2
   cases f2
   exact .inl ⟨w2 i (by omega),k σ' H' ⟨O2,r2⟩⟩
end
section
variable {P:Program}{w:World}{K:PySem.W.Frag}{mg:Str→Option Value}{base:Heap}
theorem Fun.dat{x qual:Str}{st:Stmt}{f:Addr}{fd:FuncData}{N ps:List Str}{k np nn:Nat}{fr:Bool}{F:FS}(Fu:Fun K x qual st f fd)(S:FnScope N ps (z05 st))(hp:np=ps.length)(hn:nn=N.length)
  (body:∀(cdv:Value) (A:Around) (outer:List Env) (s:Shared) (H:Hp) (E:XK),Room k (A.deeper (envOfC qual (z05 st) s.heap.objs.size f cdv)) →
   PFSs (cxOf CX0 P w K mg base N qual (z05 st) f cdv A outer s H E).nox (z1u st) F):FnOk P w K mg base CX0 (k+1) f fd ps (spc K fr (cOf np nn fr F)):=by
 subst hp hn
 exact Fun.data Fu S body
end
theorem z0f{X:Cx}{e:Expr}{es:List Expr}{pos:Pos}{Fs:FA}{fr:Bool}{k k':Nat}{f:Addr}{fd:FuncData}{ps:List Str}{ct:FC}{x:Str}{st:Stmt}{p:Pos}(F:FnOk X.prog X.w X.K X.mg X.base CX0 k f fd ps (spc X.K fr ct))(D:Df X.K X.mg x st ps f fd)(hr:Room k' X.A)(hg:Gl X x)
  (ha:PFA X (e::es) Fs) (hle:k≤k':=by decide) (hdb:(x==("__debug__" : Str))=false:=by decide) (hst:starEach (e::es) X.env=(false,eval e X.env)::starEach es X.env:=by rfl) (hpl:(backTo pos (starEach es X.env)).any (·.1)=false:=by rfl):PF X (.Call (.Name x p) (e::es) [] pos) (z08 fr ct Fs) :=
 p_call F (hr.mono hle) hg D.mg D.fn.kp D.bd ha hdb hst hpl
def Dh(K:PySem.W.Frag)(x:Str)(st:Stmt)(f:Addr):Prop:=∃(oc kV doc pm cdv ct:Value) (od an:Option Addr) (osl:Array (Option Value)),PySem.W.nsIn K mainGlobals x=some (some (.ref f))∧K.lookup f=some ⟨oc,od,.func (PySem.W.fnOf x x (z2j st) (z1u st) (z05 st) .none kV doc pm an cdv ct),osl⟩∧PySem.W.codeIn K cdv x=true∧PySem.W.keepIn K (.ref f)=true
theorem dh{K:PySem.W.Frag}{x:Str}{st:Stmt}{f:Addr}{oc kV doc pm cdv ct:Value}{od an:Option Addr}{osl:Array (Option Value)}(e:PySem.W.nsIn K mainGlobals x=some (some (.ref f)))(l:K.lookup f=some ⟨oc,od,.func (PySem.W.fnOf x x (z2j st) (z1u st) (z05 st) .none kV doc pm an cdv ct),osl⟩)(c:PySem.W.codeIn K cdv x=true)(k:PySem.W.keepIn K (.ref f)=true):Dh K x st f:=⟨_,_,_,_,_,_,_,_,_,e,l,c,k⟩
theorem Dh.df{K:PySem.W.Frag}{h:Heap}{mg:Str→Option Value}(X:K.In h)(G:h.Ns mainGlobals mg){x:Str}{st:Stmt}{f:Addr}{ps:List Str}(d:Dh K x st f)
  (hb:∀(kV doc pm:Value) (an:Option Addr) (cdv ct:Value) (us:List Value),us.length=ps.length→bindArgs (PySem.W.fnOf x x (z2j st) (z1u st) (z05 st) .none kV doc pm an cdv ct) ⟨us,[]⟩=pure (ps.zip us)) :
  ∃ fd,Df K mg x st ps f fd∧∀ us:List Value,us.length=ps.length→bindArgs fd ⟨us,[]⟩=pure (ps.zip us):=by
 obtain⟨_,_,_,_,_,_,_,_,_,e,l,c,k⟩:=d
 exact⟨_,df_mk X G e l c k hb,hb _ _ _ _ _ _⟩
theorem ndp(l:List Str)(h:l.Nodup:=by decide +kernel):l.Nodup:=h
theorem jlt(l:List Nat)(m:Nat)(h:∀ j∈l,j<m:=by decide):∀ j∈l,j<m:=h
theorem scm{N P:List Str}{sc:Scope}(kind:sc.kind = .function:=by rfl)(co:sc.isCoroutine=false:=by rfl)(gen:sc.isGenerator=false:=by rfl)(nd:N.Nodup:=by decide +kernel)(pre:N.take P.length=P:=by rfl)(par:∀ x∈P,sc.names.lookup x=some .local∨sc.names.lookup x=some .cell:=by decide +kernel)(nofree:∀ y∈sc.names,y.2 ≠ .free:=by decide +kernel):FnScope N P sc:=⟨kind,co,gen,nd,pre,par,nofree⟩
theorem ziw{Fi:FI}{g:Tg}{F:FS}{ρ:Rho}:z7h Fi g F ρ=(Fi ρ).bind fun items=>forF g F items ρ:=rfl
end L2

end
section
set_option Elab.async false
set_option linter.all false
set_option maxRecDepth 100000
namespace L2
open PySem PySem.Spec PySem.W PyProof.Rows
abbrev bmVE:List Value:=[.type "ValueError",.type "Exception",.type "BaseException",.type "object"]
structure Xc(K:PySem.W.Frag)(mg:Str→Option Value)(n:Nat)(C:Addr):Prop where
 mg:mg (exN n)=some (.ref C)
 ok:excIn K C bmVE "ValueError.__new__" = true
 ve:kitCls K (.ref C) (.type "ValueError")=some true
theorem zlX{K:PySem.W.Frag}{h:Heap}{C:Addr}{bmB:List Value}{newId:String}(kin:K.In h)(e:excIn K C bmB newId=true):∃ bm N nm q bs hdct sn sub ab col dd k0 k1 k2 k3 k5,
   h.get? C=some (excClassObj nm q C N bs bm hdct sn sub ab col dd k0 k1 k2 k3 k5 newId)∧(∃ mN,h.Ns N mN∧mN "__init__" = none)∧OwnTail h bmB bm:=by
 unfold excIn at e
 split at e
 · rename_i dct cd sl q
   split at e
   · rename_i C' bm a0 a1 a2 a3 n a5 q1 q2
     simp only[Bool.and_eq_true,beq_iff_eq,Bool.not_eq_true']at e
     obtain⟨⟨⟨⟨⟨e1,e2⟩,e3⟩,e4⟩,e5⟩,e6⟩:=e
     subst e1 e2
     obtain⟨nm,bs,mro,ns,qn,hd,sn,sub,ab,hdel,col⟩:=cd
     have hs:sl=#[a0,a1,a2,a3,some (.builtin n),a5]:=by
      have:=congrArg List.toArray q2
      simpa using this
     dsimp only at q1 e3 e5 e6
     subst q1 hs
     have z:=kin _ _ q
     refine⟨bm,ns,nm,qn,bs,hd,sn,sub,ab,hdel,dct,a0,a1,a2,a3,a5,?_,⟨_,Heap.Ns.of_isNs (isNs_of_in kin e5),nsMap_none_of_in kin e5 e6⟩,tail_of_in kin e4⟩
     rw[z,e3]
   · cases e
 · cases e
theorem zix{h:Heap}{bmB bm:List Value}{v:Value}(t:OwnTail h bmB bm)(q:bmB.contains v=true):bm.contains v=true:=by
 induction t with
 | base=>exact q
 | own _ _ _ _ ih=>rw[List.contains_cons,ih,Bool.or_true]
theorem ziy{h h':Heap}{N:Addr}{m:Str→Option Value}(x:h.Ns N m)(k:∀ b o,h.get? b=some o→h'.get? b=some o):h'.Ns N m:=by
 obtain⟨o,es,ep,ho,r⟩:=x
 exact⟨o,es,ep,k _ _ ho,r⟩
theorem ziz{X:Cx}{sts:List Stmt}:PFSs X sts z6z:=fun pins s σ H D I hZ=>hZ.elim fun H₀ hZ=>hZ.elim fun ρ hZ=>hZ.elim fun oc hZ=>hZ.elim fun rb hZ=>hZ.elim fun e k=>by cases e
def z6C(n:Nat):FS:=fun _=>some (.ex n)
section
variable {X:Cx}{C:Addr}{n:Nat}{e:Expr}{es:List Expr}{pos:Pos}{Fs:FA}{fr:Bool}{k k':Nat}{f:Addr}{fd:FuncData}{ps:List Str}{x:Str}{st:Stmt}{p:Pos}
theorem zge(n:Nat){t:Str}{j:Nat}{p1 np cpos:Pos}(hc:X.calm=true)(xc:Xc X.K X.mg n C)(hg:Gl X x)(hx:exN n=x:=by rfl)(hdb:(x==("__debug__" : Str))=false:=by decide):
  PFS X (.Raise (some (.Call (.Name x np) [.Constant (.str t) j p1] [] cpos)) none pos) (z6C n):=by
 rintro pins s σ H D I ⟨H₀,ρ,oc,⟨O,rb⟩,e0,k⟩
 cases e0
 obtain⟨E,hE,hp,hr⟩:=k C xc.mg
 obtain⟨bm,N,nm,q,bs,hdct,sn,sub,ab,col,dd,k0,k1,k2,k3,k5,g1,⟨mN,g2,g3⟩,g4⟩:=zlX I.mod.kin xc.ok
 refine wpAny_Raise_call_subT (nm:=nm) (q:=q) (N:=N) (bs:=bs) (hdct:=hdct) (sn:=sn) (sub:=sub) (ab:=ab) (col:=col) (dd:=dd) (k0:=k0) (k1:=k1) (k2:=k2) (k3:=k3) (k5:=k5) F.excBase_ValueError (zix g4 (by decide)) (I.ok.hd hc) rfl g3 (z5L I hg (by rw[←hx];exact xc.mg) ⟨rfl,?_⟩ hdb)
 refine Calls.evalArgs_plain (thn ((show PFA X [.Constant (.str t) j p1] _ from z03 zi4 z07) cpos pins s σ H (fun vs H'=>vs.length=1∧Same H H') I ⟨ρ,_,rb.all,rfl,fun vs H' sm r=>⟨r.length,sm⟩⟩) fun us s1 hZ=>?_)
 obtain⟨vs,H1,I1,r,hl,sm⟩:=hZ
 refine⟨rfl,by show us.length≤_;rw[←r.length,hl];decide,I1.bk _ _ g1,ziy g2 I1.bk,g4.keeps I1.bk,fun h' ea m=>?_⟩
 exact hr pins σ H1 s1 _ ea _ I1 m rfl rfl (hE H1 (rb.same.trans (z0t.trans sm)))
abbrev FX:=List Dt→Option (Dt ⊕ Nat)
def spx(K:PySem.W.Frag)(mg:Str→Option Value)(fr:Bool)(c:FX):Sp:=fun vs H Q E=>∃ ds r,Rps K emp ds H vs∧c ds=some r ∧
 match r with
 | .inl d=>∀ v H',Same H H'→Rp K (if fr then H else emp) d H' v→Q v H'
 | .inr n=>∀ C H',mg (exN n)=some (.ref C)→Same H H'→E (.ref C) none H'
theorem passF{P:Program}{w:World}:z5m (CX1 P w) X E0:=by
 rintro pins σ H s e s' I ⟨ea,C,H',rfl,os,bare,un,hok,fly,hE⟩
 exact hE.elim
theorem zlY{CX:CXT}{sp:Sp}{E:XK}{t:TA}{pins:List (Addr×Obj)}{s:Shared}{σ:St}{H:Hp}{Q:VK}(F:FnOk X.prog X.w X.K X.mg X.base CX k f fd ps sp)(hr:Room k X.A)(hg:Gl X x)(hm:X.mg x=some (.ref f))(hk:PySem.W.keepIn X.K (.ref f)=true)(hb:Binds X.K fd ps [])
  (ha:PA X (e::es) t) (hdb:(x==("__debug__" : Str))=false) (he:starEach (e::es) X.env=(false,eval e X.env)::starEach es X.env) (hpl:(backTo pos (starEach es X.env)).any (·.1)=false)
  (I:Inv X pins σ H s) (h:t σ H fun vs H1=>sp vs H1 Q E) (hx:∀ H1 s1 e s',Inv X pins σ H1 s1→CX X.stack H1 s1 E e s'→X.xe e s'):wpAny (model X.prog X.w) X.A (eval (.Call (.Name x p) (e::es) [] pos) X.env) (EP X pins σ Q) X.xe s:=by
 refine wpAny_Call_Name_kw (z5L I hg hm ?_ hdb)
 refine PySem.W.callWith_K (h₀:=X.base) I.ok.mod.kin hk (thn (ha pos pins s σ H _ I h) fun us s1 hZ=>hZ.elim fun vs hZ=>hZ.elim fun H1 hZ=>hZ.elim fun I1 hZ=>hZ.elim fun r q=>⟨I1.kIn,?_⟩) he hpl
 have hl:(us++[]).length=ps.length:=by rw[List.append_nil,←r.length];exact F.len _ _ _ _ q
 have hb2:=hb s1 us I1.kIn hl
 rw[List.append_nil]at hb2
 refine wpAny_call (codeAny_mono (F.run X.A X.stack s1 H1 ⟨us,[]⟩ us vs Q E hr I1.env0 hb2 r q) fun r s' hq=>?_)
 cases r with
 | error e=>exact hx H1 s1 e s' I1 hq
 | ok fl =>
  cases fl with
  | ret u=>exact I1.after hq
  | next=>exact False.elim hq
  | brk=>exact False.elim hq
  | cont=>exact False.elim hq
def zaJ(c:FX)(Fs:FA):FS:=fun ρ=>(Fs ρ).bind fun xs=>(c (sndL xs)).map fun r=>match r with|.inl _ => .nx ρ|.inr n => .ex n
theorem zlZ{ct:FX}{pos':Pos}(F:FnOk X.prog X.w X.K X.mg X.base (CX1 X.prog X.w) k f fd ps (spx X.K X.mg fr ct))(D:Df X.K X.mg x st ps f fd)(hr:Room k' X.A)(hg:Gl X x)
  (ha:PFA X (e::es) Fs) (hle:k≤k':=by decide) (hdb:(x==("__debug__" : Str))=false:=by decide) (hst:starEach (e::es) X.env=(false,eval e X.env)::starEach es X.env:=by rfl) (hpl:(backTo pos (starEach es X.env)).any (·.1)=false:=by rfl)
  (hs:swapsWith (.Call (.Name x p) (e::es) [] pos) none pos'.line X.env=pure false:=by rfl):PFS X (.Expr (.Call (.Name x p) (e::es) [] pos) pos') (zaJ ct Fs):=by
 rintro pins s σ H De I ⟨H₀,ρ,oc,⟨O,rb⟩,e0,k⟩
 obtain⟨xs,e1,e2⟩:=z04 e0
 cases q:ct (sndL xs) with
 | none=>rw[q]at e2;cases e2
 | some r =>
  rw[q]at e2
  cases r with
  | inl d =>
   cases e2
   exact z5M (zay (E:=E0) (dvs:=[]) F (hr.mono hle) hg D.mg D.fn.kp D.bd .nil passF ha hdb hst hpl) hs pins s σ H De I ⟨ρ,xs,rb.all,e1,fun vs H1 s1 r1=>by
     dsimp only
     rw[List.append_nil]
     exact⟨_,.inl d,r1.sh,q,fun v H' s' r'=>k σ H' ⟨O,rb.mono (s1.trans s')⟩⟩⟩
  | inr n =>
   cases e2
   have go:∀ E:XK,z5m (CX1 X.prog X.w) X E→(∀ C H',X.mg (exN n)=some (.ref C)→Same H H'→E (.ref C) none H')→wpAny (model X.prog X.w) X.A (exec (.Expr (.Call (.Name x p) (e::es) [] pos) pos') X.env) (SP X pins De) X.xe s:=fun E hp hE =>
     z5M (zay (E:=E) (dvs:=[]) F (hr.mono hle) hg D.mg D.fn.kp D.bd .nil hp ha hdb hst hpl) hs pins s σ H De I ⟨ρ,xs,rb.all,e1,fun vs H1 s1 r1=>by
      dsimp only
      rw[List.append_nil]
      exact⟨_,.inr n,r1.sh,q,fun C H' hC s'=>hE C H' hC (s1.trans s')⟩⟩
   by_cases hC:∃ C,X.mg (exN n)=some (.ref C)
   · obtain⟨C,hC⟩:=hC
     obtain⟨E,hE,hp,hr⟩:=k C hC
     refine go E hp fun C' H' hC' sm=>?_
     rw[hC]at hC'
     cases hC'
     exact hE H' (rb.same.trans (z0t.trans sm))
   · exact go E0 passF fun C H' h=>(hC ⟨C,h⟩).elim
end
def xOf(np n:Nat)(fr:Bool)(F:FS):FX:=fun ds=>if ds.length=np then
 (F (rho0 n ds)).bind fun oc=>match oc with|.rt f d=>if fr&&!(f.isFr||d.flat) then none else some (.inl d)|.nx _=>some (.inl .non)|.ex n=>some (.inr n)|_=>none
 else none
section
variable {P:Program}{w:World}{K:PySem.W.Frag}{mg:Str→Option Value}{base:Heap}
theorem Fun.datX{x qual:Str}{st:Stmt}{f:Addr}{fd:FuncData}{N ps:List Str}{k np nn:Nat}{fr:Bool}{F:FS}(Fu:Fun K x qual st f fd)(S:FnScope N ps (z05 st))(hp:np=ps.length)(hn:nn=N.length)
    (body:∀(cdv:Value) (A:Around) (outer:List Env) (s:Shared) (H:Hp) (E:XK),Room k (A.deeper (envOfC qual (z05 st) s.heap.objs.size f cdv)) →
      PFSs (cx1 P w K mg base N qual (z05 st) f cdv A outer s H E) (z1u st) F):FnOk P w K mg base (CX1 P w) (k+1) f fd ps (spx K mg fr (xOf np nn fr F)):=by
  subst hp hn
  obtain⟨oc,od,kV,doc,pm,an,cdv,ct,osl,rfl,lk,hcd⟩:=Fu.ex
  refine fn_of lk hcd S (fun vs H Q E h=>?_) fun A outer s H vs Q E hr h=>?_
  · obtain⟨ds,d,r,e,q⟩:=h
    unfold xOf at e
    split at e
    · rename_i hl
      rw[r.length];exact hl
    · cases e
  · obtain⟨ ds,d,r,e,q⟩:=h
    unfold xOf at e
    split at e
    · rename_i hl
      obtain⟨oc,e1,e2⟩:=z04 e
      refine⟨_,body cdv A outer s H E hr,H,rho0 N.length ds,oc,⟨[],z8d rfl r⟩,e1,?_⟩
      cases oc with
      | nx ρ=>cases e2;exact fun σ H' hZ=>hZ.elim fun O rb=>q _ H' (rb.same.trans z0t) (Rp.non_.mpr rfl)
      | bk ρ=>cases e2
      | ct ρ=>cases e2
      | ex n=>cases e2;exact fun C hC=>xok1 fun H' sm=>q C H' hC sm
      | rt f d' =>
        have e2:(if(fr&&!(f.isFr||d'.flat))=true then none else some (Sum.inl d'))=some d:=e2
        split at e2
        · cases e2
        · rename_i hf
          cases e2
          refine fun v H' sm r'=>q v H' sm ?_
          cases fr with
          | false=>exact Rp.anti Same.emp _ r'
          | true =>
            have hf:f.isFr=true∨d'.flat=true:=by
              cases h1:f.isFr<;>cases h2:d'.flat<;>simp[h1,h2]at hf ⊢
            rcases hf with hf|hf
            · rw[hf]at r';exact r'
            · exact Rp.flat d' hf r'
    · cases e
end
end L2

end
section
set_option Elab.async false
set_option linter.all false
set_option maxRecDepth 100000
namespace L2
open PySem PySem.Spec PySem.W PyProof.Rows
abbrev Cx.caught(X:Cx)(ea:Addr):Cx:={ X with A:=X.A.mark (some (.ref ea)),calm:=false,xe:=fun _ _=>False }
section
variable {X:Cx}{pins:List (Addr×Obj)}{σ:St}{H H1 H' H₀:Hp}{s s1:Shared}{ea C M:Addr}{E:Value→Shared→Prop}
theorem Cx.Ok.caught(ok:X.Ok)(ea:Addr):(X.caught ea).Ok :=
 ⟨ok.mod,ok.kind,ok.glob,ok.blt,ok.above,ok.inj,ok.has,ok.cab,(fun z=>by cases z),ok.frames,ok.stk,ok.exf,ok.bs,ok.bsz,ok.noex,ok.exfs,ok.funs,ok.frf⟩
theorem Cx.Ok.uncaught(ok:(X.caught ea).Ok)(o:X.Ok):X.Ok:=o
theorem Inv.caught(I:Inv X pins σ H s)(ea:Addr):Inv (X.caught ea) pins σ H s:=⟨I.ok.caught ea,I.os,I.bare,I.base,I.loc,I.cell,I.free,I.freeC,I.pin,I.hok,I.len⟩
theorem Inv.uncaught(I:Inv (X.caught ea) pins σ H s)(o:X.Ok):Inv X pins σ H s:=⟨o,I.os,I.bare,I.base,I.loc,I.cell,I.free,I.freeC,I.pin,I.hok,I.len⟩
theorem SP.uncaught{D:Ends}{f:Flow}{s':Shared}(o:X.Ok)(h:SP (X.caught ea) pins D f s'):SP X pins D f s':=by
 cases f with
 | next=>obtain⟨σ',H',I,q⟩:=h;exact⟨σ',H',I.uncaught o,q⟩
 | brk=>obtain⟨σ',H',I,q⟩:=h;exact⟨σ',H',I.uncaught o,q⟩
 | cont=>obtain⟨σ',H',I,q⟩:=h;exact⟨σ',H',I.uncaught o,q⟩
 | ret u=>obtain⟨v,σ',H',I,r,q⟩:=h;exact⟨v,σ',H',I.uncaught o,r,q⟩
theorem RepB.caught{ρ:Rho}(h:RepB X H₀ H ρ σ)(ea:Addr):RepB (X.caught ea) H₀ H ρ σ:=by
 obtain⟨O,h⟩:=h
 exact⟨O,h.ndA,h.ndI,h.own,h.len,h.b0,h.same,h.at_⟩
theorem RepB.uncaught{ρ:Rho}(h:RepB (X.caught ea) H₀ H ρ σ):RepB X H₀ H ρ σ:=by
 obtain⟨O,h⟩:=h
 exact⟨O,h.ndA,h.ndI,h.own,h.len,h.b0,h.same,h.at_⟩
structure At(X:Cx)(pins:List (Addr×Obj))(σ:St)(H1:Hp)(s1:Shared)(H':Hp)(ea C:Addr)(s:Shared):Prop where
 inv:Inv X pins σ H' s
 fly:Fly s1.heap H' ea C s.heap
 un:Un (frs X.stack) [] H1 H' s1.heap s.heap
theorem At.step{a0:Value}{T:Addr}{l':List Env}{h':Heap}(I1:Inv X pins σ H1 s1)(a:At X pins σ H1 s1 H' ea C s)(n3:s1.heap.get? T=none)(n4:H' T=none)(f:(hideAll s.heap (ea::T::frs X.stack)).FlyingW l' ea (.ref C) a0 h')(us:s.heap.UpToSlots h'):
  At X pins σ H1 s1 H' ea C { s with heap:=h' }:=by
 obtain⟨f1,f2,f3⟩:=Fly.step a.fly.1 a.fly.2.1 n3 n4 a.inv.stack a.inv.stkFree a.inv.hok a.un f us (fun b hb => .inl hb) fun b o _=>by simp
 exact⟨I1.call' (ch:=[]) (a.inv.os.trans I1.os.symm) f3 f2 a.inv.bare fun b z=>absurd z (by simp),f1,f3⟩
theorem zhh{Q:Unit→Shared→Prop}{A2:Around}{E2:Value→Shared→Prop}(I1:Inv X pins σ H1 s1)(a:At X pins σ H1 s1 H' ea C s)(hs:X.stack=X.env::X.outer)(hf:X.env.frame=some X.env.locals)
  (h:∀ s',At X pins σ H1 s1 H' ea C s'→Q () s'):wpAny (model X.prog X.w) X.A (noteFrame (.ref ea) X.env) (fun _ s₂=>wpAny (model X.prog X.w) A2 (setFlight (.ref ea) none) Q E2 s₂) E s:=by
 obtain⟨T,a0,n3,n4,fl⟩:=a.fly.base a.inv.stack
 have fl':=fl
 rw[hs]at fl'
 refine wpAny_looks_onW (by rw[←hs];exact a.inv.ok.frames) hf fl' fun h1 held us=>wpAny_landsW held fun h2 fl2 us2=>h _ ?_
 rw[←hs]at fl2
 exact(show At X pins σ H1 s1 H' ea C { s with heap:=h2 }from a.step I1 n3 n4 fl2 (UpToSlots.trans us us2))
theorem z8g{Q:Unit→Shared→Prop}{A2:Around}(I1:Inv X pins σ H1 s1)(a:At X pins σ H1 s1 H' ea C s)
  (h:∀ s',At X pins σ H1 s1 H' ea C s'→Q () s'):wpAny (model X.prog X.w) A2 (setFlight (.ref ea) none) Q E s:=by
 obtain⟨T,a0,n3,n4,fl⟩:=a.fly.base a.inv.stack
 exact lands_againW fl fun h2 fl2 us2=>h _ (a.step I1 n3 n4 fl2 us2)
theorem At.looks(a:At X pins σ H1 s1 H' ea C s):Looks (model X.prog X.w) s.heap (typeOf (.ref ea)) (.ref C):=by
 obtain⟨_,_,oe,_,_,_,_,_,q1,q2,_⟩:=a.fly
 intro A Q E s' k q
 exact wpAny_typeOf_ref (k _ _ q1) (by rw[q2];exact q)
theorem ziA{Q:Flow→Shared→Prop}{nm:Option Str}{body:List Stmt}{hpos np:Pos}{x:Str}{rest:List ExceptHandler}(I1:Inv X pins σ H1 s1)(a:At X pins σ H1 s1 H' ea C s)(hg:Gl X x)(hm:X.mg x=some (.ref M))(hit:exmOne X.K (.ref C) (.ref M)=some true)(hdb:(x==("__debug__" : Str))=false)
  (h:codeAny (model X.prog X.w) (X.A.mark (some (.ref ea))) (.handlers (.ref ea) [.ExceptHandler none nm body hpos] X.env) (fun r s₂=>match r with
   | .ok f=>(match nm with
    | none=>Q f s₂
    | some n=>wpAny (model X.prog X.w) X.A (do
     bindName X.env n Value.none
     unbindBehindTheSuite X.env n hpos) (fun _ s₃=>Q f s₃) E s₂)
   | .error x=>cameBackBy (model X.prog X.w) X.A X.env E x s₂) s) :
  wpAny (model X.prog X.w) X.A (handleBy (.ref ea) X.env (.ExceptHandler (some (.Name x np)) nm body hpos::rest)) Q E s:=by
 refine wpAny_handleBy_cons (codeAny_handlers_test (z5L (X:=X.caught ea) (a.inv.caught ea) hg hm ?_ hdb)) (fun z=>nomatch z)
 exact exm_one a.inv.kIn a.looks hit _ _ _ s (fun b o e=>e) h
end
def noEx:Oc→Option Oc
 | .ex _=>none
 | o=>some o
def clr(i:Nat):Oc→Option Oc
 | .nx ρ=>some (.nx (ρ.set i .no))
 | .rt f d=>some (.rt f d)
 | _=>none
def sTry(c:FX)(Fs:FA)(hits:Nat→Bool)(G:FS):FS:=fun ρ=>(Fs ρ).bind fun xs=>(c (sndL xs)).bind fun r=>match r with|.inl _=>some (.nx ρ)|.inr n=>if hits n then(G ρ).bind noEx else none
def zaK(c:FX)(Fs:FA)(hits:Nat→Bool)(i:Nat)(G:FS):FS:=fun ρ=>(Fs ρ).bind fun xs=>(c (sndL xs)).bind fun r=>match r with|.inl _=>some (.nx ρ)|.inr n=>if hits n then(G (ρ.set i .ex)).bind (clr i) else none
structure Hit(K:PySem.W.Frag)(mg:Str→Option Value)(hits:Nat→Bool)(x:Str)(M:Addr):Prop where
 gl:mg x=some (.ref M)
 hit:∀ n C,hits n=true→mg (exN n)=some (.ref C)→exmOne K (.ref C) (.ref M)=some true∧kitCls K (.ref C) (.type "ValueError")=some true
theorem ziB{K:PySem.W.Frag}{mg:Str→Option Value}{hits:Nat→Bool}{x:Str}{M:Addr}(a:mg x=some (.ref M))(b:∀ n C,hits n=true→mg (exN n)=some (.ref C)→exmOne K (.ref C) (.ref M)=some true∧kitCls K (.ref C) (.type "ValueError")=some true):Hit K mg hits x M:=⟨a,b⟩
section
variable {X:Cx}{C:Addr}{n:Nat}{e:Expr}{es:List Expr}{pos pos' tpos hpos np:Pos}{Fs:FA}{fr:Bool}{k k':Nat}{f:Addr}{fd:FuncData}{ps:List Str}{x y:Str}{st:Stmt}{p:Pos}{ct:FX}
theorem zbD{pins:List (Addr×Obj)}{s:Shared}{σ:St}{H:Hp}{De:Ends}{ρ:Rho}{xs:List Dv}{r:Dt ⊕ Nat}{h0:ExceptHandler}(F:FnOk X.prog X.w X.K X.mg X.base (CX1 X.prog X.w) k f fd ps (spx X.K X.mg fr ct))(D:Df X.K X.mg x st ps f fd)(hr:Room k' X.A)(hg:Gl X x)
  (ha:∀ E,PFA (X.wish E) (e::es) Fs) (hle:k≤k') (hdb:(x==("__debug__" : Str))=false) (hst:starEach (e::es) X.env=(false,eval e X.env)::starEach es X.env) (hpl:(backTo pos (starEach es X.env)).any (·.1)=false)
  (hs:swapsWith (.Call (.Name x p) (e::es) [] pos) none pos'.line X.env=pure false) (hstk:X.stack=X.env::X.outer) (hfr:X.env.frame=some X.env.locals)
  (I:Inv X pins σ H s) (rs:RepS X.ky H ρ σ) (e1:Fs ρ=some xs) (q:ct (sndL xs)=some r) (hN:∀ d,r = .inl d→∀ H',Same H H'→De.nx σ H')
  (hX:∀ n,r = .inr n→∀ H1 s1 H' ea C s',Inv X pins σ H1 s1→X.mg (exN n)=some (.ref C)→Same H H'→At X pins σ H1 s1 H' ea C s'→wpAny (model X.prog X.w) X.A (handleBy (.ref ea) X.env [h0]) (SP X pins De) X.xe s') :
  wpAny (model X.prog X.w) X.A (exec (.Try [.Expr (.Call (.Name x p) (e::es) [] pos) pos'] [h0] [] [] tpos) X.env) (SP X pins De) X.xe s:=by
 refine wpAny_Try_except ?_
 have go:∀ E1:Value→Shared→Prop,(∀ n,r = .inr n→∀ H1 s1 H' ea C s',Inv X pins σ H1 s1→X.mg (exN n)=some (.ref C)→Same H H'→At X pins σ H1 s1 H' ea C s'→E1 (.ref ea) s') →
    wpAny (model X.prog X.w) X.A (exec (.Expr (.Call (.Name x p) (e::es) [] pos) pos') X.env) (SP X pins De) E1 s:=fun E1 hE1=>by
  have I1:Inv (X.wish E1) pins σ H s:=I.wish E1
  refine thn (wpAny_Expr_any (thn (zlY (X:=X.wish E1) (E:=fun c _ H'=>∃ n C,r = .inr n∧c = .ref C∧X.mg (exN n)=some (.ref C)∧Same H H') (Q:=fun _ H'=>De.nx σ H') F (hr.mono hle) hg D.mg D.fn.kp D.bd (ha E1) hdb hst hpl I1 ⟨ρ,xs,rs,e1,fun vs H1 s1 r1=>?_⟩ fun H1 s1 e s' J cx=>?_)
    fun v s1 ⟨u,H1,J,r1,q1⟩=>(show SP (X.wish E1) pins De .next s1 from⟨σ,H1,J,q1⟩)) I1.quiet hs) fun f s1 z=>z.unwish
  · refine⟨_,r,r1.sh,q,?_⟩
    cases r with
    | inl d=>exact fun v H' s' _=>hN d rfl H' (s1.trans s')
    | inr n=>exact fun C H' hC s'=>⟨n,C,rfl,rfl,hC,s1.trans s'⟩
  · obtain⟨ea,C,H',rfl,os,bare,un,hok,fly,n,C',er,ec,hC,sm⟩:=cx
    cases ec
    have J:=J.unwish
    exact hE1 n er H1 s1 H' ea C s' J hC sm ⟨J.call' (ch:=[]) os un hok bare fun b z=>absurd z (by simp),fly,un⟩
 refine wpAny_execs_cons (thn (go _ fun n er H1 s1 H' ea C s' J hC sm a=>zhh J a hstk hfr fun s2 a2=>hX n er H1 s1 H' ea C s2 J hC sm a2) fun f s1 z=>?_)
 cases f with
 | next=>exact wpAny_execs_nil (wpAny_execs_nil z)
 | ret v=>exact z
 | brk=>exact z
 | cont=>exact z
theorem s_try{hits:Nat→Bool}{M:Addr}{b₀:Stmt}{suite:List Stmt}{G:FS}(F:FnOk X.prog X.w X.K X.mg X.base (CX1 X.prog X.w) k f fd ps (spx X.K X.mg fr ct))(D:Df X.K X.mg x st ps f fd)(hr:Room k' X.A)(hg:Gl X x)
   (ha:∀ E,PFA (X.wish E) (e::es) Fs) (hgy:Gl X y) (hh:Hit X.K X.mg hits y M) (hsu:∀ ea,PFSs (X.caught ea) (b₀::suite) G) (hle:k≤k':=by decide) (hdb:(x==("__debug__" : Str))=false:=by decide) (hdy:(y==("__debug__" : Str))=false:=by decide) (hst:starEach (e::es) X.env=(false,eval e X.env)::starEach es X.env:=by rfl) (hpl:(backTo pos (starEach es X.env)).any (·.1)=false:=by rfl)
   (hs:swapsWith (.Call (.Name x p) (e::es) [] pos) none pos'.line X.env=pure false:=by rfl) (hstk:X.stack=X.env::X.outer:=by rfl) (hfr:X.env.frame=some X.env.locals:=by rfl) :
   PFS X (.Try [.Expr (.Call (.Name x p) (e::es) [] pos) pos'] [.ExceptHandler (some (.Name y np)) none (b₀::suite) hpos] [] [] tpos) (sTry ct Fs hits G):=by
 rintro pins s σ H De I ⟨H₀,ρ,oc,⟨O,rb⟩,e0,k⟩
 obtain⟨xs,e1,e2⟩:=z04 e0
 obtain⟨r,q,e3⟩:=z04 e2
 refine zbD F D hr hg ha hle hdb hst hpl hs hstk hfr I rb.all e1 q (fun d er H' sm=>?_) fun n er H1 s1 H' ea C s' J hC sm a=>?_
 · subst er
   cases e3
   exact k σ H' ⟨O,rb.mono sm⟩
 · subst er
   dsimp only at e3
   split at e3
   · rename_i hn
     obtain⟨oc',e4,e5⟩:=z04 e3
     refine ziA J a hgy hh.gl (hh.hit n C hn hC).1 hdy (codeAny_handlers_suite (z8g J a fun s3 a3=>?_))
     refine wpAny_mono (hsu ea pins s3 σ H' De (a3.inv.caught ea) ⟨H₀,ρ,oc',RepB.caught ⟨O,rb.mono sm⟩ ea,e4,?_⟩) (fun f s4 z=>SP.uncaught I.ok z) fun _ _ z=>z.elim
     cases oc' with
     | nx ρ'=>cases e5;exact fun σ' H'' z=>k σ' H'' z.uncaught
     | bk ρ'=>cases e5;exact fun σ' H'' z=>k σ' H'' z.uncaught
     | ct ρ'=>cases e5;exact fun σ' H'' z=>k σ' H'' z.uncaught
     | rt f d=>cases e5;exact k
     | ex m=>cases e5
   · cases e3
end
section
variable {X:Cx}{H₀ H:Hp}{O:Own}{ρ:Rho}{σ:St}{pins:List (Addr×Obj)}{s:Shared}{ea:Addr}
theorem RepO.setC(h:RepO X H₀ H O ρ σ){i:Nat}{c:Cell}{o:Option V}(hc:zig X H (z2A O i) i c o):RepO X H₀ H (z2A O i) (ρ.set i c) (σ.set i o):=by
 have sm:Same (hidL O.adr H) (hidL (z2A O i).adr H):=z2R z0Z
 refine⟨h.ndA.sublist (List.Sublist.map _ (List.filter_sublist)),h.ndI.sublist (List.Sublist.map _ (List.filter_sublist)),fun a ha=>h.own a (z0Z a ha),by rw[List.length_set,List.length_set];exact h.len,h.b0,h.same.trans sm,fun j c' q=>?_⟩
 by_cases e:i=j
 · subst e
   rw[List.getElem?_set,if_pos rfl]at q
   rw[List.getElem?_set,if_pos rfl]
   split at q
   · rename_i hl
     cases q
     rw[if_pos (by rw[←h.len];exact hl)]
     exact⟨_,rfl,hc⟩
   · cases q
 · rw[List.getElem?_set_ne e]at q ⊢
   obtain⟨o',e1,e2⟩:=h.at_ j c' q
   refine⟨o',e1,?_⟩
   cases c' with
   | no=>trivial
   | ex=>obtain⟨a,φ,q,r,z⟩:=e2;exact⟨a,φ,q,sm _ _ r,z⟩
   | sh f d=>obtain⟨v,q,r⟩:=e2;exact⟨v,q,Rp.mono _ sm r⟩
   | ow f ds=>obtain⟨a,vs,q1,q2,q3,r⟩:=e2;exact⟨a,vs,z1P.mpr ⟨q1,fun z=>e z.symm⟩,q2,q3,Rps.mono _ sm r⟩
theorem Inv.trackX{o:HO}(I:Inv X pins σ H s)(hn:H ea=none)(hb:X.s₀.heap.get? ea=none)(hl:ea≠X.env.locals)(hc:∀ x c,X.env.cells.lookup x=some c→c≠ea)(hp:∀ p∈X.pn++pins,p.1≠ea)(ho:ObjOk X.prog X.w (upd H ea o) s.heap ea o):Inv X pins σ (upd H ea o) s:=by
 have ne:∀{b:Addr} {u:HO},H b=some u→upd H ea o b=some u:=fun{b u} e=>by
   rw[z0m fun z=>by rw[z,hn]at e;cases e];exact e
 refine⟨I.ok,I.os,I.bare,⟨I.base.keep,I.base.slot,fun b ob e n hx=>?_,I.base.there,fun b xs e=>ne (I.base.tups b xs e),fun b ob u e=>ne (I.base.frzs b ob u e),fun b ps e=>?_⟩,I.loc,I.cell,?_,fun x c e=>?_,fun p z=>?_,fun b u e=>?_,I.len⟩
 · rw[z0m fun z=>by rw[z,hb]at e;cases e];exact I.base.free b ob e n hx
 · obtain⟨more,z⟩:=I.base.tbls b ps e;exact⟨more,ne z⟩
 · rw[z0m hl.symm];exact I.free
 · rw[z0m (hc x c e)];exact I.freeC x c e
 · obtain⟨p1,p2,p3⟩:=I.pin p z
   exact⟨p1,by rw[z0m (hp p z)];exact p2,p3⟩
 · by_cases hb:b=ea
   · subst hb
     rw[z0A]at e
     cases e
     exact ho
   · rw[z0m hb]at e
     exact(I.hok b u e).stay (fun c v _ q=>q) (fun c r=>ne r) fun c xs r=>ne r
theorem zgf{M:Model}{A:Around}{E:Value→Shared→Prop}{i:Nat}{x:Str}{pos:Pos}{Q:Unit→Shared→Prop}(I:Inv X pins σ H s)(hN:X.N.Nodup)(hi:X.N[i]?=some x)(hk:X.env.scope.names.lookup x=some .local)
   (h:∀ s',Inv X pins (σ.set i none) H s'→Q () s'):wpAny M A (do
     bindName X.env x Value.none
     unbindBehindTheSuite X.env x pos) Q E s:=by
 obtain⟨m,hn,hl⟩:=id I.loc
 have hcls:(X.env.scope.kind == .class||(X.env.scope.kind == .module&&X.env.locals != X.env.globals))=false:=by rw[I.ok.kind];rfl
 have hiσ:i<σ.length:=by rw[I.len];exact(List.getElem?_eq_some_iff.mp hi).1
 have cne:=I.cne
 obtain⟨oL,_,_,hoL,_⟩:=id hn
 refine wpAny_nameGoes_keeps hk hn hcls fun h' v hn' hs=>?_
 have tracked:HOk X.prog X.w H h':=fun b ob e=>by
   refine(I.hok b ob e).stay (fun c w' hc q=>(hs.2 c ?_).trans q) (fun _ q=>q) fun _ _ q=>q
   rintro rfl
   rcases hc with z|hc
   · rw[←z,I.free]at e;cases e
   · rw[I.free]at hc;cases hc
 refine h _ ⟨I.ok,I.os,I.bare,⟨fun b o e n hb hx=>?_,fun b o e n hb hx=>?_,I.base.free,fun b o e hx=>?_,I.base.tups,I.base.frzs,I.base.tbls⟩,⟨_,hn',fun j y v' e1 e2 e3=>?_⟩,fun y c e=>?_,I.free,I.freeC,fun p hp=>?_,tracked,by simpa using I.len⟩
 · exact(hs.2 b (Nat.ne_of_lt (Nat.lt_of_lt_of_le (Heap.lt_size e) I.ok.above))).trans (I.base.keep b o e n hb hx)
 · obtain⟨sl,e1⟩:=I.base.slot b o e n hb hx
   exact⟨sl,(hs.2 b (Nat.ne_of_lt (Nat.lt_of_lt_of_le (Heap.lt_size e) I.ok.above))).trans e1⟩
 · obtain⟨o',e1⟩:=I.base.there b o e hx
   exact⟨o',(hs.2 b (Nat.ne_of_lt (Nat.lt_of_lt_of_le (Heap.lt_size e) I.ok.above))).trans e1⟩
 · by_cases hj:j=i
   · subst hj
     rw[List.getElem?_set_self hiσ]at e2
     cases e2
   · rw[List.getElem?_set_ne (Ne.symm hj)]at e2
     obtain⟨u',r',q⟩:=hl j y v' e1 e2 e3
     refine⟨u',r',?_⟩
     rcases q with⟨k,e⟩|⟨k,c,e,z⟩
     · refine .inl ⟨k,?_⟩
       have:y≠x:=fun e=>hj (z7U hN e1 (e ▸ hi))
       simp[this,e]
     · exact .inr ⟨k,c,e,z.sameBut hs (cne y c e)⟩
 · obtain⟨w',z⟩:=I.cell y c e
   exact⟨w',z.sameBut hs (cne y c e)⟩
 · obtain⟨e,n,ne,nf,d⟩:=I.pin p hp
   exact⟨(hs.2 p.1 ne).trans e,n,ne,nf,d⟩
end
end L2

end
section
set_option Elab.async false
set_option linter.all false
set_option maxRecDepth 100000
namespace L2
open PySem PySem.Spec PySem.W PyProof.Rows
theorem ziC{M:Program}{w:World}{A:Around}{Q:Value→Shared→Prop}{E:Value→Shared→Prop}{s:Shared}{K:PySem.W.Frag}{a C:Addr}{oe:Obj}(kin:K.In s.heap)(h1:s.heap.get? a=some oe)(h2:oe.cls = .ref C)(h3:kitCls K (.ref C) (.type "ValueError")=some true)
  (q:Q (.bool true) s):wpAny (model M w) A (call (.builtin "isinstance") [.ref a,.type "ValueError"]) Q E s:=by
 obtain⟨l1,l2,l3⟩:=kit_cls (M:=model M w) kin h3
 have l4:Looks (model M w) s.heap (isInstance (.ref a) (.type "ValueError")) true:=fun A Q E s' k q=>by
  unfold isInstance
  refine wpAny_bind (wpAny_typeOf_ref (k _ _ h1) ?_)
  rw[h2]
  exact l3 _ _ _ _ k q
 refine call_isinstance_of ?_ (fun z=>nomatch z)
 unfold Builtin.«isinstance.nested»
 refine wpAny_bind (wpAny_typeOf_ref h1 ?_)
 rw[h2]
 refine wpAny_ite ?_
 rw[if_neg (show ¬(Value.ref C==Value.type "ValueError")=true from Bool.false_ne_true)]
 refine wpAny_bind (l1 _ _ _ _ (fun b o e=>e) ?_)
 refine wpAny_ite ?_
 rw[if_pos (by decide)]
 refine wpAny_bind ?_
 refine wpAny_bind (m:=isType (.type "ValueError")) (l2 _ _ _ _ (fun b o e=>e) ?_)
 refine wpAny_ite ?_
 rw[if_neg (by decide)]
 refine wpAny_bind (l4 _ _ _ _ (fun b o e=>e) ?_)
 refine wpAny_ite ?_
 rw[if_pos rfl]
 exact wpAny_pure (wpAny_pure q)
section
variable {X:Cx}{C:Addr}{n:Nat}{e:Expr}{es:List Expr}{pos pos' tpos hpos np:Pos}{Fs:FA}{fr:Bool}{k k':Nat}{f:Addr}{fd:FuncData}{ps:List Str}{x y z:Str}{st:Stmt}{p:Pos}{ct:FX}
theorem zm:CallR X (.builtin "isinstance") (fun xs H Q=>∃ a φ,xs=[.ref a,.ty "ValueError"]∧H a=some (.ext φ)∧(∀ h,φ h→zi2 X.K a h)∧Q (.bl true) H):=by
 rintro pins s σ H xs us Q I r ⟨a,φ,rfl,h1,h2,fin⟩
 obtain⟨u,u',rfl,r1,r2⟩:=vals2 r
 cases r1
 cases r2
 obtain⟨oe,C,q1,q2,q3⟩:=h2 _ (I.hok a _ h1).1
 exact ziC I.kIn q1 q2 q3 ⟨.bl true,H,I,rfl,fin⟩
def fIsx(i:Nat):FE:=fun ρ=>match ρ[i]? with|some .ex=>some (.nw,.bl true)|_=>none
theorem p_isx(i:Nat){p q pe pos:Pos}(hg:Gl X "isinstance")(hm:X.mg "isinstance" = none)(hgT:Gl X "ValueError")(hmT:X.mg "ValueError" = none)(hN:X.N[i]?=some x:=by rfl)(hv:Vis X.env.scope x:=by first|exact Or.inl rfl|exact Or.inr (Or.inl rfl)|exact Or.inr (Or.inr rfl))(hd:(x==("__debug__" : Str))=false:=by decide)
  (hcd:(x==("__classdict__" : Str))=false:=by decide) (hs1:starEach [.Name "ValueError" q] X.env=[(false,eval (.Name "ValueError" q) X.env)]:=by rfl)
  (hs:starEach [.Name x pe,.Name "ValueError" q] X.env=(false,eval (.Name x pe) X.env)::starEach [.Name "ValueError" q] X.env:=by rfl):PF X (.Call (.Name "isinstance" p) [.Name x pe,.Name "ValueError" q] [] pos) (fIsx i) :=
 (z80 zm hg hm boot_isinstance (z2C (z7W hN hv hd hcd) (z2C (pe_ty (T := "ValueError") hgT hmT (by rfl) (by decide) (by decide)) z6w hs1) hs) (by decide) (by decide) hs (by rw[hs1];rfl)).imp fun σ H Q hZ=>by
  obtain⟨ρ,f,d,rs,e0,k⟩:=hZ
  unfold fIsx at e0
  split at e0
  · rename_i q
    cases e0
    obtain⟨o,q1,a,φ,rfl,q2,q3⟩:=rs.at_ i _ q
    exact⟨.ref a,q1,a,φ,rfl,q2,q3,k _ H (Same.refl H) RpF.b_⟩
  · cases e0
theorem zm0{hits:Nat→Bool}{M:Addr}{b₀:Stmt}{suite:List Stmt}{G:FS}(i:Nat)(F:FnOk X.prog X.w X.K X.mg X.base (CX1 X.prog X.w) k f fd ps (spx X.K X.mg fr ct))(D:Df X.K X.mg x st ps f fd)(hr:Room k' X.A)(hg:Gl X x)
    (ha:∀ E,PFA (X.wish E) (e::es) Fs) (hgy:Gl X y) (hh:Hit X.K X.mg hits y M) (hsu:∀ ea,PFSs (X.caught ea) (b₀::suite) G) (hNd:X.N.Nodup) (hN:X.N[i]?=some z:=by rfl) (hk:X.env.scope.names.lookup z=some .local:=by rfl) (hle:k≤k':=by decide) (hdb:(x==("__debug__" : Str))=false:=by decide) (hdy:(y==("__debug__" : Str))=false:=by decide) (hst:starEach (e::es) X.env=(false,eval e X.env)::starEach es X.env:=by rfl) (hpl:(backTo pos (starEach es X.env)).any (·.1)=false:=by rfl)
    (hs:swapsWith (.Call (.Name x p) (e::es) [] pos) none pos'.line X.env=pure false:=by rfl) (hstk:X.stack=X.env::X.outer:=by rfl) (hfr:X.env.frame=some X.env.locals:=by rfl) (hex:X.ex=[]:=by rfl) :
    PFS X (.Try [.Expr (.Call (.Name x p) (e::es) [] pos) pos'] [.ExceptHandler (some (.Name y np)) (some z) (b₀::suite) hpos] [] [] tpos) (zaK ct Fs hits i G):=by
  rintro pins s σ H De I ⟨H₀,ρ,oc,⟨O,rb⟩,e0,k⟩
  obtain⟨xs,e1,e2⟩:=z04 e0
  obtain⟨r,q,e3⟩:=z04 e2
  refine zbD F D hr hg ha hle hdb hst hpl hs hstk hfr I rb.all e1 q (fun d er H' sm=>?_) fun n er H1 s1 H' ea C s' J hC sm a=>?_
  · subst er
    cases e3
    exact k σ H' ⟨O,rb.mono sm⟩
  · subst er
    dsimp only at e3
    split at e3
    · rename_i hn
      obtain⟨oc',e4,e5⟩:=z04 e3
      refine ziA J a hgy hh.gl (hh.hit n C hn hC).1 hdy (codeAny_handlers_suite_as (z8g J a fun s3 a3=>?_))
      obtain⟨m1,m2,oe,vs,T,oT,ts,a0,g1,g2,_⟩:=a3.fly
      have hne:∀{b:Addr} {o:Obj},s1.heap.get? b=some o→ea≠b:=fun{b o} z w=>by rw[←w,m1]at z;cases z
      have It:=(a3.inv.trackX (o := .ext fun h=>∃ oe,h.get? ea=some oe∧oe.cls = .ref C) m2 (by
          cases y:X.s₀.heap.get? ea with
          | none=>rfl
          | some o =>
            obtain⟨o',e'⟩:=J.base.there ea o y (by rw[hex];simp);rw[m1]at e';cases e')
        (by obtain⟨m,⟨o,_,_,ho,_⟩,_⟩:=J.loc;exact hne ho)
        (fun x c e=>by obtain⟨v,o,ho,hd⟩:=J.cell x c e;exact(hne ho).symm)
        (fun p hp=>(hne (J.pin p hp).1).symm)
        ⟨⟨oe,g1,g2⟩,⟨oe,g1⟩,fun h1 h2 ⟨ob,z1,z2⟩ w=>⟨ob,w _ z1,z2⟩⟩).caught ea
      have sm2:Same H' (upd H' ea (.ext fun h=>∃ oe,h.get? ea=some oe∧oe.cls = .ref C)):=z0U m2
      have rb2:=rb.mono (sm.trans sm2)
      refine z7V (X:=X.caught ea) (v := .ref ea) It hNd hN (.inl hk) rfl (fun s4 I4=>?_) (.inr hk)
      refine wpAny_mono (hsu ea pins s4 (σ.set i (some (.ref ea))) _ { nx:=fun σ' H''=>De.nx (σ'.set i none) H'',rt:=De.rt } I4 ⟨H₀,ρ.set i .ex,oc',RepB.caught ⟨_,rb2.setC (c := .ex) ⟨ea,fun h=>∃ oe,h.get? ea=some oe∧oe.cls = .ref C,rfl,?_,fun h z=>?_⟩⟩ ea,e4,?_⟩) (fun f s5 w=>?_) fun _ _ w=>w.elim
      · rw[z0k fun w=>?_,z0A]
        obtain⟨⟨vs,w2⟩,_⟩:=rb.own ea (z0Z ea w)
        rw[sm _ _ w2]at m2
        cases m2
      · obtain⟨oe,z1,z2⟩:=z
        exact⟨oe,C,z1,z2,(hh.hit n C hn hC).2⟩
      · cases oc' with
        | nx ρ' =>
          cases e5
          refine fun σ' H'' w=>?_
          obtain⟨O',w⟩:=w.uncaught
          exact k _ _ ⟨_,w.setC (c := .no) (o:=none) trivial⟩
        | bk ρ'=>cases e5
        | ct ρ'=>cases e5
        | rt f d=>cases e5;exact k
        | ex m=>cases e5
      · cases f with
        | next =>
          obtain⟨σ',H'',I5,w⟩:=w
          exact zgf (I5.uncaught I.ok) hNd hN hk fun s6 I6=>⟨_,_,I6,w⟩
        | ret u =>
          obtain⟨v,σ',H'',I5,rv,w⟩:=w
          exact zgf (I5.uncaught I.ok) hNd hN hk fun s6 I6=>⟨v,_,_,I6,rv,w⟩
        | brk=>obtain⟨σ',H'',I5,w⟩:=w;exact w.elim
        | cont=>obtain⟨σ',H'',I5,w⟩:=w;exact w.elim
    · cases e3
end
end L2

end
section
local macro_rules|`(tactic| omega)=>`(tactic| first|lia|omega +splitDisjunctions)
set_option Elab.async false
set_option linter.all false
set_option maxRecDepth 100000
set_option maxHeartbeats 2000000
namespace L2
open PySem PySem.Spec PyProof.Rows
section
variable {α β:Type}
def insK(p:Int×α):List (Int×α)→List (Int×α)
 | []=>[p]
 | q::qs=>if p.1≤q.1 then p::q::qs else q::insK p qs
def z2o:List (Int×α)→List (Int×α)
 | []=>[]
 | p::ps=>insK p (z2o ps)
theorem z6D(p:Int×α):∀ qs:List (Int×α),(insK p qs).Perm (p::qs)
 | []=>List.Perm.refl _
 | q::qs=>by
  unfold insK
  split
  · exact List.Perm.refl _
  · exact((z6D p qs).cons q).trans (List.Perm.swap p q qs)
theorem z1L:∀ ps:List (Int×α),(z2o ps).Perm ps
 | []=>List.Perm.refl _
 | p::ps=>(z6D p _).trans ((z1L ps).cons p)
abbrev Le(p q:Int×α):Prop:=p.1≤q.1
theorem z7i(p:Int×α):∀ qs:List (Int×α),qs.Pairwise Le→(insK p qs).Pairwise Le
 | [],_=>List.pairwise_singleton _ _
 | q::qs,h=>by
  obtain⟨h1,h2⟩:=List.pairwise_cons.mp h
  unfold insK
  split
  · rename_i hle
    exact List.pairwise_cons.mpr ⟨fun x hx=>by
      rcases List.mem_cons.mp hx with rfl|hx
      · exact hle
      · exact Int.le_trans hle (h1 x hx),h⟩
  · rename_i hle
    refine List.pairwise_cons.mpr ⟨fun x hx=>?_,z7i p qs h2⟩
    rcases List.mem_cons.mp ((z6D p qs).mem_iff.mp hx)with rfl|hx
    · show q.1≤x.1;omega
    · exact h1 x hx
theorem z3O:∀ ps:List (Int×α),(z2o ps).Pairwise Le
 | []=>List.Pairwise.nil
 | p::ps=>z7i p _ (z3O ps)
theorem zbE(g:α→β)(p:Int×α):∀ qs:List (Int×α),insK (p.1,g p.2) (qs.map fun q=>(q.1,g q.2))=(insK p qs).map fun q=>(q.1,g q.2)
 | []=>rfl
 | q::qs=>by
  rw[List.map_cons]
  unfold insK
  by_cases h:p.1≤q.1
  · rw[if_pos h,if_pos h];rfl
  · rw[if_neg h,if_neg h,List.map_cons,zbE g p qs]
theorem z4W(g:α→β):∀ ps:List (Int×α),z2o (ps.map fun q=>(q.1,g q.2))=(z2o ps).map fun q=>(q.1,g q.2)
 | []=>rfl
 | p::ps=>by rw[List.map_cons,z2o,z2o,z4W g ps,zbE g p]
theorem z8h:∀{xs ys:List (Int×α)},xs.Perm ys→xs.Pairwise Le→ys.Pairwise Le→(xs.map (·.1)).Nodup→xs=ys
 | [],ys,p,_,_,_=>(List.Perm.nil_eq p)
 | x::xs,[],p,_,_,_=>by have:=p.length_eq;simp at this
 | x::xs,y::ys,p,h1,h2,nd=>by
  obtain⟨a1,a2⟩:=List.pairwise_cons.mp h1
  obtain⟨b1,b2⟩:=List.pairwise_cons.mp h2
  have nd':(x.1::xs.map (·.1)).Nodup:=nd
  obtain⟨n1,n2⟩:=List.nodup_cons.mp nd'
  have hx:x∈y::ys:=p.mem_iff.mp List.mem_cons_self
  have hy:y∈x::xs:=p.mem_iff.mpr List.mem_cons_self
  have exy:x=y:=by
   rcases List.mem_cons.mp hx with e|hx
   · exact e
   · rcases List.mem_cons.mp hy with e|hy
     · exact e.symm
     · have l1:x.1≤y.1:=a1 y hy
       have l2:y.1≤x.1:=b1 x hx
       have e:x.1=y.1:=by omega
       exact absurd (List.mem_map.mpr ⟨y,hy,e.symm⟩) n1
  subst exy
  rw[z8h (p.cons_inv) a2 b2 n2]
end
section
variable {X:Cx}{pins:List (Addr×Obj)}{σ:St}{H:Hp}{s:Shared}
theorem Inv.track{D:Addr}{its:List Value}{ys:List V}{n:Nat}(I:Inv X pins σ H s)(hD:H D=none)(f:FpOk X pins H D)(hn:X.s₀.heap.objs.size≤D)(ho:s.heap.get? D=some { cls := .type "list",data := .seq its.toArray n })(hv:Vals ys its)(hz:ys.length≤sizeLine):
   Inv X pins σ (upd H D (.lst ys)) s:=by
 obtain⟨f0,f1,f2,f3,f4,f5⟩:=f
 have ne:∀ b o,X.s₀.heap.get? b=some o→b≠D:=fun b o e z=>by
   subst z
   exact absurd (Nat.lt_of_lt_of_le (Heap.lt_size e) hn) (Nat.lt_irrefl _)
 have nH:∀ b o,H b=some o→b≠D:=fun b o e z=>by rw[z,hD]at e;cases e
 refine⟨I.ok,I.os,I.bare,⟨I.base.keep,I.base.slot,fun b o e q hx=>?_,I.base.there,fun b xs e=>?_,fun b o u e=>?_,fun b ps e=>?_⟩,I.loc,I.cell,?_,fun x c e=>?_,fun p hp=>?_,fun a o e=>?_,I.len⟩
 · rw[z0m (ne b o e)];exact I.base.free b o e q hx
 · have:=I.base.tups b xs e
   rw[z0m (nH b _ this)];exact this
 · have:=I.base.frzs b o u e
   rw[z0m (nH b _ this)];exact this
 · obtain⟨more,this⟩:=I.base.tbls b ps e
   exact⟨more,by rw[z0m (nH b _ this)];exact this⟩
 · rw[z0m (Ne.symm f1)];exact I.free
 · rw[z0m (f4 x c e)];exact I.freeC x c e
 · obtain⟨q1,q2,q3⟩:=I.pin p hp
   exact⟨q1,by rw[z0m (f5 p hp)];exact q2,q3⟩
 · by_cases z:a=D
   · subst z
     rw[z0A]at e
     cases e
     exact⟨hz,its,n,hv,ho⟩
   · rw[z0m z]at e
     refine(I.hok a o e).stay (fun b u _ q=>q) (fun b q=>?_) (fun b xs q=>?_)
     · rw[z0m (nH b _ q)];exact q
     · rw[z0m (nH b _ q)];exact q
theorem ns_inj{h:Heap}{a:Addr}{m m':Str→Option Value}(p:h.Ns a m)(q:h.Ns a m'):m=m':=by
 obtain⟨o,es,ep,e,d,_,f⟩:=p
 obtain⟨o',es',ep',e',d',_,f'⟩:=q
 rw[e]at e'
 cases e'
 rw[d]at d'
 cases d'
 funext x
 rw[←f x,←f' x]
def z8i(base:Heap)(L a b:Addr)(h:Heap):List (Addr×Obj):=(List.range h.objs.size).filterMap fun c=>match h.get? c with
 | some o=>if base.get? c=none∧c≠L∧c≠a∧c≠b then some (c,o) else none
 | none=>none
theorem zcK{base:Heap}{L a b c:Addr}{h:Heap}{o:Obj}(e:h.get? c=some o)(h1:base.get? c=none)(h2:c≠L)(h3:c≠a)(h4:c≠b):(c,o)∈z8i base L a b h :=
 List.mem_filterMap.mpr ⟨c,List.mem_range.mpr (Heap.lt_size e),by rw[e];simp[h1,h2,h3,h4]⟩
theorem z6E{base:Heap}{L a b:Addr}{h:Heap}{p:Addr×Obj}(hp:p∈z8i base L a b h):h.get? p.1=some p.2∧base.get? p.1=none∧p.1≠L∧p.1≠a∧p.1≠b:=by
 obtain⟨c,hc,e⟩:=List.mem_filterMap.mp hp
 cases q:h.get? c with
 | none=>rw[q]at e;cases e
 | some o =>
  rw[q]at e
  dsimp only at e
  split at e
  · rename_i hh;cases e;exact⟨q,hh⟩
  · cases e
theorem Inv.turnedN{h':Heap}{t':Nat}{ch:List Addr}{m:Str→Option Value}(I:Inv X pins σ H s)(hm:s.heap.Ns X.env.locals m)(hm':h'.Ns X.env.locals m)(hl:∃ o,h'.get? X.env.locals=some o)(k:∀ b o,b ∉ ch→b≠X.env.locals→s.heap.get? b=some o→h'.get? b=some o)(hc:∀ b∈ch,FpOk X pins H b):
   Inv X pins σ H { s with heap:=h',toks:=t' }:=by
 have nit:∀ b u,H b=some u→b ∉ ch:=fun b u e z=>by rw[(hc b z).1]at e;cases e
 have nL:∀ b u,H b=some u→b≠X.env.locals:=fun b u e z=>by rw[z,I.free]at e;cases e
 refine I.step (g':=s.gens) (d':=s.drawn) (ch:=ch) (fun b hb=>?_) (fun b o nl _ hn e _=>k b o hn nl e) (fun b o nl _ hn e _=>⟨o.slots,k b o hn nl e⟩) (fun _ _ _ _ n=>n)
   (fun b o hn e=>?_) (fun _ _ e=>e) (fun _ _ _ e=>e) (fun b ps e=>⟨#[],by rw[e];simp⟩) (fun m' hm2=>by rw[←ns_inj hm hm2];exact hm') (fun b u e=>?_) I.bare
 · obtain⟨f0,f1,f2,f3,f4,f5⟩:=hc b hb
   exact⟨f3,f1,f4,f5⟩
 · by_cases z:b=X.env.locals
   · subst z;exact hl
   · exact⟨o,k b o hn z e⟩
 · refine(I.hok b u e).stay (fun c v hcc q=>k c v ?_ ?_ q) (fun _ q=>q) fun _ _ q=>q
   · rcases hcc with z|z
     · rw[z];exact nit b u e
     · exact nit c _ z
   · rcases hcc with z|z
     · rw[z];exact nL b u e
     · exact nL c _ z
end
def z2c(c:FC):List Dt→Option (List Int)
 | []=>some []
 | d::ds=>(c [d]).bind fun r=>(intD r).bind fun i=>(z2c c ds).map (i::·)
theorem z5s{c:FC}:∀{ds:List Dt} {ks:List Int},z2c c ds=some ks→ks.length=ds.length
 | [],ks,h=>by cases h;rfl
 | d::ds,ks,h=>by
  obtain⟨r,_,h⟩:=z04 h
  obtain⟨i,_,h⟩:=z04 h
  cases q:z2c c ds with
  | none=>rw[q]at h;cases h
  | some js=>rw[q]at h;cases h;rw[List.length_cons,List.length_cons,z5s q]
theorem z8j{c:FC}:∀{ds:List Dt} {ks:List Int} {j:Nat} {d:Dt} {k:Int},z2c c ds=some ks→ds[j]?=some d→ks[j]?=some k→c [d]=some (.int k)
 | [],ks,j,d,k,h,e,_=>by simp at e
 | a::ds,ks,j,d,k,h,e,e'=>by
  obtain⟨r,h1,h⟩:=z04 h
  obtain⟨i,h2,h⟩:=z04 h
  cases q:z2c c ds with
  | none=>rw[q]at h;cases h
  | some js =>
   rw[q]at h
   cases h
   cases j with
   | zero =>
    simp at e e'
    subst e;subst e'
    rw[h1,z4U h2]
   | succ j=>exact z8j q (by simpa using e) (by simpa using e')
section
variable {X:Cx}{pins:List (Addr×Obj)}{σ:St}{H:Hp}{s:Shared}{k:Nat}{f:Addr}{fd:FuncData}{p:Str}{fr:Bool}{ct:FC}{l:Addr}{vs:List V}{ds:List Dt}{ks:List Int}{Q:VK}
theorem zm1{H1:Hp}{s1:Shared}{d:Dt}{v:V}{u:Value}{n:Int}(F:FnOk X.prog X.w X.K X.mg X.base CX0 k f fd [p] (spc X.K fr ct))(hr:Room (k+2) X.A)(hb:Binds X.K fd [p] [])(I:Inv X pins σ H1 s1)(r:RelV v u)(rd:Rp X.K emp d H1 v)(hc:ct [d]=some (.int n))
  {P:Value→Shared→Prop} {E:Value→Shared→Prop} (q:∀ t H2 s2,Inv X pins σ H2 s2→Same H1 H2→(∀ b o,s1.heap.get? b=some o→H1 b=none→b ∉ frs X.stack→s2.heap.get? b=some o∧H2 b=none)→P (.int n t) s2):wpAny (model X.prog X.w) X.A.in1.in1 (call (.ref f) [u]) P E s1:=by
 have hr2:Room k X.A.in1.in1:=(show Room (k+1+1) X.A from hr).in1.in1
 refine wpAny_call (codeAny_mono (F.run X.A.in1.in1 X.stack s1 H1 ⟨[u],[]⟩ [u] [v] (fun w H2=>w = .int n∧Same H1 H2) E0 hr2 I.env0.in1.in1 (hb s1 [u] I.kIn rfl) (.cons r .nil) ⟨[d],_,Rps.one rd,hc,fun w H2 sm rw'=>⟨by cases fr<;>exact Rp.int_.mp rw',sm⟩⟩) fun res s2 hres=>?_)
 cases res with
 | error e=>exact hres.elim
 | ok fl =>
  cases fl with
  | ret w =>
   obtain⟨x,H2,os,bare,un,hok,rw',ex,sm⟩:=hres
   subst ex
   obtain⟨t,rfl⟩:=rw'
   exact q t H2 s2 (I.call' (ch:=[]) os un hok bare fun b hb=>absurd hb (by simp)) sm fun b o e hn hf=>⟨un.keep b o e hn hf (by simp),un.free b o e hn (by simp)⟩
  | next=>exact hres.elim
  | brk=>exact hres.elim
  | cont=>exact hres.elim
theorem ziD(I:Inv X pins σ H s){b:Addr}(hb:b∈frs X.stack):b<s.heap.objs.size:=by
 obtain⟨_,o,e,_⟩:=I.stack.mem hb
 exact Heap.lt_size e
theorem zhi{D kS:Addr}{e1:Nat}{its:List Value}{P:PySem.Fin→Shared→Prop}{E:Value→Shared→Prop}(F:FnOk X.prog X.w X.K X.mg X.base CX0 k f fd [p] (spc X.K fr ct))(hr:Room (k+2) X.A)(hb:Binds X.K fd [p] [])(I:Inv X pins σ H s)(rv:Vals vs its)(rs:Rps X.K emp ds H vs)(hk:z2c ct ds=some ks)(h64:ds.length<64)
  (hD:s.heap.get? D=some (seqObj "list" #[] e1)) (hS:s.heap.get? kS=some (seqObj "list" #[] 0)) (nDS:kS≠D) (fD:FpOk X pins H D) (fS:FpOk X pins H kS) (gD:D ∉ frs X.stack) (gS:kS ∉ frs X.stack) (sD:X.s₀.heap.objs.size≤D) (sS:X.s₀.heap.objs.size≤kS)
  (q:∀ H2 s2 (out:List Value) c,Inv X pins σ H2 s2→Same H H2→H2 D=none→s2.heap.get? D=some (seqObj "list" out.toArray c)→KskOut false ks its out→P (.done (.ret .none)) s2) :
  wpAny (model X.prog X.w) X.A.in1.in1 (ksk_rest D (.ref f) false its.toArray e1 (.ref kS)) P E s:=by
 have hlen:=z5s hk
 have l1:=rs.length
 have l2:=rv.length
 unfold ksk_rest
 refine wpAny_bind (wpAny_rule ?_)
 rw[List.forIn_toArray]
 refine wpAny_bind (ksk_fold (fun i s'=>∃ H1 kA e,Inv X pins σ H1 s'∧Same H H1∧H1 D=none∧H1 kS=none∧s'.heap.get? D=some (seqObj "list" #[] e1)∧s'.heap.get? kS=some (seqObj "list" kA e)∧IntsAre kA.toList (ks.take i)) its 0 s
  ⟨H,#[],0,I,Same.refl H,fD.1,fS.1,hD,hS,by simpa using IntsAre.nil⟩ ?step ?done)
 case step =>
  rintro j u s' hu ⟨H1,kA,e,I1,sm,d1,d2,o1,o2,hka⟩
  simp only[Nat.zero_add]at hka ⊢
  have hj:j<its.length:=(List.getElem?_eq_some_iff.mp hu).1
  obtain⟨n,hn⟩:∃ n,ks[j]?=some n:=⟨_,List.getElem?_eq_getElem (by omega)⟩
  obtain⟨d,hd⟩:∃ d,ds[j]?=some d:=⟨_,List.getElem?_eq_getElem (by omega)⟩
  obtain⟨v,hv,rd⟩:=rs.get hd
  obtain⟨u',hu',ru⟩:=rv.get hv
  rw[hu]at hu'
  cases hu'
  have hz:kA.size≤its.length:=by
    have h1:=hka.length
    rw[Array.length_toList,List.length_take]at h1
    omega
  refine wpAny_bind (wpAny_attempt (zm1 F hr hb I1 ru (Rp.mono _ sm rd) (z8j hk hd hn) fun t H2 s2 I2 sm2 kk=>?_))
  obtain⟨p1,p2⟩:=kk D _ o1 d1 gD
  obtain⟨p3,p4⟩:=kk kS _ o2 d2 gS
  try dsimp only
  have sb:=Heap.SameBut.update s2.heap kS (Obj.mapSeq (·.push (.int n t)))
  have g2:=get?_update_seq p3 (·.push (.int n t))
  have ek:ks.take (j+1)=ks.take j++[n]:=by rw[List.take_add_one,hn];simp
  have ea:(kA.push (Value.int n t)).toList=kA.toList++[Value.int n t]:=by simp
  refine wpAny_bind (listUpdate_at p3 rfl ?_ (by rw[sizeLine_eq];omega) (Nat.le_trans (Nat.le_of_eq (Array.size_push ..)) (by rw[sizeLine_eq];omega)))
  have fS2:FpOk X pins H2 kS:=⟨p4,fS.2⟩
  refine wpAny_pure ⟨rfl,H2,kA.push (.int n t),_,I2.turnedL (t':=s2.toks) (ch:=[kS]) (fun b o hb e=>(sb.2 b (by simpa using hb)).trans e) (fun b hb=>by rw[List.mem_singleton.mp hb];exact fS2),sm.trans sm2,p2,p4,(sb.2 D (Ne.symm nDS)).trans p1,g2,by rw[ea,ek];exact ksk_snoc hka⟩
 case done =>
  rintro s' ⟨H1,kA,e,I1,sm,d1,d2,o1,o2,hka⟩
  have hk':IntsAre kA.toList ks:=by
    rw[List.take_of_length_le (by omega)]at hka
    exact hka
  try dsimp only
  refine wpAny_bind (listItems_at o2 rfl ?_)
  obtain⟨m,hfr⟩:=I1.fr
  have fD1:FpOk X pins H1 D:=⟨d1,fD.2⟩
  have fS1:FpOk X pins H1 kS:=⟨d2,fS.2⟩
  have bD:X.base.get? D=none:=Heap.get?_none_of_le (Nat.le_trans I.ok.bsz sD)
  have bS:X.base.get? kS=none:=Heap.get?_none_of_le (Nat.le_trans I.ok.bsz sS)
  refine ksk_end_ (e:=e) (news:=z8i X.base X.env.locals kS D s'.heap) hfr (fun z hz=>?_) nDS (fun z hz=>(z6E hz).2.2.2.1) (fun z hz=>(z6E hz).2.2.2.2) hk' (by omega) (by omega) fun h' tk out c F' N' ko=>?_
  · rcases List.mem_append.mp hz with hz|hz
    · obtain⟨z1,z2,z3,_⟩:=z6E hz
      exact⟨z1,z3,z2⟩
    · rcases List.mem_cons.mp hz with rfl|hz
      · exact⟨o2,fS1.2.1,bS⟩
      · rw[List.mem_singleton.mp hz]
        exact⟨o1,fD1.2.1,bD⟩
  · have nd:=N' (D,seqObj "list" out c) List.mem_cons_self
    refine q H1 _ out.toList c (I1.turnedN (t':=tk) (ch:=[kS,D]) hfr.ns F'.ns (by obtain⟨o,_,_,e,_⟩:=F'.ns;exact⟨o,e⟩) (fun b o hb hl eb=>?_) (fun b hb=>?_)) sm d1 nd.1 ko
    · have hb2:b≠kS∧b≠D:=by simpa using hb
      cases z:X.base.get? b with
      | some o' =>
        have e2:=I1.bk b o' z
        rw[eb]at e2
        cases e2
        exact F'.keep b _ z
      | none=>exact(N' _ (List.mem_cons_of_mem _ (zcK eb z hl hb2.1 hb2.2))).1
    · rcases List.mem_cons.mp hb with rfl|hb
      · exact fS1
      · rw[List.mem_singleton.mp hb];exact fD1
theorem zhj{D:Addr}{n0:Nat}{its:List Value}{P:PySem.Fin→Shared→Prop}{E:Value→Shared→Prop}(F:FnOk X.prog X.w X.K X.mg X.base CX0 k f fd [p] (spc X.K fr ct))(hr:Room (k+2) X.A)(hb:Binds X.K fd [p] [])(I:Inv X pins σ H s)(rv:Vals vs its)(rs:Rps X.K emp ds H vs)(hk:z2c ct ds=some ks)(h64:ds.length<64)
  (hD:s.heap.get? D=some (seqObj "list" its.toArray n0)) (fD:FpOk X pins H D) (gD:D ∉ frs X.stack) (sD:X.s₀.heap.objs.size≤D)
  (q:∀ H2 s2 (out:List Value) c,Inv X pins σ H2 s2→Same H H2→H2 D=none→s2.heap.get? D=some (seqObj "list" out.toArray c)→KskOut false ks its out→P (.done (.ret .none)) s2) :
  wpAny (model X.prog X.w) X.A.in1.in1 (ksk_tree D (.ref f) false) P E s:=by
 have l1:=rs.length
 have l2:=rv.length
 have hlt:D<s.heap.objs.size:=Heap.lt_size hD
 unfold ksk_tree
 refine wpAny_bind (listItems_at hD rfl ?_)
 have sb:=Heap.SameBut.update s.heap D (Obj.mapSeq fun _=>(#[]:Array Value))
 have o1:=get?_update_seq hD fun _=>(#[]:Array Value)
 refine wpAny_bind (listUpdate_at hD rfl ?_ (by rw[List.size_toArray,sizeLine_eq];omega) (Nat.zero_le _))
 have I1:Inv X pins σ H { s with heap:=s.heap.update D (Obj.mapSeq fun _=>(#[]:Array Value)) }:=I.turnedL (t':=s.toks) (ch:=[D]) (fun b o hb e=>(sb.2 b (by simpa using hb)).trans e) (fun b hb=>by rw[List.mem_singleton.mp hb];exact fD)
 refine wpAny_bind (seqEpoch_at o1 rfl ?_)
 refine wpAny_bind (wpAny_newTuple ?_ (by show its.length≤_;rw[sizeLine_eq];omega))
 refine wpAny_bind (wpAny_newList ?_ (Nat.zero_le _))
 refine wpAny_holding ?_
 generalize hg:s.heap.update D (Obj.mapSeq fun _=>(#[]:Array Value))=g at *
 have zg:g.objs.size=s.heap.objs.size:=sb.1
 have I2:Inv X pins σ H { s with heap:=(g.push (seqObj "tuple" its.toArray 0)).push (seqObj "list" #[] 0) }:=I1.kept (t':=s.toks) fun b o e=>Heap.get?_push_of_some _ (Heap.get?_push_of_some _ e)
 have zk:(g.push (seqObj "tuple" its.toArray 0)).objs.size=g.objs.size+1:=size_push' _ _
 have ge:s.heap.objs.size≤(g.push (seqObj "tuple" its.toArray 0)).objs.size:=by omega
 refine zhi (s:={ s with heap:=(g.push (seqObj "tuple" its.toArray 0)).push (seqObj "list" #[] 0) }) (kS:=(g.push (seqObj "tuple" its.toArray 0)).objs.size) F hr hb I2 rv rs hk h64 (Heap.get?_push_of_some _ (Heap.get?_push_of_some _ o1)) (Heap.get?_push_size _ rfl) (Nat.ne_of_gt (Nat.lt_of_lt_of_le hlt ge)) fD (I.fpOk ge (I.hok.fresh ge)) gD (fun z=>?_) sD (Nat.le_trans I.sz ge) q
 exact absurd (Nat.lt_of_lt_of_le (ziD I z) ge) (Nat.lt_irrefl _)
theorem zcL(F:FnOk X.prog X.w X.K X.mg X.base CX0 k f fd [p] (spc X.K fr ct))(hr:Room (k+2) X.A)(hb:Binds X.K fd [p] [])(I:Inv X pins σ H s)(hl:H l=some (.lst vs))(rs:Rps X.K emp ds H vs)(hk:z2c ct ds=some ks)(h64:ds.length<64)(nd:ks.Nodup)
  (q:∀ D H2 ys,Same H H2→H2 D=none→Rps X.K emp ((z2o (ks.zip ds)).map (·.2)) H2 ys→Q (.ref D) (upd H2 D (.lst ys))) :
  wpAny (model X.prog X.w) X.A (call (.builtin "sorted") [.ref l] [(Str.ofString "key",.ref f)]) (EP X pins σ Q) X.xe s:=by
 obtain⟨its,rv,pl,hz⟩:=I.list (SqL.of (K:=X.K) hl)
 have l1:=rs.length
 have l2:=rv.length
 have l3:=z5s hk
 refine call_function_entry_kw kind_sorted plain_sorted entry_sorted (ksk_s1 _ _) ?_
 unfold Builtin.«sorted»
 refine wpAny_bind (m:=checkCount "sorted" 1 1 _) (wpAny_pure ?_)
 refine wpAny_bind (collect_list pl.isList ?_ (by rw[sizeLine_eq];omega))
 refine wpAny_bind (wpAny_newList ?_ (by rw[sizeLine_eq];omega))
 generalize hg:(s.heap.push (seqObj "list" #[] 0)).update s.heap.objs.size (Obj.mapSeq (·++its.toArray))=g
 have zg:g.objs.size=s.heap.objs.size+1:=by rw[←hg,Heap.size_update,size_push']
 have kg:∀ b o,s.heap.get? b=some o→g.get? b=some o:=fun b o e=>by
  have hlt:=Heap.lt_size e
  rw[←hg,Heap.get?_update_ne _ _ _ _ (Nat.ne_of_lt hlt),Heap.get?_push_ne _ _ _ (Nat.ne_of_lt hlt)]
  exact e
 have I1:Inv X pins σ H { s with heap:=g.push (seqObj "list" its.toArray 0) }:=I.kept (t':=s.toks) fun b o e=>Heap.get?_push_of_some _ (kg b o e)
 have oD:(g.push (seqObj "list" its.toArray 0)).get? g.objs.size=some (seqObj "list" its.toArray 0):=Heap.get?_push_size _ rfl
 have ge:s.heap.objs.size≤g.objs.size:=by omega
 refine wpAny_bind (wpAny_holding (wpAny_call_entry_kw slot_list_sort ⟨_,oD,rfl⟩ entry_list_sort ?body (ksk_l1 _ _)))
 case body =>
  show wpAny (model X.prog X.w) X.A.in1.in1 (Builtin.«list.sort» ⟨[.ref g.objs.size],[(Str.ofString "key",.ref f)]⟩) _ _ _
  rw[ksk_t1]
  refine zhj (s:={ s with heap:=g.push (seqObj "list" its.toArray 0) }) F hr hb I1 rv rs hk h64 oD (I.fpOk ge (I.hok.fresh ge)) (fun z=>absurd (Nat.lt_of_lt_of_le (ziD I z) ge) (Nat.lt_irrefl _)) (Nat.le_trans I.sz ge) fun H2 s2 out c I2 sm d2 o2 ⟨ps,pp,eo,so⟩=>⟨_,rfl,?_⟩
  refine wpAny_pure ⟨_,rfl,?_⟩
  have key:∃ ts:List (Int×(Dt×(V×Value))),(ts.map fun t=>(t.1,t.2.2.2))=ps∧(ts.map fun t=>(t.1,t.2.1))=z2o (ks.zip ds)∧∀ t∈ts,Rp X.K emp t.2.1 H t.2.2.1∧RelV t.2.2.1 t.2.2.2:=by
   refine⟨z2o (ks.zip (ds.zip (vs.zip its))),?_,?_,fun t ht=>?_⟩
   · have e1:ks.zip its=(ks.zip (ds.zip (vs.zip its))).map fun t=>(t.1,t.2.2.2):=by
      apply List.ext_getElem
      · simp;omega
      · intro i h1 h2;simp
     rw[←z4W (fun z:Dt×(V×Value)=>z.2.2),←e1]
     refine z8h ((z1L _).trans pp.symm) (z3O _) (so.imp fun h=>by simpa using h) ?_
     have:((z2o (ks.zip its)).map (·.1)).Perm ks:=((z1L (ks.zip its)).map _).trans (by rw[List.map_fst_zip (by omega)])
     exact this.nodup_iff.mpr nd
   · have e1:ks.zip ds=(ks.zip (ds.zip (vs.zip its))).map fun t=>(t.1,t.2.1):=by
      apply List.ext_getElem
      · simp;omega
      · intro i h1 h2;simp
     rw[←z4W (fun z:Dt×(V×Value)=>z.1),←e1]
   · have ht:=(z1L _).mem_iff.mp ht
     obtain⟨i,hi,e⟩:=List.getElem_of_mem ht
     simp at hi
     subst e
     simp only[List.getElem_zip]
     obtain⟨v,e1,r1⟩:=rs.get (i:=i) (List.getElem?_eq_getElem (by omega))
     obtain⟨u,e2,r2⟩:=rv.get e1
     rw[List.getElem?_eq_getElem (by omega)]at e1 e2
     cases e1;cases e2
     exact⟨r1,r2⟩
  obtain⟨ts,k1,k2,k3⟩:=key
  have ev:Vals (ts.map fun t=>t.2.2.1) out:=by
   rw[eo,←k1,List.map_map]
   clear k1 k2 eo
   induction ts with
   | nil=>exact .nil
   | cons t ts ih=>exact .cons (k3 t List.mem_cons_self).2 (ih fun z hz=>k3 z (List.mem_cons_of_mem _ hz))
  have er:Rps X.K emp ((z2o (ks.zip ds)).map (·.2)) H (ts.map fun t=>t.2.2.1):=by
   rw[←k2,List.map_map]
   clear k1 k2 eo ev
   induction ts with
   | nil=>exact Rps.nil_.mpr rfl
   | cons t ts ih=>exact Rps.cons_.mpr ⟨_,_,rfl,(k3 t List.mem_cons_self).1,ih fun z hz=>k3 z (List.mem_cons_of_mem _ hz)⟩
  have lt:(ts.map fun t=>t.2.2.1).length≤sizeLine:=by
   rw[List.length_map,←List.length_map (f:=fun t:Int×(Dt×(V×Value))=>(t.1,t.2.1)),k2,(z1L _).length_eq,List.length_zip,sizeLine_eq];omega
  exact⟨.ref g.objs.size,_,I2.track d2 ⟨d2,(I.fpOk ge (I.hok.fresh (H:=H) ge)).2⟩ (Nat.le_trans I.sz ge) (by simpa using o2) ev lt,rfl,q _ _ _ sm d2 (Rps.mono _ sm er)⟩
end
section
variable {X:Cx}{a:Expr}{Fa:FE}{k:Nat}{f:Addr}{fd:FuncData}{prm:Str}{fr:Bool}{ct:FC}{x:Str}{p pos kp kpos:Pos}
def z5t(c:FC)(F:FE):FE:=fun ρ=>(F ρ).bind fun x=>(lstD x.2).bind fun ds=>(z2c c ds).bind fun ks=>if ds.length<64∧ks.Nodup then some (newL ((z2o (ks.zip ds)).map (·.2))) else none
theorem zm2(F:FnOk X.prog X.w X.K X.mg X.base CX0 k f fd [prm] (spc X.K fr ct))(hr:Room (k+2) X.A)(hg:Gl X "sorted")(hm:X.mg "sorted" = none)(hf:X.mg x=some (.ref f))(hgf:Gl X x)(hb:Binds X.K fd [prm] [])(ha:PF X a Fa)(hd:(x==("__debug__" : Str))=false:=by decide)(hs:starEach [a] X.env=[(false,eval a X.env)]:=by rfl):
   PF X (.Call (.Name "sorted" p) [a] [⟨some "key",.Name x kp,kpos⟩] pos) (z5t ct Fa):=by
 intro pins s σ H Q I ⟨ρ,fz,dz,rs,e0,kk⟩
 obtain⟨⟨fa,da⟩,ea,e1⟩:=z04 e0
 obtain⟨ds,ed,e2⟩:=z04 e1
 obtain⟨ks,ek,e3⟩:=z04 e2
 split at e3
 · rename_i hh
   cases e3
   have hA:PA X [a] (upAs X (z02 Fa fNil)):=z03 ha z07 hs
   refine wpAny_Call_Name_kw (z3E I hg hm (by decide +kernel:bootBuiltins "sorted" = some (.builtin "sorted")) ?_)
   refine PyProof.Rows.callWith_kw (thn (hA pos pins s σ H (fun vs H1=>Same H H1∧∃ va,vs=[va]∧Rp X.K emp da H1 va) I ⟨ρ,[(fa,da)],rs,by simp[z02,fNil,ea],fun vs H1 s1 ⟨va,r1,ee1,q1,q3⟩=>⟨s1,va,by rw[ee1,show r1=[]from q3],q1.sh⟩⟩) fun us s1 ⟨vs,H1,I1,rv,s1H,va,ev,ra⟩=>?_) (by rw[hs];rfl) (by rw[hs];rfl) rfl rfl
   subst ev
   obtain⟨ua,rfl,rua⟩:=rv.one
   have hkw:=zfW (X:=X) (nm:=some "key") (kpos:=kpos) (zfU (v:=V.ref f) (pos:=kp) hgf hf rfl hd) zhR
   refine thn (hkw pos pins s1 σ H1 (fun zs H2=>zs=[.ref f]∧H2=H1) I1 ⟨rfl,rfl⟩) ?_
   rintro kvs s2 ⟨zs,H2,I2,rz,ez,eH⟩
   subst ez;subst eH
   obtain⟨uk,rfl,ruk⟩:=rz.one
   cases ruk
   have ex:∃ l vs,va = .ref l∧H2 l=some (.lst vs)∧Rps X.K emp ds H2 vs:=by
    cases da<;>first|cases ed|skip
    obtain⟨l,vs,e,_,h1,h2⟩:=ra.items
    exact⟨l,vs,e,h1,h2⟩
   obtain⟨l,vs,rfl,h1,h2⟩:=ex
   cases rua
   refine zcL F hr hb I2 h1 h2 ek hh.1 hh.2 fun D H3 ys sm d3 r3=>kk _ _ (s1H.trans (sm.trans (z0U d3))) ?_
   exact(z5Q d3 r3).early (s1H.trans sm)
 · cases e3
end
end L2

end
section
set_option linter.all false
set_option maxRecDepth 100000
namespace L2
open PySem
abbrev L(ns:List Int):Dt := .lst (ns.map .int)
abbrev T(ns:List Int):Dt := .tup (ns.map .int)
theorem z0i{α β:Type}{a:α}{f:α→Option β}:(some a).bind f=f a:=rfl
theorem zgg{α:Type}{xs:List α}{i:Int}(h0:0≤i):atI xs i=xs[i.toNat]?:=by
 unfold atI ixN
 rw[if_pos h0]
 by_cases h:i<xs.length
 · rw[if_pos h];rfl
 · rw[if_neg h,List.getElem?_eq_none (by omega)];rfl
theorem atI_c0{α:Type}{x:α}{xs:List α}:atI (x::xs) 0=some x:=z37 (j:=0) rfl
theorem atI_c1{α:Type}{x y:α}{xs:List α}:atI (x::y::xs) 1=some y:=z37 (j:=1) rfl
theorem atI_c2{α:Type}{x y z:α}{xs:List α}:atI (x::y::z::xs) 2=some z:=z37 (j:=2) rfl
theorem z1M:∀ ns:List Int,z1f (ns.map Dt.int)=true
 | []=>rfl
 | n::ns=>by rw[List.map_cons,z1f,z1M ns];rfl
theorem z9H:∀(k:Nat) (ns:List Int),oksN k (ns.map Dt.int)=true
 | k,[]=>by cases k<;>rfl
 | k,n::ns=>by rw[List.map_cons,oksN,z9H k ns];cases k<;>rfl
theorem zbF:∀ ns:List Int,pys (ns.map Dt.int)=ns.map PyData.int
 | []=>rfl
 | n::ns=>by rw[List.map_cons,pys,zbF ns];rfl
theorem z7j:∀ ns ms:List Int,PyData.eqvAll (ns.map PyData.int) (ms.map PyData.int)=decide (ns=ms)
 | [],[]=>by simp[PyData.eqvAll]
 | [],m::ms=>by simp[PyData.eqvAll]
 | n::ns,[]=>by simp[PyData.eqvAll]
 | n::ns,m::ms=>by
  rw[List.map_cons,List.map_cons,PyData.eqvAll,z7j ns ms,PyData.eqv,Bool.eq_iff_iff]
  simp
theorem zm3(ns:List Int):(Dt.scr ns).okN 8=true:=by simp[Dt.okN]
theorem zbG(ns ms:List Int):opEq (.scr ns) (L ms)=some (.nw,.bl (decide (ns=ms))):=by
 unfold opEq
 rw[zm3]
 unfold L
 rw[Dt.okN,z9H]
 unfold eqD
 rw[Dt.py,Dt.py,zbF,PyData.eqv,z7j]
 rfl
theorem z0v(i j:Int):opEq (.int i) (.int j)=some (.nw,.bl (decide (i=j))):=by
 unfold opEq eqD
 rw[Dt.py,Dt.py,PyData.eqv,Bool.beq_eq_decide_eq]
 rfl
theorem z0W(i j:Int):opNe (.int i) (.int j)=some (.nw,.bl (!decide (i=j))):=by
 unfold opNe eqD
 rw[Dt.py,Dt.py,PyData.eqv,Bool.beq_eq_decide_eq]
 rfl
theorem z7k{i j:Int}(h:j.natAbs<2 ^ 64):z1v i j=true:=by unfold z1v;rw[decide_eq_true h];simp
theorem zaL{i j:Int}(h:i.natAbs<2 ^ 64):z1v i j=true:=by unfold z1v;rw[decide_eq_true h];simp
section
variable (i j:Int)
end
def z0q(ns:List Int)(k:Int):Int:=if k<ns.length then ns.getD k.toNat 0 else if ns=[] then 0 else ns.getD (k.fmod ns.length).toNat 0*31+k
end L2

end
section
set_option linter.all false
set_option maxRecDepth 100000
namespace L2
open PySem
section
variable {α β γ:Type}{g:Tg}{Fc:FT}{Fe:FE}{ρ0:Rho}
theorem z6F(e:α→Dt)(h:α→Dv):∀(xs:List α),(∀ x∈xs,(g.put (e x) ρ0).bind Fe=some (h x))→z4e g fYes Fe ρ0 (xs.map e)=some (xs.map h)
 | [],_=>rfl
 | x::xs,q=>by
  have q1:=q x List.mem_cons_self
  have ih:=z6F e h xs fun y hy=>q y (List.mem_cons_of_mem _ hy)
  rw[List.map_cons,z4e]
  cases p:g.put (e x) ρ0 with
  | none=>rw[p]at q1;cases q1
  | some ρ1 =>
   rw[p]at q1
   have q1:Fe ρ1=some (h x):=q1
   simp[fYes,q1,ih]
theorem z5W(e:α→Dt)(h:α→Dv)(p:α→Bool):∀(xs:List α),(∀ x∈xs,(g.put (e x) ρ0).bind Fc=some (p x))→(∀ x∈xs,p x=true→(g.put (e x) ρ0).bind Fe=some (h x))→z4e g Fc Fe ρ0 (xs.map e)=some ((xs.filter p).map h)
 | [],_,_=>rfl
 | x::xs,q,q'=>by
  have q1:=q x List.mem_cons_self
  have q2:=q' x List.mem_cons_self
  have ih:=z5W e h p xs (fun y hy=>q y (List.mem_cons_of_mem _ hy)) (fun y hy=>q' y (List.mem_cons_of_mem _ hy))
  rw[List.map_cons,z4e]
  cases z:g.put (e x) ρ0 with
  | none=>rw[z]at q1;cases q1
  | some ρ1 =>
   rw[z]at q1 q2
   have q1:Fc ρ1=some (p x):=q1
   cases w:p x with
   | true =>
    have q2:Fe ρ1=some (h x):=q2 w
    simp[q1,w,q2,ih]
   | false=>simp[q1,w,ih]
theorem z5X(h:α→Dv):∀ xs:List α,sndL (xs.map h)=xs.map fun x=>(h x).2
 | []=>rfl
 | x::xs=>by rw[List.map_cons,sndL,z5X h xs];rfl
theorem z6G{h:α→Dv}:∀{xs:List α},(∀ x∈xs,(h x).1.isFr=true)→z2z (xs.map h)=true
 | [],_=>rfl
 | x::xs,q=>by rw[List.map_cons,z2z,q x List.mem_cons_self,z6G fun y hy=>q y (List.mem_cons_of_mem _ hy)];rfl
theorem z0j{nt:Nat}{js:List Nat}{Fi:FI}{ρ:Rho}{e:α→Dt}{h:α→Dt}{xs:List α}(hi:Fi ρ=some (xs.map e))(q:∀ x∈xs,(g.put (e x) (sigD nt js ρ)).bind Fe=some (.nw,h x)):z0d nt js Fi g fYes Fe ρ=some (.nw,.lst (xs.map h)):=by
 unfold z0d
 rw[hi,z0i,z6F e (fun x=>(.nw,h x)) xs q,z0i,z6G (fun x _=>rfl),z5X]
 rfl
theorem z5Y{nt:Nat}{js:List Nat}{Fi:FI}{ρ:Rho}{e:α→Dt}{h:α→Dt}{p:α→Bool}{xs:List α}(hi:Fi ρ=some (xs.map e))(q:∀ x∈xs,(g.put (e x) (sigD nt js ρ)).bind Fc=some (p x))(q':∀ x∈xs,p x=true→(g.put (e x) (sigD nt js ρ)).bind Fe=some (.nw,h x)):
  z0d nt js Fi g Fc Fe ρ=some (.nw,.lst ((xs.filter p).map h)):=by
 unfold z0d
 rw[hi,z0i,z5W e (fun x=>(.nw,h x)) p xs q q',z0i,z6G (fun x _=>rfl),z5X]
 rfl
theorem z8k{nt:Nat}{js:List Nat}{Fi:FI}{ρ:Rho}{e:α→Dt}{h:α→Dv}{xs:List α}(hi:Fi ρ=some (xs.map e))(q:∀ x∈xs,(g.put (e x) (sigD nt js ρ)).bind Fe=some (h x)):z0d nt js Fi g fYes Fe ρ=some (if z2z (xs.map h) then .nw else .tn,.lst (xs.map fun x=>(h x).2)):=by
 unfold z0d
 rw[hi,z0i,z6F e h xs q,z0i,z5X]
variable {F:FS}
def nextO(G:FS):Oc→Option Oc
 | .nx ρ=>G ρ
 | .ct ρ=>G ρ
 | .bk ρ=>some (.nx ρ)
 | .rt f d=>some (.rt f d)
 | .ex C=>some (.ex C)
theorem ziE{ρ:Rho}:forF g F [] ρ=some (.nx ρ):=rfl
theorem z1t{x:Dt}{xs:List Dt}{ρ:Rho}:forF g F (x::xs) ρ=((g.put x ρ).bind F).bind (nextO (forF g F xs)):=by
 rw[forF]
 cases g.put x ρ with
 | none=>rfl
 | some ρ1 =>
  show(F ρ1).bind _=(F ρ1).bind _
  congr 1
  first|done|(funext oc;cases oc<;>rfl)
theorem z9I(e:α→Dt)(R:β→γ→Rho)(step:β→α→β):∀(xs:List α) (b:β) (j:γ),(∀ b x j,x∈xs→∃ j',(g.put (e x) (R b j)).bind F=some (.nx (R (step b x) j')))→∃ j',forF g F (xs.map e) (R b j)=some (.nx (R (xs.foldl step b) j'))
 | [],b,j,_=>⟨j,rfl⟩
 | x::xs,b,j,h=>by
  obtain⟨j1,h1⟩:=h b x j List.mem_cons_self
  obtain⟨j2,h2⟩:=z9I e R step xs (step b x) j1 fun b y j hy=>h b y j (List.mem_cons_of_mem _ hy)
  refine⟨j2,?_⟩
  rw[List.map_cons,z1t,h1]
  exact h2
end
abbrev LL(rows:List (List Int)):Dt := .lst (rows.map L)
abbrev TTu(rows:List (List Int)):Dt := .tup (rows.map T)
abbrev z0E(k:Int)(bills:List (List Int)):Dt := .tup [.int k,TTu bills]
theorem ziF(ns:List Int):(T ns).flat=true:=by show z1f _=true;exact z1M ns
theorem z4X:∀ rows:List (List Int),z1f (rows.map T)=true
 | []=>rfl
 | r::rows=>by rw[List.map_cons,z1f,ziF,z4X rows];rfl
theorem zm4(f:Fl)(i:Int):nrm f (.int i)=(.nw,.int i):=rfl
theorem nrm_T(f:Fl)(ns:List Int):nrm f (T ns)=(.nw,T ns):=by unfold nrm;rw[ziF];rfl
theorem ziG(ns:List Int):lfl (ns.map .int) = .nw:=by unfold lfl;rw[z1M];rfl
theorem z2J(ns:List Int):newL (ns.map .int)=(.nw,L ns):=by unfold newL;rw[ziG]
theorem z3r{α:Type}(h:α→Bool):∀ xs:List α,z5i (xs.map fun x => .bl (h x))=some (xs.map h)
 | []=>rfl
 | x::xs=>by rw[List.map_cons,z5i,z3r h xs];rfl
theorem z4h{α β:Type}(e:α→Dt)(f:β→Dt):∀(xs:List α) (ys:List β),zipD (xs.map e) (ys.map f)=(xs.zip ys).map fun p => .tup [e p.1,f p.2]
 | [],ys=>by simp[zipD]
 | x::xs,[]=>by simp[zipD]
 | x::xs,y::ys=>by rw[List.map_cons,List.map_cons,zipD,z4h e f xs ys];rfl
theorem z1x(lo:Int)(n:Nat):z2a lo n=(List.range n).map fun(k:Nat) => .int (lo+(k:Int)):=rfl
theorem z17(c:Int){m:Int}(h:0<m):0≤c.fmod m∧c.fmod m<m:=⟨Int.fmod_nonneg_of_pos c h,Int.fmod_lt_of_pos c h⟩
def z9J(c m:Int):Int :=
 if m=2 then(if((c.fdiv (10 ^ 30)).fmod 2)=1 then -(c.fmod (10 ^ 30)) else c.fmod (10 ^ 30))
 else
  let wide:Int:=if m=0 then 9 else 61
  let n:=c.fmod wide
  if wide.fdiv 2<n then n-wide else n
theorem ziH(c m:Int):(z9J c m).natAbs<10 ^ 30:=by
 unfold z9J
 have a1:=Int.fmod_nonneg_of_pos c (show(0:Int)<10 ^ 30 by decide)
 have a2:=Int.fmod_lt_of_pos c (show(0:Int)<10 ^ 30 by decide)
 dsimp only
 split
 · split<;>omega
 · have hw:(if m=0 then(9:Int) else 61)=9∨(if m=0 then(9:Int) else 61)=61:=by split<;>simp
   generalize (if m=0 then(9:Int) else 61)=wide at *
   have b1:=Int.fmod_nonneg_of_pos c (show(0:Int)<wide by omega)
   have b2:=Int.fmod_lt_of_pos c (show(0:Int)<wide by omega)
   split<;>omega
def z5j(ns:List Int)(at_:Int)(n:Nat)(m:Int):List Int:=(List.range n).map fun(k:Nat)=>z9J (z0q ns (at_+(k:Int))) m
theorem zhk(ns:List Int)(a:Int)(n:Nat)(m:Int):(z5j ns a n m).length=n:=by unfold z5j;simp
def z0X(ns:List Int):Int:=if(z0q ns 3).fmod 7=6 then 0 else if(z0q ns 2).fmod 5<3 then 0 else if(z0q ns 2).fmod 5=3 then 1 else 2
def z5u(ns:List Int):Int:=if(z0q ns 3).fmod 7=6 then 6 else 1+(z0q ns 0).fmod 4
def z8l(ns:List Int):Int:=if(z0q ns 3).fmod 7=6 then 8 else(z0q ns 1).fmod 5
def z1a(ns:List Int):Nat:=(if z0X ns=2 then 1+(z5u ns).fmod 2 else z5u ns).toNat
def z3i(ns:List Int):Nat:=(if z0X ns=2 then(z8l ns).fmod 4 else z8l ns).toNat
def z20(ns:List Int):List (List Int):=(List.range (z3i ns)).map fun(k:Nat)=>z5j ns (8+(z1a ns:Int)*(k:Int)) (z1a ns) (z0X ns)
theorem z5v(ns:List Int):1≤z1a ns∧z1a ns≤6:=by
 have h1:=z17 (z0q ns 0) (show(0:Int)<4 by decide)
 have h2:=z17 (z5u ns) (show(0:Int)<2 by decide)
 unfold z1a
 split
 · omega
 · unfold z5u;split<;>omega
theorem z9K(ns:List Int):z3i ns≤8:=by
 have h1:=z17 (z0q ns 1) (show(0:Int)<5 by decide)
 have h2:=z17 (z8l ns) (show(0:Int)<4 by decide)
 unfold z3i
 split
 · omega
 · unfold z8l;split<;>omega
theorem zaM(ns:List Int):z0X ns=0∨z0X ns=1∨z0X ns=2:=by
 unfold z0X
 split
 · simp
 · split
   · simp
   · split<;>simp
end L2

end
section
local macro_rules|`(tactic| omega)=>`(tactic| first|lia|omega +splitDisjunctions)
set_option linter.all false
set_option maxRecDepth 100000
namespace L2
open PySem
def addR(a b:List Int):List Int:=List.zipWith (·+·) a b
def subR(a b:List Int):List Int:=List.zipWith (· - ·) a b
def sclR(k:Int)(a:List Int):List Int:=a.map (k*·)
def z7l(n:Nat):List Int:=List.replicate n 0
def mixR(n:Nat)(rows:List (List Int))(cs:List Int):List Int:=(rows.zip cs).foldl (fun t p=>addR t (sclR p.2 p.1)) (z7l n)
def isWh:Dt→Bool
 | .int _=>true
 | _=>false
theorem z4i{a b:List Int}(h:a.length=b.length):(addR a b).length=a.length:=by unfold addR;rw[List.length_zipWith];omega
theorem z0R{k:Int}{a:List Int}:(sclR k a).length=a.length:=by unfold sclR;simp
theorem z3s{n:Nat}:(z7l n).length=n:=by unfold z7l;simp
theorem z3P{i j:Int}{p q:Nat}(h1:i.natAbs<2 ^ p)(h2:j.natAbs<2 ^ q)(h:p+q≤134217728):z1v i j=true:=by
 unfold z1v
 have a:=zaC h1
 have b:=zaC h2
 rw[decide_eq_true (show Builtin.Int.intBits i+Builtin.Int.intBits j≤134217728 by omega)]
 rfl
theorem ziI(a b:List Int):(a.zip b).map (fun p=>Dt.int (p.1+p.2))=(addR a b).map .int:=by
 unfold addR
 rw[List.zip,]
 induction a generalizing b with
 | nil=>rfl
 | cons x a ih=>cases b with
  | nil=>rfl
  | cons y b=>have:=ih b;simp[List.zipWith]
theorem zhl(a b:List Int):(a.zip b).map (fun p=>Dt.int (p.1-p.2))=(subR a b).map .int:=by
 unfold subR
 rw[List.zip,]
 induction a generalizing b with
 | nil=>rfl
 | cons x a ih=>cases b with
  | nil=>rfl
  | cons y b=>have:=ih b;simp[List.zipWith]
theorem z4j{α β:Type}(g:α→β)(xs:List α)(i:Int):atI (xs.map g) i=(atI xs i).map g:=by
 unfold atI
 rw[List.length_map]
 cases ixN xs.length i with
 | none=>rfl
 | some j=>show(xs.map g)[j]?=_;rw[List.getElem?_map];rfl
theorem zcM{α:Type}{xs:List α}{i:Nat}(h:i<xs.length):atI xs (i:Int)=some xs[i]:=z37 (List.getElem?_eq_getElem h)
def Wide(n:Nat)(rows:List (List Int)):Prop:=∀ r∈rows,r.length=n
theorem zbH{n:Nat}:∀(ps:List (List Int×Int)) (t:List Int),t.length=n→(∀ p∈ps,p.1.length=n)→(ps.foldl (fun t p=>addR t (sclR p.2 p.1)) t).length=n
 | [],t,h,_=>h
 | p::ps,t,h,q=>zbH ps _ (by rw[z4i (by rw[h,z0R,q p List.mem_cons_self])];exact h) fun p hp=>q p (List.mem_cons_of_mem _ hp)
theorem ziJ{n:Nat}{rows:List (List Int)}{cs:List Int}(h:Wide n rows):(mixR n rows cs).length=n :=
 zbH _ _ z3s fun p hp=>h _ (List.of_mem_zip hp).1
theorem ziK(d:Dt):nrm .nw d=(.nw,d):=by unfold nrm;split<;>rfl
theorem run{F G:FS}{ρ ρ':Rho}{r:Option Oc}(h:F ρ=some (.nx ρ'))(k:G ρ'=r):sSeq F G ρ=r:=by
 unfold sSeq
 rw[h]
 exact k
theorem z3Q{np n:Nat}{fr:Bool}{F:FS}{ds:List Dt}{f:Fl}{d:Dt}(hl:ds.length=np)(h:F (rho0 n ds)=some (.rt f d))(hf:(f.isFr||d.flat)=true):cOf np n fr F ds=some d:=by
 unfold cOf
 rw[if_pos hl,h]
 show(if(fr&&!(f.isFr||d.flat))=true then none else some d)=some d
 rw[hf]
 cases fr<;>rfl
theorem z8m{n:Nat}(h:n≤1000000):z2S (n:Int)=true:=by
 unfold z2S
 rw[decide_eq_true (show -1000000≤(n:Int) by omega),decide_eq_true (show(n:Int)≤1000000 by omega)]
 rfl
theorem L_map(f:Nat→Int)(n:Nat):(List.range n).map (fun k=>Dt.int (f k))=((List.range n).map f).map .int:=by rw[List.map_map];rfl
theorem z4k{α:Type}{xs:List α}{i:Nat}(d:α)(h:i<xs.length):atI xs (i:Int)=some (xs.getD i d):=by
 rw[zcM h];simp[List.getD,List.getElem?_eq_getElem h]
theorem ziL(ns:List Int)(a:Int)(n:Nat)(m:Int):∀ x∈z5j ns a n m,x.natAbs<10 ^ 30:=fun x hx=>by
 unfold z5j at hx
 obtain⟨k,_,rfl⟩:=List.mem_map.mp hx
 exact ziH _ _
theorem zaN(ns:List Int):Wide (z1a ns) (z20 ns):=fun r hr=>by
 unfold z20 at hr
 obtain⟨k,_,rfl⟩:=List.mem_map.mp hr
 exact zhk _ _ _ _
theorem zcN(ns:List Int):∀ r∈z20 ns,∀ x∈r,x.natAbs<10 ^ 30:=fun r hr=>by
 unfold z20 at hr
 obtain⟨k,_,rfl⟩:=List.mem_map.mp hr
 exact ziL _ _ _ _
theorem zbI(ns:List Int):(z20 ns).length=z3i ns:=by unfold z20;simp
end L2

end
section
set_option linter.all false
set_option maxRecDepth 100000
namespace L2
open PySem
@[simp] theorem x0:∀(n:Nat) (ds:List Dt),rho0 n ds=List.map (Cell.sh false) ds++List.replicate (n-List.length ds) Cell.no:=by intros;rfl
@[simp] theorem x1:∀(F G:FS) (ρ:Rho),sSeq F G ρ=Option.bind (F ρ) (seqO G):=by intros;rfl
@[simp] theorem x2:∀(G:FS) (ρ:Rho),seqO G (Oc.nx ρ)=G ρ:=by intros;rfl
@[simp] theorem x3:∀(G:FS) (x:Oc),(∀(ρ:Rho),x=Oc.nx ρ→False)→seqO G x=some x:=by exact @L2.seqO.eq_2
@[simp] theorem x4:∀(c:FT) (F G:FS) (ρ:Rho),sIf c F G ρ=Option.bind (c ρ) fun b=>if b=true then F ρ else G ρ:=by intros;rfl
@[simp] theorem x5:∀(F:FE) (ρ:Rho),z0p F ρ=Option.bind (F ρ) fun x=>blD (Prod.snd x):=by intros;rfl
@[simp] theorem x6:∀(r:FO) (Fa Fb:FE) (ρ:Rho),
 fOp r Fa Fb ρ=Option.bind (Fa ρ) fun x=>Option.bind (Fb ρ) fun y=>r (Prod.snd x) (Prod.snd y):=by intros;rfl
@[simp] theorem x7:∀(i:Nat) (ρ:Rho),fN i ρ=z9z ρ i:=by intros;rfl
@[simp] theorem x8:∀(ρ:Rho) (i:Nat),z9z ρ i=Option.bind ρ[i]? Cell.val:=by intros;rfl
@[simp] theorem x9:Cell.val Cell.no=none:=by intros;rfl
@[simp] theorem x10:∀(f:Bool) (d:Dt),Cell.val (Cell.sh f d)=some (nrm (flOf f) d):=by intros;rfl
@[simp] theorem x11:∀(f:Bool) (ds:List Dt),Cell.val (Cell.ow f ds)=some (flOf f,Dt.lst ds):=by intros;rfl
@[simp] theorem x12:∀(f:Bool),flOf f=if f=true then Fl.fr else Fl.sh:=by intros;rfl
@[simp] theorem x13:∀(r:FB) (Fs:FA) (ρ:Rho),fBlt r Fs ρ=Option.bind (Fs ρ) fun xs=>r (sndL xs):=by intros;rfl
@[simp] theorem x14:∀(Fa:FE) (Fs:FA) (ρ:Rho),z02 Fa Fs ρ=Option.bind (Fa ρ) fun x=>Option.bind (Fs ρ) fun xs=>some (x::xs):=by intros;rfl
@[simp] theorem x15:∀(x:Rho),fNil x=some []:=by intros;rfl
@[simp] theorem x16:sndL []=[]:=by intros;rfl
@[simp] theorem x17:∀(x_1:Dv) (xs:List Dv),sndL (x_1::xs)=Prod.snd x_1::sndL xs:=by intros;rfl
@[simp] theorem x18:∀(xs:List Dt),bLen [Dt.lst xs]=some (Fl.nw,Dt.int ↑(List.length xs)):=by intros;rfl
@[simp] theorem x19:∀(xs:List Dt),bLen [Dt.tup xs]=some (Fl.nw,Dt.int ↑(List.length xs)):=by intros;rfl
@[simp] theorem x20:∀(xs:List Int),bLen [Dt.scr xs]=some (Fl.nw,Dt.int ↑(List.length xs)):=by intros;rfl
@[simp] theorem x22:∀(b:Bool),blD (Dt.bl b)=some b:=by intros;rfl
@[simp] theorem x24:truD Dt.non=some false:=by intros;rfl
@[simp] theorem x25:∀(b:Bool),truD (Dt.bl b)=some b:=by intros;rfl
@[simp] theorem x26:∀(i:Int),truD (Dt.int i)=some (i != 0):=by intros;rfl
@[simp] theorem x27:∀(ds:List Dt),truD (Dt.lst ds)=some !List.isEmpty ds:=by intros;rfl
@[simp] theorem x28:∀(ds:List Dt),truD (Dt.tup ds)=some !List.isEmpty ds:=by intros;rfl
@[simp] theorem x30:∀(F:FE) (ρ:Rho),sRet F ρ=Option.map (fun x=>Oc.rt (Prod.fst x) (Prod.snd x)) (F ρ):=by intros;rfl
@[simp] theorem x31:∀(ρ:Rho),z0M ρ=some (Oc.nx ρ):=by intros;rfl
@[simp] theorem x32:∀(Fa Fb:FE) (ρ:Rho),fAt Fa Fb ρ=Option.bind (Fa ρ) fun x=>Option.bind (Fb ρ) fun y=>opAt x y:=by intros;rfl
@[simp] theorem x33:∀(x y:Dv),
 opAt x y =
  match Prod.snd x,Prod.snd y with
  | Dt.lst ds,Dt.int i=>Option.map (nrm (Fl.item (Prod.fst x))) (atI ds i)
  | Dt.tup ds,Dt.int i=>Option.map (nrm (Fl.item (Prod.fst x))) (atI ds i)
  | Dt.scr ns,Dt.int i=>Option.map (fun n=>(Fl.nw,Dt.int n)) (atI ns i)
  | x,x_1=>none:=by intros;rfl
@[simp] theorem x34:∀(Fs:FA) (ρ:Rho),
 fLst Fs ρ =
  Option.bind (Fs ρ) fun xs =>
   if List.length xs≤1000 then some (if z3n xs=true then Fl.nw else Fl.tn,Dt.lst (sndL xs)) else none:=by intros;rfl
@[simp] theorem x35:∀(Fs:FA) (ρ:Rho),
 fTup Fs ρ =
  Option.bind (Fs ρ) fun xs =>
   if List.length xs≤1000 then
    some (if z3n xs=true then Fl.nw else if z2z xs=true then Fl.fr else Fl.sh,Dt.tup (sndL xs))
   else none:=by intros;rfl
@[simp] theorem x36:Fl.item Fl.tn=Fl.sh:=by intros;rfl
@[simp] theorem x37:∀(x:Fl),(x=Fl.tn→False)→Fl.item x=x:=by exact @L2.Fl.item.eq_2
@[simp] theorem x38:∀(d:Dt) (x:Rho),fC d x=some (Fl.nw,d):=by intros;rfl
@[simp] theorem x39:∀(F:FE) (ρ:Rho),fTru F ρ=Option.bind (F ρ) fun x=>truD (Prod.snd x):=by intros;rfl
@[simp] theorem x40:∀(F:FT) (ρ:Rho),fNot F ρ=Option.map not (F ρ):=by intros;rfl
@[simp] theorem x41:∀(F G:FT) (ρ:Rho),fAnd F G ρ=Option.bind (F ρ) fun b=>if b=true then G ρ else some false:=by intros;rfl
@[simp] theorem x42:∀(F G:FT) (ρ:Rho),fOr F G ρ=Option.bind (F ρ) fun b=>if b=true then some true else G ρ:=by intros;rfl
@[simp] theorem x43:∀(F G:FE) (ρ:Rho),
 vAnd F G ρ=Option.bind (z0p F ρ) fun b=>if b=true then G ρ else some (Fl.nw,Dt.bl false):=by intros;rfl
@[simp] theorem x44:∀(F G:FE) (ρ:Rho),vOr F G ρ=Option.bind (z0p F ρ) fun b=>if b=true then some (Fl.nw,Dt.bl true) else G ρ:=by intros;rfl
@[simp] theorem x45:∀(F:FE) (ρ:Rho),vNot F ρ=Option.map (fun b=>(Fl.nw,Dt.bl !b)) (z0p F ρ):=by intros;rfl
@[simp] theorem x46:∀(F:FE) (ρ:Rho),
 fNeg F ρ =
  Option.bind (F ρ) fun x =>
   match Prod.snd x with
   | Dt.int i=>some (Fl.nw,Dt.int (-i))
   | x=>none:=by intros;rfl
@[simp] theorem x47:∀(F:FT) (Fa Fb:FE) (ρ:Rho),fIf F Fa Fb ρ=Option.bind (F ρ) fun b=>if b=true then Fa ρ else Fb ρ:=by intros;rfl
@[simp] theorem x48:∀(T:String) (F:FE) (ρ:Rho),fIsi T F ρ=Option.map (fun x=>(Fl.nw,Dt.bl (zbs (tyN (Prod.snd x)) T))) (F ρ):=by intros;rfl
@[simp] theorem x49:∀(t T:String),zbs t T=(t==T||t == "bool" && T == "int"):=by intros;rfl
@[simp] theorem x50:tyN Dt.non = "NoneType" := by intros;rfl
@[simp] theorem x51:∀(b:Bool),tyN (Dt.bl b) = "bool" := by intros;rfl
@[simp] theorem x52:∀(i:Int),tyN (Dt.int i) = "int" := by intros;rfl
@[simp] theorem x53:∀(x_1:PySem.Str),tyN (Dt.str x_1) = "str" := by intros;rfl
@[simp] theorem x54:∀(xs:List Dt),tyN (Dt.lst xs) = "list" := by intros;rfl
@[simp] theorem x55:∀(ns:List Int),tyN (Dt.scr ns) = "list" := by intros;rfl
@[simp] theorem x56:∀(xs:List Dt),tyN (Dt.tup xs) = "tuple" := by intros;rfl
@[simp] theorem x57:∀(rels:List Nat) (i:Nat) (F:FE) (ρ:Rho),
 sSet rels i F ρ =
  Option.map (fun x=>Oc.nx (List.set (relS rels ρ) i (Cell.sh (Fl.isFr (Prod.fst x)) (Prod.snd x))))
   (F (z1w (relS rels ρ))):=by intros;rfl
@[simp] theorem x58:∀(x:Rho),relS [] x=x:=by intros;rfl
@[simp] theorem x59:∀(x:Rho) (i:Nat) (is:List Nat),relS (i::is) x=relS is (z9E x i):=by intros;rfl
@[simp] theorem x60:z1w []=[]:=by intros;rfl
@[simp] theorem x61:∀(c:Cell) (ρ:List Cell),z1w (c::ρ)=z4f c::z1w ρ:=by intros;rfl
@[simp] theorem x62:∀(f:Bool) (ds:List Dt),z4f (Cell.ow f ds)=Cell.no:=by intros;rfl
@[simp] theorem x63:∀(x:Cell),(∀(f:Bool) (ds:List Dt),x=Cell.ow f ds→False)→z4f x=x:=by exact @L2.z4f.eq_2
@[simp] theorem x64:∀(fr:Bool) (c:FC) (Fs:FA) (ρ:Rho),
 z08 fr c Fs ρ=Option.bind (Fs ρ) fun xs=>Option.map (nrm (if fr=true then Fl.nw else Fl.sh)) (c (sndL xs)):=by intros;rfl
@[simp] theorem x65:Fl.isFr Fl.nw=true:=by intros;rfl
@[simp] theorem x66:Fl.isFr Fl.fr=true:=by intros;rfl
@[simp] theorem x68:Fl.isNw Fl.nw=true:=by intros;rfl
@[simp] theorem x69:∀(x:Fl),(x=Fl.nw→False)→Fl.isNw x=false:=by exact @L2.Fl.isNw.eq_2
@[simp] theorem x70:z3n []=true:=by intros;rfl
@[simp] theorem x71:∀(x_1:Dv) (xs:List Dv),z3n (x_1::xs)=(Fl.isNw (Prod.fst x_1)&&z3n xs):=by intros;rfl
@[simp] theorem x72:z2z []=true:=by intros;rfl
@[simp] theorem x73:∀(x_1:Dv) (xs:List Dv),z2z (x_1::xs)=(Fl.isFr (Prod.fst x_1)&&z2z xs):=by intros;rfl
@[simp] theorem x74:∀(F:FE) (ρ:Rho),z8b F ρ=Option.map (fun x=>Oc.nx ρ) (F ρ):=by intros;rfl
@[simp] theorem x75:∀(rels:List Nat) (Fi:FI) (g:Tg) (F:FS) (ρ:Rho),
 sFor rels Fi g F ρ=Option.bind (Fi (z1w (relS rels ρ))) fun items=>forF g F items (relS rels ρ):=by intros;rfl
@[simp] theorem x76:∀(F:FE) (ρ:Rho),iSeq F ρ=Option.bind (F ρ) fun x=>seqD (Prod.snd x):=by intros;rfl
@[simp] theorem x77:∀(ds:List Dt),seqD (Dt.lst ds)=some ds:=by intros;rfl
@[simp] theorem x78:∀(ds:List Dt),seqD (Dt.tup ds)=some ds:=by intros;rfl
@[simp] theorem x80:∀(i:Nat) (F:FE) (ρ:Rho),
 z2m i F ρ =
  Option.bind (F ρ) fun x =>
   if Fl.isNw (Prod.fst x)=true then some (Oc.nx (List.set ρ i (Cell.sh true (Prod.snd x)))) else none:=by intros;rfl
@[simp] theorem x81:∀(i:Nat) (F:FE) (ρ:Rho),
 sOwn i F ρ =
  Option.bind (F (z1w ρ)) fun x =>
   match x with
   | (Fl.nw,Dt.lst ds)=>if i<List.length ρ then some (Oc.nx (List.set ρ i (Cell.ow true ds))) else none
   | (Fl.tn,Dt.lst ds)=>if i<List.length ρ then some (Oc.nx (List.set ρ i (Cell.ow false ds))) else none
   | x=>none:=by intros;rfl
@[simp] theorem x82:∀(i:Nat) (F:FE) (ρ:Rho),
 sOwnA i F ρ =
  Option.bind (F ρ) fun x =>
   match x with
   | (Fl.nw,Dt.lst ds)=>if i<List.length ρ then some (Oc.nx (List.set ρ i (Cell.ow true ds))) else none
   | x=>none:=by intros;rfl
@[simp] theorem x83:∀(w:FW) (i:Nat) (F:FE) (ρ:Rho),
 sWr w i F ρ =
  Option.bind (z5V ρ i) fun o =>
   Option.bind (F (z1w ρ)) fun x =>
    Option.map (fun ds=>Oc.nx (List.set ρ i (Cell.ow (Prod.fst o&&Fl.isFr (Prod.fst x)) ds)))
     (w (Prod.snd o) (Prod.snd x)):=by intros;rfl
@[simp] theorem x84:∀(w:FW) (i:Nat) (F:FE) (ρ:Rho),
 sWrA w i F ρ =
  Option.bind (z5V ρ i) fun o =>
   Option.bind (F ρ) fun x =>
    if Fl.isNw (Prod.fst x)=true then
     Option.map (fun ds=>Oc.nx (List.set ρ i (Cell.ow (Prod.fst o) ds))) (w (Prod.snd o) (Prod.snd x))
    else none:=by intros;rfl
@[simp] theorem x85:∀(i:Nat) (Fj Fe:FE) (ρ:Rho),
 sPut i Fj Fe ρ =
  Option.bind (z5V ρ i) fun o =>
   Option.bind (Fe (z1w ρ)) fun x =>
    Option.bind (Fj ρ) fun j =>
     Option.bind (intD (Prod.snd j)) fun n =>
      Option.map (fun ds=>Oc.nx (List.set ρ i (Cell.ow (Prod.fst o&&Fl.isFr (Prod.fst x)) ds)))
       (setD (Prod.snd o) n (Prod.snd x)):=by intros;rfl
@[simp] theorem x86:∀(ρ:Rho) (i:Nat),
 z5V ρ i =
  match ρ[i]? with
  | some (Cell.ow f ds)=>some (f,ds)
  | x=>none:=by intros;rfl
@[simp] theorem x87:∀(F:FE) (ρ:Rho),z2V F ρ=Option.bind (F ρ) fun x=>Option.map (z2B 0) (lstD (Prod.snd x)):=by intros;rfl
@[simp] theorem x88:∀(F:FE) (ρ:Rho),iRev F ρ=Option.bind (F ρ) fun x=>Option.map List.reverse (lstD (Prod.snd x)):=by intros;rfl
@[simp] theorem x89:∀(ds:List Dt),lstD (Dt.lst ds)=some ds:=by intros;rfl
@[simp] theorem x91:∀(F G:FE) (ρ:Rho),
 iZip F G ρ =
  Option.bind (F ρ) fun x =>
   Option.bind (G ρ) fun y =>
    Option.bind (seqD (Prod.snd x)) fun xs =>
     Option.bind (seqD (Prod.snd y)) fun ys=>if List.length xs=List.length ys then some (zipD xs ys) else none:=by intros;rfl
@[simp] theorem x92:∀(F:FE) (ρ:Rho),
 z0D F ρ =
  Option.bind (F ρ) fun x =>
   Option.bind (intD (Prod.snd x)) fun j=>if z2S j=true then some (z2a 0 (Int.toNat j)) else none:=by intros;rfl
@[simp] theorem x93:∀(i:Int),intD (Dt.int i)=some i:=by intros;rfl
@[simp] theorem x95:∀(ds:List Dt) (d:Dt),wApp ds d=if List.length ds<1000000 then some (ds++[d]) else none:=by intros;rfl
@[simp] theorem x96:∀(ds:List Dt) (d:Dt),z8f ds d=if List.length ds<1000000 then some (d::ds) else none:=by intros;rfl
@[simp] theorem x97:∀(ds:List Dt) (j:Int) (d:Dt),setD ds j d=Option.map (fun k=>List.set ds k d) (ixN (List.length ds) j):=by intros;rfl
@[simp] theorem x98:∀(xs:List Dt),bLst [Dt.lst xs]=some (newL xs):=by intros;rfl
@[simp] theorem x99:∀(xs:List Dt),bLst [Dt.tup xs]=some (newL xs):=by intros;rfl
@[simp] theorem x101:∀(xs:List Dt),bTup [Dt.lst xs]=some (if z1f xs=true then Fl.nw else Fl.sh,Dt.tup xs):=by intros;rfl
@[simp] theorem x102:∀(xs:List Dt),bTup [Dt.tup xs]=some (if z1f xs=true then Fl.nw else Fl.sh,Dt.tup xs):=by intros;rfl
@[simp] theorem x104:∀(x:Dt) (x_1:Rho) (i:Nat),Tg.put (Tg.one i) x x_1=some (List.set x_1 i (Cell.sh false x)):=by intros;rfl
@[simp] theorem x105:∀(x:Rho) (is:List Nat) (ds:List Dt),
 Tg.put (Tg.many is) (Dt.tup ds) x=if List.length ds=List.length is then some (z2b x is ds) else none:=by intros;rfl
@[simp] theorem x107:∀(x:Rho) (i:Nat) (is:List Nat) (d:Dt) (ds:List Dt),
 z2b x (i::is) (d::ds)=z2b (List.set x i (Cell.sh false d)) is ds:=by intros;rfl
@[simp] theorem x108:∀(x:Rho) (x_1:List Nat) (x_2:List Dt),
 (∀(i:Nat) (is:List Nat) (d:Dt) (ds:List Dt),x_1=i::is→x_2=d::ds→False)→z2b x x_1 x_2=x:=by exact @L2.z2b.eq_2
@[simp] theorem x109:z5T Cell.no=Cell.no:=by intros;rfl
@[simp] theorem x110:∀(f:Bool) (d:Dt),z5T (Cell.sh f d)=Cell.sh false d:=by intros;rfl
@[simp] theorem x111:∀(f:Bool) (ds:List Dt),z5T (Cell.ow f ds)=Cell.sh false (Dt.lst ds):=by intros;rfl
@[simp] theorem x112:∀(nt:Nat) (js:List Nat) (ρ:Rho),
 sigD nt js ρ =
  List.replicate nt Cell.no ++
   List.map
    (fun j =>
     match ρ[j]? with
     | some c=>z5T c
     | none=>Cell.no)
    js:=by intros;rfl
@[simp] theorem x113:∀(r r':FO) (Fa Fb Fc:FE) (ρ:Rho),
 z85 r r' Fa Fb Fc ρ =
  Option.bind (Fa ρ) fun x =>
   Option.bind (Fb ρ) fun y =>
    Option.bind (r (Prod.snd x) (Prod.snd y)) fun z =>
     Option.bind (blD (Prod.snd z)) fun k =>
      if k=true then Option.bind (Fc ρ) fun w=>r' (Prod.snd y) (Prod.snd w) else some (Fl.nw,Dt.bl false):=by intros;rfl
@[simp] theorem x114:∀(c:FC) (F:FE) (ρ:Rho),
 z5t c F ρ =
  Option.bind (F ρ) fun x =>
   Option.bind (lstD (Prod.snd x)) fun ds =>
    Option.bind (z2c c ds) fun ks =>
     if List.length ds<64∧List.Nodup ks then
      some (newL (List.map (fun x=>Prod.snd x) (z2o (List.zip ks ds))))
     else none:=by intros;rfl
@[simp] theorem x115:∀(i j:Int),opLt (Dt.int i) (Dt.int j)=some (Fl.nw,Dt.bl (decide (i<j))):=by intros;rfl
@[simp] theorem x116:∀(i j:Int),opLe (Dt.int i) (Dt.int j)=some (Fl.nw,Dt.bl (decide (i≤j))):=by intros;rfl
@[simp] theorem x117:∀(i j:Int),opGt (Dt.int i) (Dt.int j)=some (Fl.nw,Dt.bl (decide (j<i))):=by intros;rfl
@[simp] theorem x118:∀(i j:Int),opGe (Dt.int i) (Dt.int j)=some (Fl.nw,Dt.bl (decide (j≤i))):=by intros;rfl
@[simp] theorem x119:∀(i j:Int),z5P (Dt.int i) (Dt.int j)=some (Fl.nw,Dt.int (i-j)):=by intros;rfl
@[simp] theorem x120:∀(i j:Int),z1p (Dt.int i) (Dt.int j)=if z2w i j=true then some (Fl.nw,Dt.int (Int.fmod i j)) else none:=by intros;rfl
@[simp] theorem x121:∀(i j:Int),z1X (Dt.int i) (Dt.int j)=if z1v i j=true then some (Fl.nw,Dt.int (i*j)) else none:=by intros;rfl
@[simp] theorem x122:∀(i j:Int),z2x (Dt.int i) (Dt.int j)=if z1G i j=true then some (Fl.nw,Dt.int (Int.fdiv i j)) else none:=by intros;rfl
@[simp] theorem x123:∀(i j:Int),z7c (Dt.int i) (Dt.int j)=if z5O i j=true then some (Fl.nw,Dt.int (i ^ Int.toNat j)) else none:=by intros;rfl
@[simp] theorem x124:∀(i j:Int),z0u (Dt.int i) (Dt.int j)=some (Fl.nw,Dt.int (i+j)):=by intros;rfl
@[simp] theorem x125:∀(f:Fl) (i:Int),nrm f (Dt.int i)=(Fl.nw,Dt.int i):=by intros;rfl
@[simp] theorem x126:∀(f:Fl) (i:Bool),nrm f (Dt.bl i)=(Fl.nw,Dt.bl i):=by intros;rfl
@[simp] theorem x127:∀(f:Fl),nrm f Dt.non=(Fl.nw,Dt.non):=by intros;rfl
@[simp] theorem x128:∀(f:Fl) (ns:List Int),nrm f (Dt.scr ns)=(f,Dt.scr ns):=by intros;rfl
@[simp] theorem x129:∀(f:Fl) (ns:List Int),nrm f (L ns)=(f,L ns):=by intros;rfl
@[simp] theorem x130:∀(f:Fl) (ns:List (List Int)),nrm f (LL ns)=(f,LL ns):=by intros;rfl
@[simp] theorem x134:∀{α β:Type} {a:α} {f:α→Option β},Option.bind (some a) f=f a:=by intros;rfl
@[simp] theorem x135:∀{α β:Type} {f:α→Option β},Option.bind none f=none:=by intros;rfl
@[simp] theorem x136:∀{α:Type} {x:α} {xs:List α},atI (x::xs) 0=some x:=by exact @L2.atI_c0
@[simp] theorem x137:∀{α:Type} {x y:α} {xs:List α},atI (x::y::xs) 1=some y:=by exact @L2.atI_c1
@[simp] theorem x138:∀{α:Type} {x y z:α} {xs:List α},atI (x::y::z::xs) 2=some z:=by exact @L2.atI_c2
@[simp] theorem y1(ns:List Int):newL (List.map Dt.int ns)=(Fl.nw,Dt.lst (List.map Dt.int ns)):=z2J ns
@[simp] theorem y2:newL []=(Fl.nw,Dt.lst []):=rfl
@[simp] theorem y3(ns:List Int):z1f (List.map Dt.int ns)=true:=z1M ns
@[simp] theorem y4(d:Dt):nrm Fl.nw d=(Fl.nw,d):=ziK d
@[simp] theorem y5(i:Int):Dt.flat (Dt.int i)=true:=rfl
@[simp] theorem y6(i:Bool):Dt.flat (Dt.bl i)=true:=rfl
@[simp] theorem y7(f:Fl)(ds:List Dt):nrm f (Dt.lst ds)=(f,Dt.lst ds):=rfl
@[simp] theorem y8:z1f []=true:=rfl
@[simp] theorem y9(d:Dt)(ds:List Dt):z1f (d::ds)=(d.flat&&z1f ds):=by rw[z1f]
@[simp] theorem y10(ds:List Dt):Dt.flat (Dt.lst ds)=false:=by rw[Dt.flat]
@[simp] theorem y11(ds:List Dt):Dt.flat (Dt.tup ds)=z1f ds:=by rw[Dt.flat]
@[simp] theorem y12(f:Fl)(ds:List Dt):nrm f (Dt.tup ds)=(if z1f ds=true then Fl.nw else f,Dt.tup ds):=rfl
@[simp] theorem xd1:tyN Dt.dic = "dict" := rfl
@[simp] theorem xd2:Dt.flat Dt.dic=true:=by unfold Dt.flat;rfl
end L2

end
section
local macro_rules|`(tactic| omega)=>`(tactic| first|lia|omega +splitDisjunctions)
set_option linter.all false
set_option maxRecDepth 100000
namespace L2
open PySem
@[simp] theorem y13(n:Nat)(h:n≤1000000):z2S (n:Int)=true:=z8m h
theorem getD_L(S:List (List Int)){k:Nat}(h:k<S.length):atI (S.map L) (k:Int)=some (L (S.getD k [])):=by rw[z4j,z4k [] h];rfl
end L2
namespace L2
open PySem
theorem z5Z{α:Type}(xs:List α)(n:Nat):cutD xs (some (n:Int)) none=xs.drop n:=by
 unfold cutD
 rw[HT.sIx_none,HT.sIx_nat]
 by_cases h:n≤xs.length
 · rw[Nat.min_eq_left h,List.take_of_length_le (by rw[List.length_drop];omega)]
 · rw[Nat.min_eq_right (by omega),List.drop_eq_nil_of_le (by omega),List.drop_eq_nil_of_le (by omega)];simp
theorem zaO{α:Type}(xs:List α)(n:Nat):cutD xs none (some (n:Int))=xs.take n:=by
 unfold cutD
 rw[HT.sIx_none,HT.sIx_nat,List.drop_zero,Nat.sub_zero]
 by_cases h:n≤xs.length
 · rw[Nat.min_eq_left h]
 · rw[Nat.min_eq_right (by omega),List.take_of_length_le (by omega),List.take_of_length_le (by omega)]
@[simp] theorem y14(F:FE)(A B:FP)(ρ:Rho):fSl F A B ρ=(F ρ).bind fun x=>(A ρ).bind fun lo=>(B ρ).bind fun hi=>match x.2 with|.lst ds=>some (newL (cutD ds lo hi))|_=>none:=rfl
@[simp] theorem y15(F:FE)(ρ:Rho):z1H F ρ=(F ρ).bind fun x=>(intD x.2).map some:=rfl
@[simp] theorem y16(ρ:Rho):z0I ρ=some none:=rfl
theorem z21(xs:List Int)(n:Nat):newL ((xs.map Dt.int).drop n)=(.nw,L (xs.drop n)):=by rw[←List.map_drop];exact z2J _
theorem z4l(xs:List Int)(n:Nat):newL ((xs.map Dt.int).take n)=(.nw,L (xs.take n)):=by rw[←List.map_take];exact z2J _
theorem zbJ(a b:List Int)(h:a.length+b.length≤1000000):z0u (.lst (a.map Dt.int)) (.lst (b.map Dt.int))=some (.nw,L (a++b)):=by
 have:z0u (.lst (a.map Dt.int)) (.lst (b.map Dt.int))=z5R (.lst (a.map Dt.int)) (.lst (b.map Dt.int)):=rfl
 rw[this,z5R,if_pos (by simpa using h),←List.map_append,z2J]
end L2

end
section
local macro_rules|`(tactic| omega)=>`(tactic| first|lia|omega +splitDisjunctions)
set_option linter.all false
namespace Lat
abbrev Vec:=Nat→Int
def Span:List Vec→Vec→Prop
 | [],v=>∀ k,v k=0
 | r::rs,v=>∃ c:Int,Span rs (fun k=>v k-c*r k)
theorem Span.congr{rs:List Vec}{v w:Vec}(h:∀ k,v k=w k)(s:Span rs v):Span rs w:=by
 have:v=w:=funext h
 rw[←this];exact s
theorem Span.zero:∀{rs:List Vec},Span rs (fun _=>0)
 | []=>fun _=>rfl
 | r::rs=>⟨0,Span.congr (fun k=>by simp) (Span.zero (rs:=rs))⟩
theorem Span.add:∀{rs:List Vec} {v w:Vec},Span rs v→Span rs w→Span rs (fun k=>v k+w k)
 | [],v,w,h1,h2=>fun k=>by show v k+w k=0;rw[h1 k,h2 k];rfl
 | r::rs,v,w,⟨c,h1⟩,⟨d,h2⟩=>⟨c+d,Span.congr (fun k=>by show _=(v k+w k)-(c+d)*r k;rw[Int.add_mul];omega) (h1.add h2)⟩
theorem Span.smul:∀{rs:List Vec} {v:Vec} (a:Int),Span rs v→Span rs (fun k=>a*v k)
 | [],v,a,h=>fun k=>by show a*v k=0;rw[h k,Int.mul_zero]
 | r::rs,v,a,⟨c,h⟩=>⟨a*c,Span.congr (fun k=>by rw[Int.mul_sub,Int.mul_assoc]) (h.smul a)⟩
theorem Span.neg{rs:List Vec}{v:Vec}(h:Span rs v):Span rs (fun k =>-v k):=Span.congr (fun k=>by omega) (h.smul (-1))
theorem Span.sub{rs:List Vec}{v w:Vec}(h1:Span rs v)(h2:Span rs w):Span rs (fun k=>v k-w k):=Span.congr (fun k=>by omega) (h1.add h2.neg)
theorem Span.head{r:Vec}{rs:List Vec}:Span (r::rs) r:=⟨1,Span.congr (fun k=>by omega) Span.zero⟩
theorem Span.cons{r:Vec}{rs:List Vec}{v:Vec}(h:Span rs v):Span (r::rs) v:=⟨0,Span.congr (fun k=>by omega) h⟩
theorem Span.mem:∀{rs:List Vec} {r:Vec},r∈rs→Span rs r
 | _::_,_,.head _=>Span.head
 | _::_,_,.tail _ h=>(Span.mem h).cons
theorem Span.least{P:Vec→Prop}(z:P (fun _=>0))(a:∀ v w,P v→P w→P (fun k=>v k+w k))(m:∀(c:Int) v,P v→P (fun k=>c*v k)):
  ∀{rs:List Vec} {v:Vec},(∀ r∈rs,P r)→Span rs v→P v
 | [],v,_,h=>by have:v=fun _=>0:=funext h;rw[this];exact z
 | r::rs,v,hr,⟨c,h⟩=>by
  have h1:=Span.least z a m (fun x hx=>hr x (List.mem_cons_of_mem _ hx)) h
  have h2:=a _ _ h1 (m c r (hr r List.mem_cons_self))
  have:v=fun k=>(v k-c*r k)+c*r k:=funext fun k=>by omega
  rw[this];exact h2
theorem Span.trans{rs ss:List Vec}{v:Vec}(h:∀ r∈rs,Span ss r)(s:Span rs v):Span ss v :=
 Span.least (P:=Span ss) Span.zero (fun _ _=>Span.add) (fun c _=>Span.smul c) h s
def SameSpan(rs ss:List Vec):Prop:=(∀ r∈rs,Span ss r)∧∀ s∈ss,Span rs s
theorem SameSpan.iff{rs ss:List Vec}(h:SameSpan rs ss){v:Vec}:Span rs v↔Span ss v:=⟨Span.trans h.1,Span.trans h.2⟩
theorem SameSpan.refl{rs:List Vec}:SameSpan rs rs:=⟨fun _=>Span.mem,fun _=>Span.mem⟩
theorem SameSpan.symm{rs ss:List Vec}(h:SameSpan rs ss):SameSpan ss rs:=⟨h.2,h.1⟩
theorem SameSpan.trans{rs ss ts:List Vec}(h:SameSpan rs ss)(g:SameSpan ss ts):SameSpan rs ts:=⟨fun r hr=>(h.1 r hr).trans g.1,fun t ht=>(g.2 t ht).trans h.2⟩
def Form:Nat→List (Nat×Vec)→Prop
 | _,[]=>True
 | f,(h,r)::rs=>f≤h∧(∀ k,k<h→r k=0)∧0<r h∧(∀ p∈rs,0≤r p.1∧r p.1<p.2 p.1)∧Form (h+1) rs
abbrev z0P(S:List (Nat×Vec)):List Vec:=S.map (·.2)
theorem Form.low:∀{f:Nat} {S:List (Nat×Vec)} {v:Vec},Form f S→Span (z0P S) v→∀ k,k<f→v k=0
 | _,[],v,_,s,k,_=>s k
 | f,(h,r)::S,v,⟨h1,h2,h3,h4,h5⟩,⟨c,s⟩,k,hk=>by
  have:=Form.low h5 s k (by omega)
  have e:r k=0:=h2 k (by omega)
  have this:v k-c*r k=0:=this
  rw[e]at this
  simpa using this
theorem Form.coef{f h:Nat}{r v:Vec}{S:List (Nat×Vec)}{c:Int}(F:Form f ((h,r)::S))(s:Span (z0P S) (fun k=>v k-c*r k)):v h=c*r h:=by
 have:v h-c*r h=0:=F.2.2.2.2.low s h (by omega)
 omega
theorem z3j{c r v:Int}(e:v=c*r)(hr:0<r)(h1 : -r<v)(h2:v<r):c=0:=by
 rcases Int.lt_trichotomy c 0 with h|h|h
 · exfalso
   have:c*r ≤ -1*r:=Int.mul_le_mul_of_nonneg_right (by omega) (by omega)
   omega
 · exact h
 · exfalso
   have:1*r≤c*r:=Int.mul_le_mul_of_nonneg_right (by omega) (by omega)
   omega
theorem Form.small:∀{f:Nat} {S:List (Nat×Vec)} {v:Vec},Form f S→Span (z0P S) v→(∀ p∈S,-(p.2 p.1)<v p.1∧v p.1<p.2 p.1)→∀ k,v k=0
 | _,[],v,_,s,_=>s
 | f,(h,r)::S,v,F,⟨c,s⟩,hs=>by
  have e:=F.coef s
  have hp:=hs (h,r) List.mem_cons_self
  have c0:c=0:=z3j e F.2.2.1 hp.1 hp.2
  subst c0
  refine F.2.2.2.2.small (Span.congr (fun k=>by omega) s) (fun p hp=>hs p (List.mem_cons_of_mem _ hp))
theorem Form.tail{f h:Nat}{r v:Vec}{S:List (Nat×Vec)}(F:Form f ((h,r)::S))(s:Span (z0P ((h,r)::S)) v)(z:v h=0):Span (z0P S) v:=by
 obtain⟨c,s⟩:=s
 have e:=F.coef s
 have hr:=F.2.2.1
 rw[z]at e
 have c0:c=0:=by
  rcases Int.mul_eq_zero.mp e.symm with h|h
  · exact h
  · omega
 subst c0
 exact Span.congr (fun k=>by omega) s
theorem Form.head_le{f g h h':Nat}{r r':Vec}{S S':List (Nat×Vec)}(F:Form f ((h,r)::S))(G:Form g ((h',r')::S'))(s:Span (z0P ((h',r')::S')) r):h'≤h:=by
 apply Nat.le_of_not_lt
 intro hlt
 have G':Form h' ((h',r')::S'):=⟨Nat.le_refl _,G.2⟩
 have:=G'.low s h hlt
 have:=F.2.2.1
 omega
theorem Form.unique:∀{S T:List (Nat×Vec)} {f g:Nat},Form f S→Form g T→SameSpan (z0P S) (z0P T)→S=T
 | [],[],_,_,_,_,_=>rfl
 | [],(h,r)::T,_,_,_,G,s=>by
  have:=s.2 r List.mem_cons_self h
  have:=G.2.2.1
  omega
 | (h,r)::S,[],_,_,F,_,s=>by
  have:=s.1 r List.mem_cons_self h
  have:=F.2.2.1
  omega
 | (h,r)::S,(h',r')::T,f,g,F,G,s=>by
  have s1:Span (z0P ((h',r')::T)) r:=s.1 r List.mem_cons_self
  have s2:Span (z0P ((h,r)::S)) r':=s.2 r' List.mem_cons_self
  have eh:h=h':=Nat.le_antisymm (G.head_le F s2) (F.head_le G s1)
  subst eh
  have evh:r h=r' h:=by
   obtain⟨c,q⟩:=s1
   obtain⟨d,q'⟩:=s2
   have e1:=G.coef q
   have e2:=F.coef q'
   have p1:=F.2.2.1
   have p2:=G.2.2.1
   have c1:1≤c:=by
     apply Int.not_lt.mp;intro hc
     have:c*r' h≤0:=Int.mul_nonpos_of_nonpos_of_nonneg (by omega) (by omega)
     omega
   have d1:1≤d:=by
     apply Int.not_lt.mp;intro hd
     have:d*r h≤0:=Int.mul_nonpos_of_nonpos_of_nonneg (by omega) (by omega)
     omega
   have a1:1*r' h≤c*r' h:=Int.mul_le_mul_of_nonneg_right c1 (by omega)
   have a2:1*r h≤d*r h:=Int.mul_le_mul_of_nonneg_right d1 (by omega)
   omega
  have tails:SameSpan (z0P S) (z0P T):=by
   constructor
   · intro x hx
     have hs:Span (z0P S) x:=Span.mem hx
     have z:=F.2.2.2.2.low hs h (by omega)
     exact G.tail (s.iff.mp hs.cons) z
   · intro x hx
     have hs:Span (z0P T) x:=Span.mem hx
     have z:=G.2.2.2.2.low hs h (by omega)
     exact F.tail (s.iff.mpr hs.cons) z
  have eST:=Form.unique F.2.2.2.2 G.2.2.2.2 tails
  subst eST
  have d0:Span (z0P S) (fun k=>r k-r' k):=F.tail (Span.sub Span.head s2) (by omega)
  have er:r=r':=funext fun k=>by
   have:=F.2.2.2.2.small d0 (fun p hp=>by
     have q1:=F.2.2.2.1 p hp
     have q2:=G.2.2.2.1 p hp
     omega) k
   omega
  rw[er]
theorem Form.free{f:Nat}{S:List (Nat×Vec)}(F:Form f S){v:Vec}:∀{c d:Int} {h:Nat} {r:Vec} {T:List (Nat×Vec)},S=(h,r)::T→Span (z0P T) (fun k=>v k-c*r k)→Span (z0P T) (fun k=>v k-d*r k)→c=d:=by
 rintro c d h r T rfl s1 s2
 have e1:=F.coef s1
 have e2:=F.coef s2
 have p:=F.2.2.1
 have:(c-d)*r h=0:=by rw[Int.sub_mul];omega
 rcases Int.mul_eq_zero.mp this with h|h<;>omega
end Lat

end
section
set_option linter.all false
namespace Lat
theorem z3k{α β:Type}[DecidableEq β]:∀{l:List α} {m:List β} (f:α→β),l.Nodup→(∀ x∈l,∀ y∈l,f x=f y→x=y)→(∀ x∈l,f x∈m)→l.length≤m.length
 | [],m,f,_,_,_=>Nat.zero_le _
 | x::l,m,f,hn,hi,hm=>by
  have hx:=hm x List.mem_cons_self
  have hn':=List.nodup_cons.mp hn
  have h1:l.length≤(m.erase (f x)).length:=by
   refine z3k f hn'.2 (fun a ha b hb=>hi a (List.mem_cons_of_mem _ ha) b (List.mem_cons_of_mem _ hb)) (fun a ha=>?_)
   have hne:f a≠f x:=fun e=>by
    have:=hi a (List.mem_cons_of_mem _ ha) x List.mem_cons_self e
    subst this
    exact hn'.1 ha
   exact(List.mem_erase_of_ne hne).mpr (hm a (List.mem_cons_of_mem _ ha))
  have h2:(m.erase (f x)).length=m.length-1:=List.length_erase_of_mem hx
  have h3:0<m.length:=List.length_pos_of_mem hx
  simp only[List.length_cons]
  omega
def box:List Nat→List (List Int)
 | []=>[[]]
 | n::ns=>(List.range n).flatMap fun(i:Nat)=>(box ns).map fun t=>(i:Int)::t
def prod:List Nat→Nat
 | []=>1
 | n::ns=>n*prod ns
theorem zbK{α:Type}(g:Nat→List α)(k:Nat):∀(l:List Nat),(∀ i∈l,(g i).length=k)→(l.flatMap g).length=l.length*k
 | [],_=>by simp
 | i::l,h=>by
  rw[List.flatMap_cons,List.length_append,zbK g k l (fun j hj=>h j (List.mem_cons_of_mem _ hj)),h i List.mem_cons_self,List.length_cons,Nat.succ_mul,Nat.add_comm]
theorem z5w:∀ ns:List Nat,(box ns).length=prod ns
 | []=>rfl
 | n::ns=>by
  show((List.range n).flatMap fun(i:Nat)=>(box ns).map fun t=>(i:Int)::t).length=n*prod ns
  rw[zbK _ (prod ns) _ (fun i _=>by rw[List.length_map,z5w ns]),List.length_range]
def z1r:List Nat→List Int→Prop
 | [],[]=>True
 | n::ns,x::xs=>0≤x∧x<n∧z1r ns xs
 | _,_=>False
theorem z4Y:∀{ns:List Nat} {t:List Int},t∈box ns↔z1r ns t
 | [],[]=>by simp[box,z1r]
 | [],x::t=>by simp[box,z1r]
 | n::ns,[]=>by simp[box,z1r]
 | n::ns,x::t=>by
  simp only[box,z1r,List.mem_flatMap,List.mem_range,List.mem_map,List.cons.injEq]
  constructor
  · rintro⟨i,hi,u,hu,rfl,rfl⟩
    exact⟨by omega,by omega,z4Y.mp hu⟩
  · rintro⟨h0,h1,h2⟩
    exact⟨x.toNat,by omega,t,z4Y.mpr h2,by omega,rfl⟩
theorem z9L:∀ ns:List Nat,(box ns).Nodup
 | []=>by simp[box]
 | n::ns=>by
  have ih:=z9L ns
  have key:∀ m,((List.range m).flatMap fun(i:Nat)=>(box ns).map fun t=>(i:Int)::t).Nodup:=by
   intro m
   induction m with
   | zero=>simp
   | succ m hm =>
    rw[List.range_succ,List.flatMap_append,List.nodup_append]
    refine⟨hm,?_,?_⟩
    · rw[List.flatMap_cons,List.flatMap_nil,List.append_nil]
      refine List.Pairwise.map _ (fun a b hab e=>hab ?_) ih
      exact(List.cons.inj e).2
    · intro a ha b hb e
      subst e
      simp only[List.mem_flatMap,List.mem_range,List.mem_map,List.mem_singleton]at ha hb
      obtain⟨i,hi,u,hu,rfl⟩:=ha
      obtain⟨j,hj,w,hw,e⟩:=hb
      have:=(List.cons.inj e).1
      omega
  exact key n
theorem zgh{ns ms:List Nat}(f:List Int→List Int)(hi:∀ s t,z1r ns s→z1r ns t→f s=f t→s=t)(hm:∀ s,z1r ns s→z1r ms (f s)):prod ns≤prod ms:=by
 rw[←z5w ns,←z5w ms]
 exact z3k f (z9L ns) (fun x hx y hy=>hi x y (z4Y.mp hx) (z4Y.mp hy)) (fun x hx=>z4Y.mpr (hm x (z4Y.mp hx)))
end Lat

end
section
local macro_rules|`(tactic| omega)=>`(tactic| first|lia|omega +splitDisjunctions)
set_option linter.all false
namespace Br
structure BI(a b u0 u1 u2 l0 l1 l2:Int):Prop where
 up:a*u1+b*u2=u0
 lo:a*l1+b*l2=l0
 gcd:Int.gcd u0 l0=Int.gcd a b
 p1:u0.natAbs*l1.natAbs+l0.natAbs*u1.natAbs≤a.natAbs+2*b.natAbs
 p2:u0.natAbs*l2.natAbs+l0.natAbs*u2.natAbs≤a.natAbs+2*b.natAbs
 ph:(u0=a∧u1=1∧u2=0∧l0=b∧l1=0∧l2=1)∨(0≤u0*l0∧u0≠0)
 b1:u1.natAbs≤a.natAbs+2*b.natAbs+1
 b2:u2.natAbs≤a.natAbs+2*b.natAbs+1
 b3:l1.natAbs≤a.natAbs+2*b.natAbs+1
 b4:l2.natAbs≤a.natAbs+2*b.natAbs+1
 c1:u0.natAbs≤a.natAbs+b.natAbs
 c2:l0.natAbs≤b.natAbs
theorem BI.start(a b:Int):BI a b a 1 0 b 0 1 where
 up:=by simp
 lo:=by simp
 gcd:=rfl
 p1:=by simp;omega
 p2:=by simp
 ph := .inl ⟨rfl,rfl,rfl,rfl,rfl,rfl⟩
 b1:=by simp
 b2:=by simp
 b3:=by simp
 b4:=by simp
 c1:=by omega
 c2:=by omega
theorem pot(L A R Qa u1 l1 f1 E:Nat)(hA:Qa*L+R≤A+E)(hf:f1≤u1+Qa*l1):L*f1+R*l1≤A*l1+L*u1+E*l1:=by
 have h1:L*f1≤L*(u1+Qa*l1):=Nat.mul_le_mul_left L hf
 have h2:L*(u1+Qa*l1)=L*u1+Qa*L*l1:=by
  rw[Nat.mul_add,←Nat.mul_assoc,Nat.mul_comm L Qa]
 have h3:(Qa*L+R)*l1≤(A+E)*l1:=Nat.mul_le_mul_right l1 hA
 rw[Nat.add_mul,Nat.add_mul]at h3
 omega
theorem zbL(u l:Int)(h:0<l):(u-u.fdiv l*l).natAbs<l.natAbs∧0≤l*(u-u.fdiv l*l)∧(0≤u*l→(u.fdiv l).natAbs*l.natAbs+(u-u.fdiv l*l).natAbs=u.natAbs) ∧
  (u.fdiv l).natAbs*l.natAbs≤u.natAbs+(u-u.fdiv l*l).natAbs:=by
 have hs:u.fdiv l*l=u-u.fmod l:=Int.fdiv_mul_self u l
 have hq:(u.fdiv l).natAbs*l.natAbs=(u.fdiv l*l).natAbs:=(Int.natAbs_mul _ _).symm
 have e:u-u.fdiv l*l=u.fmod l:=by omega
 rw[e,hq,hs]
 have h1:0≤u.fmod l:=Int.fmod_nonneg_of_pos u h
 have h2:u.fmod l<l:=Int.fmod_lt_of_pos u h
 refine⟨by omega,Int.mul_nonneg (by omega) h1,fun hu=>?_,by omega⟩
 have hu0:0≤u:=by
  by_cases hu':0≤u
  · exact hu'
  · have:=Int.mul_neg_of_neg_of_pos (show u<0 by omega) h
    omega
 have:u.fmod l≤u:=by
  have q1:0≤u.fdiv l:=Int.fdiv_nonneg hu0 (by omega)
  have q2:0≤u.fdiv l*l:=Int.mul_nonneg q1 (by omega)
  omega
 omega
theorem zgi(u l:Int)(hl:l≠0):(u-u.fdiv l*l).natAbs<l.natAbs∧0≤l*(u-u.fdiv l*l)∧(0≤u*l→(u.fdiv l).natAbs*l.natAbs+(u-u.fdiv l*l).natAbs=u.natAbs) ∧
   (u.fdiv l).natAbs*l.natAbs≤u.natAbs+(u-u.fdiv l*l).natAbs:=by
 rcases Int.lt_or_gt_of_ne hl with h|h
 · have q:=zbL (-u) (-l) (by omega)
   rw[Int.neg_fdiv_neg]at q
   have e : -u-u.fdiv l * -l = -(u-u.fdiv l*l):=by rw[Int.mul_neg];omega
   rw[e,Int.natAbs_neg,Int.natAbs_neg,Int.natAbs_neg,Int.neg_mul_neg,Int.neg_mul_neg]at q
   exact q
 · exact zbL u l h
theorem z8n{a b c:Nat}(h:a*b≤c)(ha:a≠0):b≤c:=Nat.le_trans (Nat.le_mul_of_pos_left b (Nat.pos_of_ne_zero ha)) h
theorem zgj(u q l:Int):(u-q*l).natAbs≤u.natAbs+q.natAbs*l.natAbs:=by
 have:=Int.natAbs_mul q l
 omega
theorem BI.turn{a b u0 u1 u2 l0 l1 l2:Int}(h:BI a b u0 u1 u2 l0 l1 l2)(hl:l0≠0):
   BI a b l0 l1 l2 (u0-u0.fdiv l0*l0) (u1-u0.fdiv l0*l1) (u2-u0.fdiv l0*l2):=by
 obtain⟨r1,r2,r3,r4⟩:=zgi u0 l0 hl
 have hL:l0.natAbs≠0:=fun e=>hl (Int.natAbs_eq_zero.mp e)
 have hup:=h.up
 have hlo:=h.lo
 generalize eq:u0.fdiv l0=q at *
 have lin:∀(x y:Int),a*(x-q*l1)+b*(y-q*l2)=(a*x+b*y)-q*(a*l1+b*l2):=fun x y=>by
   rw[Int.mul_sub,Int.mul_sub,Int.mul_add,Int.mul_left_comm a q l1,Int.mul_left_comm b q l2];omega
 have f1:(u1-q*l1).natAbs≤u1.natAbs+q.natAbs*l1.natAbs:=zgj u1 q l1
 have f2:(u2-q*l2).natAbs≤u2.natAbs+q.natAbs*l2.natAbs:=zgj u2 q l2
 have key:∀(x y f:Nat),f≤x+q.natAbs*y→u0.natAbs*y+l0.natAbs*x≤a.natAbs+2*b.natAbs→((0≤u0*l0)∨(y=0)∨(y=1∧x=0∧u0=a∧l0=b)) →
     l0.natAbs*f+(u0-q*l0).natAbs*y≤a.natAbs+2*b.natAbs:=fun x y f hf hp hc=>by
   rcases hc with hc|hc|⟨hc,hx,ha,hb⟩
   · have:=pot l0.natAbs u0.natAbs (u0-q*l0).natAbs q.natAbs x y f 0 (by have:=r3 hc;omega) hf
     omega
   · subst hc
     have:l0.natAbs*f≤l0.natAbs*x:=Nat.mul_le_mul_left _ (by omega)
     omega
   · subst hc;subst hx
     have:=pot l0.natAbs u0.natAbs (u0-q*l0).natAbs q.natAbs 0 1 f (2*(u0-q*l0).natAbs) (by omega) hf
     have hab:u0.natAbs=a.natAbs:=by rw[ha]
     have hbb:l0.natAbs=b.natAbs:=by rw[hb]
     generalize (u0-q*l0).natAbs=R at *
     generalize l0.natAbs*f=Z at *
     omega
 have ph1:0≤u0*l0∨l1.natAbs=0∨(l1.natAbs=1∧u1.natAbs=0∧u0=a∧l0=b):=by
   rcases h.ph with⟨_,_,_,_,e,_⟩|⟨e,_⟩
   · exact .inr (.inl (by rw[e];rfl))
   · exact .inl e
 have ph2:0≤u0*l0∨l2.natAbs=0∨(l2.natAbs=1∧u2.natAbs=0∧u0=a∧l0=b):=by
   rcases h.ph with⟨e1,_,e2,e3,_,e4⟩|⟨e,_⟩
   · exact .inr (.inr ⟨by rw[e4];rfl,by rw[e2];rfl,e1,e3⟩)
   · exact .inl e
 have k1:=key _ _ _ f1 h.p1 ph1
 have k2:=key _ _ _ f2 h.p2 ph2
 have c2:=h.c2
 refine⟨hlo,?_,?_,k1' k1,k1' k2,.inr ⟨r2,hl⟩,h.b3,h.b4,?_,?_,by omega,by omega⟩
 · rw[lin,hup,hlo]
 · rw[Int.gcd_sub_mul_right_right,Int.gcd_comm,h.gcd]
 · exact Nat.le_succ_of_le (z8n (Nat.le_trans (Nat.le_add_right _ _) k1) hL)
 · exact Nat.le_succ_of_le (z8n (Nat.le_trans (Nat.le_add_right _ _) k2) hL)
where k1' {x y:Nat} (h:x≤y):x≤y:=h
theorem BI.fin{a b u0 u1 u2 l1 l2:Int}(h:BI a b u0 u1 u2 0 l1 l2):(u0.natAbs:Int)=Int.gcd a b:=by
 have:=h.gcd
 rw[Int.gcd_zero_right]at this
 rw[this]
end Br

end
section
set_option linter.all false
set_option maxRecDepth 100000
namespace St
abbrev Row:=List Int
def at0(r:Row)(k:Nat):Int:=r.getD k 0
def z00:Row→Nat
 | []=>0
 | x::r=>if x=0 then z00 r+1 else 0
theorem z6H:∀ r:Row,z00 r≤r.length
 | []=>Nat.le_refl _
 | x::r=>by
  unfold z00
  split
  · exact Nat.succ_le_succ (z6H r)
  · exact Nat.zero_le _
theorem z0l:∀(r:Row) (k:Nat),k<z00 r→at0 r k=0
 | [],k,h=>by simp[z00]at h
 | x::r,k,h=>by
  unfold z00 at h
  split at h
  · rename_i hx
    cases k with
    | zero=>simp[at0,hx]
    | succ k=>exact z0l r k (by omega)
  · omega
theorem z60:∀(r:Row),z00 r<r.length→at0 r (z00 r)≠0
 | [],h=>by simp[z00]at h
 | x::r,h=>by
  unfold z00 at h ⊢
  split at h
  · rename_i hx
    rw[if_pos hx]
    exact z60 r (by simpa using h)
  · rename_i hx
    rw[if_neg hx]
    exact hx
theorem z2d:∀(r:Row) (h:Nat),(∀ k,k<h→at0 r k=0)→at0 r h≠0→z00 r=h
 | [],h,_,q=>by simp[at0]at q
 | x::r,0,_,q=>by
  unfold z00
  rw[if_neg (by simpa[at0]using q)]
 | x::r,h+1,z,q=>by
  have hx:x=0:=by simpa[at0]using z 0 (by omega)
  unfold z00
  rw[if_pos hx,z2d r h (fun k hk=>by simpa[at0]using z (k+1) (by omega)) (by simpa[at0]using q)]
theorem zhm(r:Row)(h:Nat)(z:∀ k,k<h→at0 r k=0)(hl:h≤r.length):h≤z00 r:=by
 apply Nat.le_of_not_lt
 intro hlt
 exact z60 r (by omega) (z _ hlt)
theorem z1i{r:Row}{k:Nat}(h:r.length≤k):at0 r k=0:=by simp[at0,List.getD,List.getElem?_eq_none h]
theorem ext0{a b:Row}(h:a.length=b.length)(q:∀ k,at0 a k=at0 b k):a=b:=by
 apply List.ext_getElem h
 intro i h1 h2
 have:=q i
 simpa[at0,List.getD,List.getElem?_eq_getElem h1,List.getElem?_eq_getElem h2]using this
def sub(a:Row)(q:Int)(b:Row):Row:=List.zipWith (fun x y=>x-q*y) a b
theorem z2E{a b:Row}{q:Int}(h:a.length=b.length):(sub a q b).length=a.length:=by unfold sub;rw[List.length_zipWith];omega
theorem z3R{a b:Row}{q:Int}(h:a.length=b.length)(k:Nat):at0 (sub a q b) k=at0 a k-q*at0 b k:=by
 by_cases hk:k<a.length
 · unfold at0 sub
   simp[List.getD,List.getElem?_zipWith,List.getElem?_eq_getElem hk,List.getElem?_eq_getElem (show k<b.length by omega)]
 · rw[z1i (by rw[z2E h];omega),z1i (by omega),z1i (show b.length≤k by omega)];simp
def lin(x:Int)(a:Row)(y:Int)(b:Row):Row:=List.zipWith (fun p q=>x*p+y*q) a b
theorem z7G{a b:Row}{x y:Int}(h:a.length=b.length):(lin x a y b).length=a.length:=by unfold lin;rw[List.length_zipWith];omega
theorem z7H{a b:Row}{x y:Int}(h:a.length=b.length)(k:Nat):at0 (lin x a y b) k=x*at0 a k+y*at0 b k:=by
 by_cases hk:k<a.length
 · unfold at0 lin
   simp[List.getD,List.getElem?_zipWith,List.getElem?_eq_getElem hk,List.getElem?_eq_getElem (show k<b.length by omega)]
 · rw[z1i (by rw[z7G h];omega),z1i (by omega),z1i (show b.length≤k by omega)];simp
def hd(r:Row):Int:=at0 r (z00 r)
def z0F(left rung:Row):Int:=(at0 left (z00 rung)).fdiv (hd rung)
def z0h:Row→List Row→Row
 | left,[]=>left
 | left,r::rs=>z0h (sub left (z0F left r) r) rs
def z8o:Row→List Row→List Int
 | _,[]=>[]
 | left,r::rs=>z0F left r::z8o (sub left (z0F left r) r) rs
def Asc(n:Nat):Nat→List Row→Prop
 | _,[]=>True
 | f,r::rs=>r.length=n∧f≤z00 r∧z00 r<n∧0<hd r∧Asc n (z00 r+1) rs
theorem Asc.weak{n:Nat}:∀{f g:Nat} {S:List Row},Asc n f S→g≤f→Asc n g S
 | _,_,[],_,_=>trivial
 | _,_,r::rs,⟨h1,h2,h3,h4,h5⟩,h=>⟨h1,Nat.le_trans h h2,h3,h4,h5⟩
theorem Asc.mem{n:Nat}:∀{f:Nat} {S:List Row} {r:Row},Asc n f S→r∈S→r.length=n∧f≤z00 r∧z00 r<n∧0<hd r
 | _,_::_,_,⟨h1,h2,h3,h4,h5⟩,.head _=>⟨h1,h2,h3,h4⟩
 | _,_::_,_,⟨h1,h2,h3,h4,h5⟩,.tail _ q=>by obtain⟨a,b,c,d⟩:=h5.mem q;exact⟨a,by omega,c,d⟩
theorem z5x{n:Nat}:∀{f:Nat} {S:List Row} {left:Row},Asc n f S→left.length=n→(z0h left S).length=n
 | _,[],left,_,h=>h
 | _,r::rs,left,⟨h1,h2,h3,h4,h5⟩,h=>by rw[z0h];exact z5x h5 (by rw[z2E (by omega)];exact h)
theorem z3S{n:Nat}:∀{f:Nat} {S:List Row} {left:Row},Asc n f S→left.length=n→∀ k,k<f→at0 (z0h left S) k=at0 left k
 | _,[],left,_,h,k,_=>rfl
 | f,r::rs,left,⟨h1,h2,h3,h4,h5⟩,h,k,hk=>by
  rw[z0h,z3S h5 (by rw[z2E (by omega)];exact h) k (by omega),z3R (by omega),z0l r k (by omega)]
  simp
theorem z6I(a:Int){b:Int}(h:0<b):0≤a-a.fdiv b*b∧a-a.fdiv b*b<b:=by
 have h1:=Int.fmod_nonneg_of_pos a h
 have h2:=Int.fmod_lt_of_pos a h
 have h3:=Int.mul_fdiv_add_fmod a b
 rw[Int.mul_comm]at h3
 omega
theorem z39{n:Nat}:∀{f:Nat} {S:List Row} {left:Row},Asc n f S→left.length=n→∀ r∈S,0≤at0 (z0h left S) (z00 r)∧at0 (z0h left S) (z00 r)<hd r
 | f,r::rs,left,⟨h1,h2,h3,h4,h5⟩,h,x,hx=>by
  have hl:(sub left (z0F left r) r).length=n:=by rw[z2E (by omega)];exact h
  rw[z0h]
  cases hx with
  | head =>
   rw[z3S h5 hl _ (Nat.lt_succ_self _),z3R (by omega)]
   exact z6I _ h4
  | tail _ hx=>exact z39 h5 hl x hx
def Lt(m:Nat)(r:Row):Prop:=∀ k,(at0 r k).natAbs<m
theorem Lt.mono{m m':Nat}{r:Row}(h:Lt m r)(q:m≤m'):Lt m' r:=fun k=>Nat.lt_of_lt_of_le (h k) q
theorem z3t(a:Int){b:Int}(h:0<b):(a.fdiv b).natAbs≤a.natAbs:=by
 have h1:=z6I a h
 generalize a.fdiv b=q at *
 rcases Int.lt_trichotomy q 0 with hq|hq|hq
 · have e:(q+1)*b=q*b+b:=by rw[Int.add_mul];omega
   have:(q+1)*b≤(q+1)*1:=Int.mul_le_mul_of_nonpos_left (by omega) (by omega)
   omega
 · subst hq;simp
 · have:q*1≤q*b:=Int.mul_le_mul_of_nonneg_left (by omega) (by omega)
   omega
theorem sub_lt{a b:Row}{q:Int}{s t u:Nat}(hl:a.length=b.length)(ha:Lt s a)(hb:Lt t b)(hq:q.natAbs≤u)(hs:0<s)(ht:0<t):Lt (s+u*t) (sub a q b):=fun k=>by
 rw[z3R hl]
 have h1:=ha k
 have h2:=hb k
 have h3:(q*at0 b k).natAbs≤u*(t-1):=by rw[Int.natAbs_mul];exact Nat.mul_le_mul hq (by omega)
 have h4:u*(t-1)≤u*t:=Nat.mul_le_mul_left _ (by omega)
 omega
theorem ziM{left r:Row}{s t:Nat}(hl:left.length=r.length)(hr:0<hd r)(ha:Lt s left)(hb:Lt t r):Lt (s*(t+1)) (sub left (z0F left r) r):=by
 have hs:0<s:=Nat.lt_of_le_of_lt (Nat.zero_le _) (ha 0)
 have ht:0<t:=Nat.lt_of_le_of_lt (Nat.zero_le _) (hb 0)
 have:=sub_lt (q:=z0F left r) (u:=s) hl ha hb (Nat.le_trans (z3t (at0 left (z00 r)) hr) (Nat.le_of_lt (ha (z00 r)))) hs ht
 rw[Nat.mul_add,Nat.mul_one,Nat.add_comm]
 exact this
end St

end
section
local macro_rules|`(tactic| omega)=>`(tactic| first|lia|omega +splitDisjunctions)
set_option linter.all false
set_option maxRecDepth 100000
namespace St
open Lat
abbrev vec(r:Row):Vec:=fun k=>at0 r k
abbrev vecs(S:List Row):List Vec:=S.map vec
theorem z8p{S:List Row}{r:Row}(h:r∈S):vec r∈vecs S:=List.mem_map.mpr ⟨r,h,rfl⟩
theorem z2p{n:Nat}:∀{f:Nat} {S:List Row} {left:Row},Asc n f S→left.length=n→Span (vecs S) (fun k=>at0 left k-at0 (z0h left S) k)
 | _,[],left,_,h=>fun k=>by show at0 left k-at0 left k=0;omega
 | f,r::rs,left,⟨h1,h2,h3,h4,h5⟩,h=>by
  have hl:(sub left (z0F left r) r).length=n:=by rw[z2E (by omega)];exact h
  have ih:=z2p h5 hl
  refine⟨z0F left r,Span.congr (fun k=>?_) ih⟩
  rw[z0h]
  show at0 (sub left (z0F left r) r) k-at0 (z0h (sub left (z0F left r) r) rs) k=at0 left k-at0 (z0h (sub left (z0F left r) r) rs) k-z0F left r*at0 r k
  rw[z3R (by omega)]
  omega
def mix:List Row→List Int→Vec
 | r::rs,c::cs=>fun k=>c*at0 r k+mix rs cs k
 | _,_=>fun _=>0
theorem Asc.low{n:Nat}:∀{f:Nat} {S:List Row} {v:Vec},Asc n f S→Span (vecs S) v→∀ k,k<f→v k=0
 | _,[],v,_,s,k,_=>s k
 | f,r::S,v,⟨h1,h2,h3,h4,h5⟩,⟨c,s⟩,k,hk=>by
  have e:=Asc.low h5 s k (by omega)
  have e2:at0 r k=0:=z0l r k (by omega)
  have e:v k-c*at0 r k=0:=e
  rw[e2]at e
  simpa using e
theorem Asc.coef{n f:Nat}{r:Row}{v:Vec}{S:List Row}{c:Int}(A:Asc n f (r::S))(s:Span (vecs S) (fun k=>v k-c*at0 r k)):v (z00 r)=c*hd r:=by
 have:v (z00 r)-c*at0 r (z00 r)=0:=A.2.2.2.2.low s _ (Nat.lt_succ_self _)
 unfold hd
 omega
theorem Asc.first{n:Nat}:∀{f:Nat} {S:List Row} {v:Vec} {h:Nat},Asc n f S→Span (vecs S) v→(∀ k,k<h→v k=0)→v h≠0→∃ r∈S,z00 r=h
 | _,[],v,h,_,s,_,q=>absurd (s h) q
 | f,r::S,v,h,A,⟨c,s⟩,z,q=>by
  have e:=A.coef s
  by_cases hc:c=0
  · subst hc
    have s':Span (vecs S) v:=Span.congr (fun k=>by simp) s
    obtain⟨x,hx,e⟩:=A.2.2.2.2.first s' z q
    exact⟨x,List.mem_cons_of_mem _ hx,e⟩
  · have hn:v (z00 r)≠0:=by
      rw[e]
      intro z
      rcases Int.mul_eq_zero.mp z with z|z
      · exact hc z
      · have:=A.2.2.2.1;omega
    have h1:¬z00 r<h:=fun z'=>hn (z _ z')
    by_cases h2:h<z00 r
    · exfalso
      have e2:v h-c*at0 r h=0:=A.2.2.2.2.low s h (by omega)
      rw[z0l r h h2]at e2
      exact q (by simpa using e2)
    · exact⟨r,List.mem_cons_self,by omega⟩
def even:List Row→List Row
 | []=>[]
 | r::rs=>z0h r (even rs)::even rs
theorem z2K{n:Nat}:∀{f:Nat} {S:List Row},Asc n f S→Asc n f (even S)∧(even S).map z00=S.map z00∧(even S).map hd=S.map hd
 | _,[],_=>⟨trivial,rfl,rfl⟩
 | f,r::rs,⟨h1,h2,h3,h4,h5⟩=>by
  obtain⟨i1,i2,i3⟩:=z2K h5
  have low:=z3S i1 h1
  have e1:at0 (z0h r (even rs)) (z00 r)=hd r:=low _ (Nat.lt_succ_self _)
  have e2:z00 (z0h r (even rs))=z00 r:=z2d _ _ (fun k hk=>by rw[low k (by omega)];exact z0l r k hk) (by rw[e1];omega)
  have e3:hd (z0h r (even rs))=hd r:=by unfold hd;rw[e2];exact e1
  refine⟨⟨z5x i1 h1,by rw[e2];exact h2,by rw[e2];exact h3,by rw[e3];exact h4,by rw[e2];exact i1⟩,?_,?_⟩
  · rw[even,List.map_cons,List.map_cons,e2,i2]
  · rw[even,List.map_cons,List.map_cons,e3,i3]
def z0w(S:List Row):List (Nat×Vec):=S.map fun r=>(z00 r,vec r)
theorem z9M{n:Nat}:∀{f:Nat} {S:List Row},Asc n f S→Form f (z0w (even S))
 | _,[],_=>trivial
 | f,r::rs,A=>by
  obtain⟨j1,_,_⟩:=z2K A
  obtain⟨h1,h2,h3,h4,h5⟩:=A
  obtain⟨i1,i2,i3⟩:=z2K h5
  obtain⟨k1,k2,k3,k4,k5⟩:=j1
  have low:=z3S i1 h1
  have e1:at0 (z0h r (even rs)) (z00 r)=hd r:=low _ (Nat.lt_succ_self _)
  have e2:z00 (z0h r (even rs))=z00 r:=z2d _ _ (fun k hk=>by rw[low k (by omega)];exact z0l r k hk) (by rw[e1];omega)
  refine⟨k2,fun k hk=>z0l _ k hk,k4,fun p hp=>?_,by rw[e2];exact z9M h5⟩
  obtain⟨x,hx,rfl⟩:=List.mem_map.mp hp
  exact z39 i1 h1 x hx
theorem z9N{n:Nat}:∀{f:Nat} {S:List Row},Asc n f S→SameSpan (vecs (even S)) (vecs S)
 | _,[],_=>SameSpan.refl
 | f,r::rs,A=>by
  obtain⟨h1,h2,h3,h4,h5⟩:=A
  obtain⟨i1,i2,i3⟩:=z2K h5
  have ih:=z9N h5
  have sp:=z2p i1 h1
  constructor
  · intro v hv
    obtain⟨x,hx,rfl⟩:=List.mem_map.mp hv
    rcases List.mem_cons.mp hx with rfl|hx
    · refine⟨1,Span.congr (fun k=>?_) ((ih.iff.mp sp).neg)⟩
      show -(at0 r k-at0 (z0h r (even rs)) k)=at0 (z0h r (even rs)) k-1*at0 r k
      omega
    · exact(ih.1 _ (z8p hx)).cons
  · intro v hv
    obtain⟨x,hx,rfl⟩:=List.mem_map.mp hv
    rcases List.mem_cons.mp hx with rfl|hx
    · refine⟨1,Span.congr (fun k=>?_) sp⟩
      show at0 x k-at0 (z0h x (even rs)) k=at0 x k-1*at0 (z0h x (even rs)) k
      omega
    · exact(ih.2 _ (z8p hx)).cons
end St

end
section
local macro_rules|`(tactic| omega)=>`(tactic| first|lia|omega +splitDisjunctions)
set_option linter.all false
set_option maxRecDepth 100000
namespace St
open Lat
theorem Asc.iff{n:Nat}:∀{f:Nat} {S:List Row},Asc n f S↔(∀ r∈S,r.length=n∧f≤z00 r∧z00 r<n∧0<hd r)∧(S.map z00).Pairwise (·<·)
 | f,[]=>by simp[Asc]
 | f,r::rs=>by
  constructor
  · intro A
    refine⟨fun x hx=>A.mem hx,?_⟩
    rw[List.map_cons,List.pairwise_cons]
    refine⟨fun h hh=>?_,(Asc.iff.mp A.2.2.2.2).2⟩
    obtain⟨x,hx,rfl⟩:=List.mem_map.mp hh
    exact(A.2.2.2.2.mem hx).2.1
  · rintro⟨h1,h2⟩
    rw[List.map_cons,List.pairwise_cons]at h2
    have q:=h1 r List.mem_cons_self
    refine⟨q.1,q.2.1,q.2.2.1,q.2.2.2,Asc.iff.mpr ⟨fun x hx=>?_,h2.2⟩⟩
    have q2:=h1 x (List.mem_cons_of_mem _ hx)
    exact⟨q2.1,h2.1 _ (List.mem_map.mpr ⟨x,hx,rfl⟩),q2.2.2.1,q2.2.2.2⟩
theorem sub_zero{a b:Row}(h:a.length=b.length):sub a 0 b=a:=ext0 (z2E h) fun k=>by rw[z3R h];simp
theorem z7m{n:Nat}{t:Nat}:∀{S:List Row} {left:Row},(∀ r∈S,r.length=n)→left.length=n→(∀ k,k<t→at0 left k=0)→(∀ k,k<t→at0 (z0h left S) k=0)∧(z0h left S).length=n
 | [],left,_,hl,z=>⟨z,hl⟩
 | r::rs,left,hw,hl,z=>by
  have h1:=hw r List.mem_cons_self
  rw[z0h]
  refine z7m (fun x hx=>hw x (List.mem_cons_of_mem _ hx)) (by rw[z2E (by omega)];exact hl) fun k hk=>?_
  rw[z3R (by omega),z k hk]
  by_cases hh:z00 r<t
  · have:z0F left r=0:=by unfold z0F;rw[z _ hh];simp
    rw[this];simp
  · rw[z0l r k (by omega)];simp
def LowB(m:Nat):Row→List Row→Prop
 | _,[]=>True
 | left,r::rs=>(z0F left r=0∨((z0F left r).natAbs<2 ^ m∧Lt (2 ^ m) r))∧LowB m (sub left (z0F left r) r) rs
theorem z2q{n t s e m:Nat}:∀{S:List Row} {left:Row},(∀ r∈S,r.length=n∧0<hd r)→left.length=n→(∀ k,k<t→at0 left k=0)→(∀ r∈S,t≤z00 r→Lt (2 ^ e) r)→Lt (2 ^ s) left→s+S.length*(e+1)≤m→e≤m →
  Lt (2 ^ (s+S.length*(e+1))) (z0h left S)∧LowB m left S
 | [],left,_,hl,z,_,hs,_,_=>⟨by simpa[z0h]using hs,trivial⟩
 | r::rs,left,hw,hl,z,hb,hs,hm,hem=>by
  have h1:=hw r List.mem_cons_self
  have lenE:(r::rs).length*(e+1)=rs.length*(e+1)+(e+1):=by rw[List.length_cons,Nat.succ_mul]
  have e2:∀ q,(sub left q r).length=n:=fun q=>by rw[z2E (by omega)];exact hl
  by_cases hh:z00 r<t
  · have o:z0F left r=0:=by unfold z0F;rw[z _ hh];simp
    have es:sub left (z0F left r) r=left:=by rw[o];exact sub_zero (by omega)
    obtain⟨i1,i2⟩:=z2q (t:=t) (s:=s) (e:=e) (m:=m) (S:=rs) (left:=left) (fun x hx=>hw x (List.mem_cons_of_mem _ hx)) hl z (fun x hx=>hb x (List.mem_cons_of_mem _ hx)) hs (by omega) hem
    rw[z0h,LowB,es]
    exact⟨i1.mono (Nat.pow_le_pow_right (by decide) (by omega)),.inl o,i2⟩
  · have hr:Lt (2 ^ e) r:=hb r List.mem_cons_self (by omega)
    have st:=ziM (s:=2 ^ s) (t:=2 ^ e) (by omega) h1.2 hs hr
    have st':Lt (2 ^ (s+(e+1))) (sub left (z0F left r) r):=by
     refine st.mono ?_
     rw[Nat.pow_add]
     refine Nat.mul_le_mul_left _ ?_
     have:0<2 ^ e:=Nat.two_pow_pos e
     rw[Nat.pow_succ];omega
    obtain⟨i1,i2⟩:=z2q (t:=t) (s:=s+(e+1)) (e:=e) (m:=m) (S:=rs) (left:=sub left (z0F left r) r) (fun x hx=>hw x (List.mem_cons_of_mem _ hx)) (e2 _)
     (fun k hk=>by rw[z3R (by omega),z k hk,z0l r k (by omega)];simp) (fun x hx=>hb x (List.mem_cons_of_mem _ hx)) st' (by omega) hem
    rw[z0h,LowB]
    refine⟨i1.mono (Nat.pow_le_pow_right (by decide) (by omega)),.inr ⟨?_,hr.mono (Nat.pow_le_pow_right (by decide) hem)⟩,i2⟩
    refine Nat.lt_of_le_of_lt (z3t (at0 left (z00 r)) h1.2) (Nat.lt_of_lt_of_le (hs _) (Nat.pow_le_pow_right (by decide) (by omega)))
def z0z(r left:Row)(x y:Int):Row:=lin x r y left
def z19(r left:Row)(g:Int):Row:=lin ((at0 r (z00 r)).fdiv g) left (-((at0 left (z00 r)).fdiv g)) r
structure Wi(n e eh m0 kk:Nat)(S0:List Row)(v:Row)(S:List Row)(left:Row):Prop where
 asc:Asc n 0 S
 len:left.length=n
 heads:S.map z00=S0.map z00
 span:SameSpan (vecs (left::S)) (vecs (v::S0))
 low:∀ r∈S,0≤at0 left (z00 r)∧at0 left (z00 r)<hd r
 right:∀ r∈S,z00 left≤z00 r→Lt (2 ^ e) r
 hds:∀ r∈S,hd r<2 ^ eh
 size:Lt (2 ^ (m0+z00 left*kk)) left
 all:∀ r∈S,Lt (2 ^ (e+3+(m0+z00 left*kk))) r
theorem ziN{a b:Row}{x y:Int}{p q s:Nat}(h:a.length=b.length)(hx:x.natAbs<2 ^ p)(hy:y.natAbs<2 ^ p)(ha:Lt (2 ^ q) a)(hb:Lt (2 ^ q) b)(hs:p+q+1≤s):Lt (2 ^ s) (lin x a y b):=fun k=>by
 rw[z7H h]
 have h1:(x*at0 a k).natAbs<2 ^ (p+q):=by
  rw[Int.natAbs_mul,Nat.pow_add]
  exact Nat.mul_lt_mul'' hx (ha k)
 have h2:(y*at0 b k).natAbs<2 ^ (p+q):=by
  rw[Int.natAbs_mul,Nat.pow_add]
  exact Nat.mul_lt_mul'' hy (hb k)
 have h3:2 ^ (p+q+1)≤2 ^ s:=Nat.pow_le_pow_right (by decide) hs
 rw[Nat.pow_succ]at h3
 omega +splitDisjunctions
theorem z0e{S:List Row}{r:Row}(h:r∈S):Span (vecs S) (fun k=>at0 r k):=Span.mem (z8p h)
theorem z61{T:List Vec}{u v:Vec}(x y:Int)(hu:Span T u)(hv:Span T v):Span T (fun k=>x*u k+y*v k):=(hu.smul x).add (hv.smul y)
theorem z3T{A B:List Row}(h1:∀ r∈A,Span (vecs B) (fun k=>at0 r k))(h2:∀ r∈B,Span (vecs A) (fun k=>at0 r k)):SameSpan (vecs A) (vecs B):=by
 constructor
 · intro v hv
   obtain⟨r,hr,rfl⟩:=List.mem_map.mp hv
   exact h1 r hr
 · intro v hv
   obtain⟨r,hr,rfl⟩:=List.mem_map.mp hv
   exact h2 r hr
theorem Wi.step{n e eh m0 kk:Nat}{S0:List Row}{v:Row}{S1 S2:List Row}{r left:Row}{g x y:Int}(I:Wi n e eh m0 kk S0 v (S1++r::S2) left)(hh:z00 r=z00 left)(hn:z00 left<n)
   (hg:0<g) (ga:g∣hd r) (gb:g∣at0 left (z00 r)) (hxy:hd r*x+at0 left (z00 r)*y=g) (hx:x.natAbs<2 ^ (e+2)) (hy:y.natAbs<2 ^ (e+2)) (he:e≤m0)
   (hk:2*e+3+(S1.length+S2.length+1)*(e+1)≤kk) :
   Wi n e eh m0 kk S0 v (S1++z0z r left x y::S2) (z0h (z19 r left g) (S1++z0z r left x y::S2))∧z00 left<z00 (z0h (z19 r left g) (S1++z0z r left x y::S2)) ∧
     LowB (m0+n*kk) (z19 r left g) (S1++z0z r left x y::S2)∧(∀ q∈S1++z0z r left x y::S2,hd q<2 ^ eh):=by
 have hrm:r∈S1++r::S2:=List.mem_append.mpr (.inr List.mem_cons_self)
 have q:=I.asc.mem hrm
 have hl:r.length=left.length:=by rw[q.1,I.len]
 have hlow:=I.low r hrm
 have hu:∀ k,at0 (z0z r left x y) k=x*at0 r k+y*at0 left k:=fun k=>z7H hl k
 have hlo:∀ k,at0 (z19 r left g) k=((at0 r (z00 r)).fdiv g)*at0 left k+(-((at0 left (z00 r)).fdiv g))*at0 r k:=fun k=>z7H hl.symm k
 have lu:(z0z r left x y).length=n:=by unfold z0z;rw[z7G hl];exact q.1
 have llo:(z19 r left g).length=n:=by unfold z19;rw[z7G hl.symm];exact I.len
 obtain⟨a',ea⟩:=ga
 obtain⟨b',eb⟩:=gb
 have da:(hd r).fdiv g=a':=by rw[ea];exact Int.mul_fdiv_cancel_left _ (by omega)
 have db:(at0 left (z00 r)).fdiv g=b':=by rw[eb];exact Int.mul_fdiv_cancel_left _ (by omega)
 have hlo:∀ k,at0 (z19 r left g) k=a'*at0 left k+(-b')*at0 r k:=fun k=>by
   have:=hlo k
   rw[db,show at0 r (z00 r)=hd r from rfl,da]at this
   exact this
 have det:a'*x+b'*y=1:=by
   have:g*(a'*x+b'*y)=g*1:=by rw[Int.mul_add,←Int.mul_assoc,←Int.mul_assoc,←ea,←eb];omega
   exact Int.eq_of_mul_eq_mul_left (by omega) this
 have zb:∀ k,k<z00 left→at0 r k=0∧at0 left k=0:=fun k hk=>⟨z0l r k (by omega),z0l left k hk⟩
 have us:at0 (z0z r left x y) (z00 r)=g:=by rw[hu,←hxy];show x*hd r+y*_=_;rw[Int.mul_comm x,Int.mul_comm y]
 have uh:z00 (z0z r left x y)=z00 r:=z2d _ _ (fun k hk=>by rw[hu,(zb k (by omega)).1,(zb k (by omega)).2];simp) (by rw[us];omega)
 have uhd:hd (z0z r left x y)=g:=by unfold hd;rw[uh];exact us
 have gle:g≤hd r:=Int.le_of_dvd q.2.2.2 ⟨a',ea⟩
 have lz:∀ k,k<z00 left+1→at0 (z19 r left g) k=0:=fun k hk=>by
   rw[hlo]
   by_cases h:k<z00 left
   · rw[(zb k h).1,(zb k h).2];simp
   · have:k=z00 r:=by omega
     subst this
     rw[eb,show at0 r (z00 r)=hd r from rfl,ea,Int.mul_left_comm a' g b',Int.neg_mul,Int.mul_left_comm b' g a',Int.mul_comm a' b']
     omega
 have asc':Asc n 0 (S1++z0z r left x y::S2):=by
   have A:=Asc.iff.mp I.asc
   refine Asc.iff.mpr ⟨fun z hz=>?_,?_⟩
   · rcases List.mem_append.mp hz with h|h
     · exact A.1 z (List.mem_append.mpr (.inl h))
     · rcases List.mem_cons.mp h with rfl|h
       · exact⟨lu,Nat.zero_le _,by rw[uh];exact q.2.2.1,by rw[uhd];exact hg⟩
       · exact A.1 z (List.mem_append.mpr (.inr (List.mem_cons_of_mem _ h)))
   · have e1:(S1++z0z r left x y::S2).map z00=(S1++r::S2).map z00:=by simp[uh]
     rw[e1];exact A.2
 have hw':∀ z∈S1++z0z r left x y::S2,z.length=n:=fun z hz=>(asc'.mem hz).1
 obtain⟨nz,nl⟩:=z7m (t:=z00 left+1) hw' llo lz
 have hhead:z00 left+1≤z00 (z0h (z19 r left g) (S1++z0z r left x y::S2)):=zhm _ _ nz (by rw[nl];omega)
 have mm:∀ z∈S1++z0z r left x y::S2,z=z0z r left x y∨z∈S1++r::S2:=fun z hz=>by
   rcases List.mem_append.mp hz with h|h
   · exact .inr (List.mem_append.mpr (.inl h))
   · rcases List.mem_cons.mp h with rfl|h
     · exact .inl rfl
     · exact .inr (List.mem_append.mpr (.inr (List.mem_cons_of_mem _ h)))
 have right':∀ z∈S1++z0z r left x y::S2,z00 left+1≤z00 z→Lt (2 ^ e) z:=fun z hz hk=>by
   rcases mm z hz with rfl|h
   · rw[uh]at hk;omega
   · exact I.right z h (by omega)
 have rlt:Lt (2 ^ e) r:=I.right r hrm (by omega)
 have hds':∀ z∈S1++z0z r left x y::S2,hd z<2 ^ eh:=fun z hz=>by
   rcases mm z hz with rfl|h
   · rw[uhd];have:=I.hds r hrm;omega
   · exact I.hds z h
 have aS:(a').natAbs<2 ^ e:=by
   have h1:(hd r).natAbs<2 ^ e:=rlt (z00 r)
   rw[ea,Int.natAbs_mul]at h1
   have:1*a'.natAbs≤g.natAbs*a'.natAbs:=Nat.mul_le_mul_right _ (by omega)
   omega
 have bS:(-b').natAbs<2 ^ e:=by
   have h1:(hd r).natAbs<2 ^ e:=rlt (z00 r)
   have h2:(at0 left (z00 r)).natAbs<2 ^ e:=by omega
   rw[eb,Int.natAbs_mul]at h2
   have:1*b'.natAbs≤g.natAbs*b'.natAbs:=Nat.mul_le_mul_right _ (by omega)
   omega
 have m1:e≤m0+z00 left*kk:=by omega
 have sl:Lt (2 ^ (e+(m0+z00 left*kk)+1)) (z19 r left g):=by
   unfold z19
   rw[show at0 r (z00 r)=hd r from rfl,da,db]
   exact ziN hl.symm aS bS I.size (rlt.mono (Nat.pow_le_pow_right (by decide) m1)) (Nat.le_refl _)
 have hk1:(z00 left+1)*kk=z00 left*kk+kk:=by rw[Nat.succ_mul]
 have hkn:(z00 left+1)*kk≤n*kk:=Nat.mul_le_mul_right _ (by omega)
 have hkh:(z00 left+1)*kk≤z00 (z0h (z19 r left g) (S1++z0z r left x y::S2))*kk:=Nat.mul_le_mul_right _ hhead
 have lenS:(S1++z0z r left x y::S2).length=S1.length+S2.length+1:=by simp;omega
 obtain⟨z1,z2⟩:=z2q (n:=n) (t:=z00 left+1) (s:=e+(m0+z00 left*kk)+1) (e:=e) (m:=m0+n*kk) (S:=S1++z0z r left x y::S2) (left:=z19 r left g)
   (fun z hz=>⟨hw' z hz,(asc'.mem hz).2.2.2⟩) llo lz right' sl (by rw[lenS];omega) (by omega)
 have low':=z39 asc' llo
 refine⟨⟨asc',nl,?_,?_,low',fun z hz hk=>right' z hz (by omega),hds',z1.mono (Nat.pow_le_pow_right (by decide) (by rw[lenS];omega)),fun z hz=>?_⟩,hhead,z2,hds'⟩
 · rw[←I.heads];simp[uh]
 · refine SameSpan.trans (z3T (B:=left::(S1++r::S2)) ?_ ?_) I.span
   ·
     have oldr:Span (vecs (left::(S1++r::S2))) (fun k=>at0 r k):=z0e (List.mem_cons_of_mem _ hrm)
     have oldl:Span (vecs (left::(S1++r::S2))) (fun k=>at0 left k):=z0e List.mem_cons_self
     have nu:Span (vecs (left::(S1++r::S2))) (fun k=>at0 (z0z r left x y) k):=Span.congr (fun k=>(hu k).symm) (z61 x y oldr oldl)
     have nlo:Span (vecs (left::(S1++r::S2))) (fun k=>at0 (z19 r left g) k):=Span.congr (fun k=>(hlo k).symm) (z61 a' (-b') oldl oldr)
     have all:∀ z∈S1++z0z r left x y::S2,Span (vecs (left::(S1++r::S2))) (fun k=>at0 z k):=fun z hz=>by
       rcases mm z hz with rfl|h
       · exact nu
       · exact z0e (List.mem_cons_of_mem _ h)
     intro z hz
     rcases List.mem_cons.mp hz with rfl|hz
     · have d:=z2p asc' llo
       have d':Span (vecs (left::(S1++r::S2))) (fun k=>at0 (z19 r left g) k-at0 (z0h (z19 r left g) (S1++z0z r left x y::S2)) k) :=
         d.trans fun w hw=>by obtain⟨z,hz,rfl⟩:=List.mem_map.mp hw;exact all z hz
       exact Span.congr (fun k=>by omega) (nlo.sub d')
     · exact all z hz
   · have um:z0z r left x y∈S1++z0z r left x y::S2:=List.mem_append.mpr (.inr List.mem_cons_self)
     have nu:Span (vecs (z0h (z19 r left g) (S1++z0z r left x y::S2)::(S1++z0z r left x y::S2))) (fun k=>at0 (z0z r left x y) k):=z0e (List.mem_cons_of_mem _ um)
     have nlo:Span (vecs (z0h (z19 r left g) (S1++z0z r left x y::S2)::(S1++z0z r left x y::S2))) (fun k=>at0 (z19 r left g) k):=by
       have d:=z2p asc' llo
       have t:Span (vecs (z0h (z19 r left g) (S1++z0z r left x y::S2)::(S1++z0z r left x y::S2))) (fun k=>at0 (z0h (z19 r left g) (S1++z0z r left x y::S2)) k):=z0e List.mem_cons_self
       exact Span.congr (fun k=>by omega) (t.add d.cons)
     have nr:∀ k,at0 r k=a'*at0 (z0z r left x y) k+(-y)*at0 (z19 r left g) k:=fun k=>by
       rw[hu,hlo]
       have:at0 r k=(a'*x+b'*y)*at0 r k:=by rw[det];omega
       rw[this]
       grind
     have nle:∀ k,at0 left k=b'*at0 (z0z r left x y) k+x*at0 (z19 r left g) k:=fun k=>by
       rw[hu,hlo]
       have:at0 left k=(a'*x+b'*y)*at0 left k:=by rw[det];omega
       rw[this]
       grind
     intro z hz
     rcases List.mem_cons.mp hz with rfl|hz
     · exact Span.congr (fun k=>(nle k).symm) (z61 _ _ nu nlo)
     · rcases List.mem_append.mp hz with h|h
       · exact z0e (List.mem_cons_of_mem _ (List.mem_append.mpr (.inl h)))
       · rcases List.mem_cons.mp h with rfl|h
         · exact Span.congr (fun k=>(nr k).symm) (z61 _ _ nu nlo)
         · exact z0e (List.mem_cons_of_mem _ (List.mem_append.mpr (.inr (List.mem_cons_of_mem _ h))))
 · rcases mm z hz with rfl|h
   · exact ziN (q:=m0+z00 left*kk) hl hx hy (rlt.mono (Nat.pow_le_pow_right (by decide) m1)) I.size (by omega)
   · exact(I.all z h).mono (Nat.pow_le_pow_right (by decide) (by omega))
end St

end
section
set_option linter.all false
set_option maxRecDepth 100000
namespace St
open Lat
def Ind(R:List Row):Prop:=∀ cs:List Int,cs.length=R.length→(∀ k,mix R cs k=0)→∀ c∈cs,c=0
theorem z62{T:List Vec}:∀{R:List Row} {cs:List Int},(∀ r∈R,Span T (fun k=>at0 r k))→Span T (mix R cs)
 | [],cs,_=>by unfold mix;exact Span.zero
 | r::R,[],_=>by unfold mix;exact Span.zero
 | r::R,c::cs,h=>by
  unfold mix
  exact((h r List.mem_cons_self).smul c).add (z62 fun x hx=>h x (List.mem_cons_of_mem _ hx))
def dif(a b:List Int):List Int:=List.zipWith (fun x y=>x-y) a b
theorem zgk{a b:List Int}(h:a.length=b.length):(dif a b).length=a.length:=by unfold dif;rw[List.length_zipWith];omega
theorem zgl:∀{R:List Row} {a b:List Int},a.length=b.length→∀ k,mix R (dif a b) k=mix R a k-mix R b k
 | [],a,b,h,k=>by simp[mix]
 | r::R,[],[],h,k=>by simp[mix,dif]
 | r::R,x::a,y::b,h,k=>by
  have ih:=zgl (R:=R) (a:=a) (b:=b) (by simpa using h) k
  show(x-y)*at0 r k+mix R (dif a b) k=(x*at0 r k+mix R a k)-(y*at0 r k+mix R b k)
  rw[ih,Int.sub_mul];omega
theorem zbM:∀{a b:List Int},a.length=b.length→(∀ c∈dif a b,c=0)→a=b
 | [],[],_,_=>rfl
 | x::a,y::b,h,z=>by
  have h1:x-y=0:=z _ (List.mem_cons_self)
  rw[zbM (a:=a) (b:=b) (by simpa using h) fun c hc=>z c (List.mem_cons_of_mem _ hc),show x=y by omega]
theorem z9O{N:Nat}:∀{a b:List Int},(∀ c∈a,0≤c∧c≤N)→(∀ c∈b,0≤c∧c≤N)→∀ c∈dif a b,c.natAbs≤N
 | [],_,_,_,c,hc=>by simp[dif]at hc
 | x::a,[],_,_,c,hc=>by simp[dif]at hc
 | x::a,y::b,ha,hb,c,hc=>by
  have hc:c∈(x-y)::dif a b:=hc
  rcases List.mem_cons.mp hc with rfl|hc
  · have:=ha x List.mem_cons_self
    have:=hb y List.mem_cons_self
    omega
  · exact z9O (fun c h=>ha c (List.mem_cons_of_mem _ h)) (fun c h=>hb c (List.mem_cons_of_mem _ h)) c hc
theorem zaP{N B:Nat}:∀{R:List Row} {cs:List Int},(∀ r∈R,Lt B r)→(∀ c∈cs,c.natAbs≤N)→∀ k,(mix R cs k).natAbs≤R.length*(N*B)
 | [],cs,_,_,k=>by simp[mix]
 | r::R,[],_,_,k=>by simp[mix]
 | r::R,c::cs,hr,hc,k=>by
  have ih:=zaP (R:=R) (cs:=cs) (fun x hx=>hr x (List.mem_cons_of_mem _ hx)) (fun x hx=>hc x (List.mem_cons_of_mem _ hx)) k
  show(c*at0 r k+mix R cs k).natAbs≤_
  have h1:(c*at0 r k).natAbs≤N*B:=by
   rw[Int.natAbs_mul];exact Nat.mul_le_mul (hc c List.mem_cons_self) (Nat.le_of_lt (hr r List.mem_cons_self k))
  rw[List.length_cons,Nat.succ_mul]
  omega
theorem z6J{N:Nat}:∀{r:Nat} {t:List Int},z1r (List.replicate r (N+1)) t↔t.length=r∧∀ c∈t,0≤c∧c≤N
 | 0,[]=>by simp[z1r]
 | 0,x::t=>by simp[z1r]
 | r+1,[]=>by simp[z1r,List.replicate]
 | r+1,x::t=>by
  rw[List.replicate_succ,z1r,z6J,List.length_cons]
  constructor
  · rintro⟨h1,h2,h3,h4⟩
    refine⟨by omega,fun c hc=>?_⟩
    rcases List.mem_cons.mp hc with rfl|hc
    · omega
    · exact h4 c hc
  · rintro⟨h1,h2⟩
    have:=h2 x List.mem_cons_self
    exact⟨by omega,by omega,by omega,fun c hc=>h2 c (List.mem_cons_of_mem _ hc)⟩
theorem z8q(N:Nat):∀ r,prod (List.replicate r N)=N ^ r
 | 0=>rfl
 | r+1=>by rw[List.replicate_succ,prod,z8q,Nat.pow_succ,Nat.mul_comm]
theorem siegel{R:List Row}{B:Nat}(hR:Ind R)(hb:∀ r∈R,Lt B r)(hp:0<B)(hs:List Nat)(hl:hs.length+1=R.length):
   ∃ cs:List Int,cs.length=R.length∧(∀ h∈hs,mix R cs h=0)∧(∃ k,mix R cs k≠0)∧∀ k,(mix R cs k).natAbs≤(2*R.length*B) ^ R.length:=by
 let r:=R.length
 let N:=(2*R.length*B) ^ hs.length
 let W:=R.length*(N*B)
 let f:List Int→List Int:=fun cs=>hs.map fun h=>mix R cs h+(W:Int)
 have main:∃ a b:List Int,z1r (List.replicate r (N+1)) a∧z1r (List.replicate r (N+1)) b∧f a=f b∧a≠b:=by
   apply Classical.byContradiction
   intro no
   have inj:∀ s t,z1r (List.replicate r (N+1)) s→z1r (List.replicate r (N+1)) t→f s=f t→s=t:=fun s t h1 h2 h3=>Classical.byContradiction fun hne=>no ⟨s,t,h1,h2,h3,hne⟩
   have h1:=zgh (ns:=List.replicate r (N+1)) (ms:=List.replicate hs.length (2*W+1)) f inj fun s hsr=>by
    rw[z6J]at hsr ⊢
    refine⟨by simp[f],fun c hc=>?_⟩
    obtain⟨h,_,rfl⟩:=List.mem_map.mp hc
    have:=zaP (N:=N) hb (cs:=s) (fun c hc=>by have:=hsr.2 c hc;omega) h
    have:(mix R s h).natAbs≤W:=this
    omega
   rw[z8q,z8q]at h1
   have hr1:1≤R.length:=by omega
   have h2:2*W+1≤(2*R.length*B)*(N+1):=by
    have e:(2*R.length*B)*(N+1)=2*W+2*R.length*B:=by
     show _=2*(R.length*(N*B))+_
     rw[Nat.mul_add,Nat.mul_one]
     congr 1
     rw[Nat.mul_comm N B,Nat.mul_assoc,Nat.mul_assoc]
    have:1≤2*R.length*B:=Nat.mul_pos (by omega) hp
    omega
   have h3:(2*W+1) ^ hs.length≤((2*R.length*B)*(N+1)) ^ hs.length:=Nat.pow_le_pow_left h2 _
   rw[Nat.mul_pow]at h3
   have h4:(N+1) ^ r=(N+1)*(N+1) ^ hs.length:=by rw[show r=hs.length+1 from hl.symm,Nat.pow_succ,Nat.mul_comm]
   rw[h4]at h1
   have h5:(N+1)*(N+1) ^ hs.length≤N*(N+1) ^ hs.length:=Nat.le_trans h1 h3
   have h6:0<(N+1) ^ hs.length:=Nat.pow_pos (by omega)
   rw[Nat.succ_mul]at h5
   omega
 obtain⟨a,b,ha,hb',hf,hne⟩:=main
 rw[z6J]at ha hb'
 have hab:a.length=b.length:=by rw[ha.1,hb'.1]
 refine⟨dif a b,by rw[zgk hab];exact ha.1,fun h hh=>?_,?_,fun k=>?_⟩
 · rw[zgl hab]
   have:mix R a h+(W:Int)=mix R b h+(W:Int):=List.map_inj_left.mp hf h hh
   omega
 · apply Classical.byContradiction
   intro no
   have z:∀ k,mix R (dif a b) k=0:=fun k=>Classical.byContradiction fun h=>no ⟨k,h⟩
   exact hne (zbM hab (hR (dif a b) (by rw[zgk hab];exact ha.1) z))
 · have:=zaP (N:=N) hb (cs:=dif a b) (z9O ha.2 hb'.2) k
   refine Nat.le_trans this ?_
   rw[←hl,Nat.pow_succ,hl,Nat.mul_comm]
   show(N*B)*R.length≤N*(2*R.length*B)
   rw[Nat.mul_assoc,Nat.mul_comm B]
   refine Nat.mul_le_mul_left _ ?_
   rw[Nat.mul_assoc];omega
theorem zbN(v:Vec):∀ m,v m≠0→∃ h,(∀ k,k<h→v k=0)∧v h≠0:=by
 intro m
 induction m using Nat.strongRecOn with
 | _ m ih =>
  intro hm
  by_cases q:∃ k,k<m∧v k≠0
  · obtain⟨k,h1,h2⟩:=q
    exact ih k h1 h2
  · exact⟨m,fun k hk=>Classical.byContradiction fun h=>q ⟨k,hk,h⟩,hm⟩
theorem zbO{E:Nat}:∀{T:List Row} {n f Q:Nat} {u:Vec},Asc n f T→Form f (z0w T)→(∀ r∈T,Lt E r)→Span (vecs T) u→(∀ r∈T,(u (z00 r)).natAbs≤Q*(hd r).natAbs)→∀ k,(u k).natAbs≤Q*((2 ^ T.length-1)*E)
 | [],n,f,Q,u,_,_,_,s,_,k=>by rw[s k];simp
 | r::T,n,f,Q,u,A,F,hE,⟨c,s⟩,hu,k=>by
  have hp:=A.2.2.2.1
  have ec:=A.coef s
  have hc:c.natAbs≤Q:=by
   have:=hu r List.mem_cons_self
   rw[ec,Int.natAbs_mul]at this
   exact Nat.le_of_mul_le_mul_right this (by omega)
  have ih:=zbO (T:=T) (Q:=2*Q) A.2.2.2.2 F.2.2.2.2 (fun x hx=>hE x (List.mem_cons_of_mem _ hx)) s (fun x hx=>by
   have h1:=hu x (List.mem_cons_of_mem _ hx)
   have h2:=F.2.2.2.1 (z00 x,vec x) (List.mem_map.mpr ⟨x,hx,rfl⟩)
   have h2:0≤at0 r (z00 x)∧at0 r (z00 x)<hd x:=h2
   show(u (z00 x)-c*at0 r (z00 x)).natAbs≤_
   have h3:(c*at0 r (z00 x)).natAbs≤Q*(hd x).natAbs:=by rw[Int.natAbs_mul];exact Nat.mul_le_mul hc (by omega)
   rw[Nat.mul_assoc]
   omega) k
  have ih:(u k-c*at0 r k).natAbs≤2*Q*((2 ^ T.length-1)*E):=ih
  have h4:(c*at0 r k).natAbs≤Q*E:=by rw[Int.natAbs_mul];exact Nat.mul_le_mul hc (Nat.le_of_lt (hE r List.mem_cons_self k))
  have h5:Q*((2 ^ (r::T).length-1)*E)=2*Q*((2 ^ T.length-1)*E)+Q*E:=by
   have p:0<2 ^ T.length:=Nat.two_pow_pos _
   rw[List.length_cons,Nat.pow_succ,show 2 ^ T.length*2-1=2*(2 ^ T.length-1)+1 by omega,Nat.add_mul,Nat.one_mul,Nat.mul_add,Nat.mul_assoc 2,Nat.mul_left_comm Q 2,Nat.mul_assoc 2]
  omega
theorem ziO{W E n f:Nat}{r:Row}{T:List Row}{w:Vec}(A:Asc n f (r::T))(F:Form f (z0w (r::T)))(hE:∀ x∈T,Lt E x)(s:Span (vecs (r::T)) w)(h0:w (z00 r)≠0)(hz:∀ x∈T,w (z00 x)=0)(hw:∀ k,(w k).natAbs≤W):
  ∀ k,(at0 r k).natAbs≤W+(2 ^ T.length-1)*E:=by
 obtain⟨c,s⟩:=s
 have ec:=A.coef s
 have c0:c≠0:=by intro z;rw[z]at ec;simp at ec;exact h0 ec
 intro k
 have q:=zbO (E:=E) (Q:=c.natAbs) A.2.2.2.2 F.2.2.2.2 hE s (fun x hx=>by
  have h2:=F.2.2.2.1 (z00 x,vec x) (List.mem_map.mpr ⟨x,hx,rfl⟩)
  have h2:0≤at0 r (z00 x)∧at0 r (z00 x)<hd x:=h2
  show(w (z00 x)-c*at0 r (z00 x)).natAbs≤_
  rw[hz x hx]
  have h3:(c*at0 r (z00 x)).natAbs≤c.natAbs*(hd x).natAbs:=by rw[Int.natAbs_mul];exact Nat.mul_le_mul_left _ (by omega)
  omega) k
 have q:(w k-c*at0 r k).natAbs≤c.natAbs*((2 ^ T.length-1)*E):=q
 have hwk:=hw k
 have e1:(c*at0 r k).natAbs=c.natAbs*(at0 r k).natAbs:=Int.natAbs_mul _ _
 apply Nat.le_of_not_lt
 intro hlt
 generalize (2 ^ T.length-1)*E=X at *
 have h6:c.natAbs*(W+X+1)≤c.natAbs*(at0 r k).natAbs:=Nat.mul_le_mul_left _ hlt
 have h7:c.natAbs*(W+X+1)=c.natAbs*X+c.natAbs*(W+1):=by rw[←Nat.mul_add];congr 1;omega
 have h8:1*(W+1)≤c.natAbs*(W+1):=Nat.mul_le_mul_right _ (by omega)
 omega
def bnd(r B:Nat):Nat:=(2*r*B) ^ r*2 ^ (r*r)
theorem z9P{W n:Nat}:∀{T:List Row} {f:Nat},Asc n f T→Form f (z0w T)→(∀ r∈T,∃ w:Vec,Span (vecs T) w∧w (z00 r)≠0∧(∀ k,k<z00 r→w k=0)∧(∀ x∈T,x≠r→w (z00 x)=0)∧∀ k,(w k).natAbs≤W)→∀ r∈T,Lt (W*2 ^ (T.length*T.length)+1) r
 | r::T,f,A,F,h,x,hx=>by
  have nd:∀ y∈T,z00 r<z00 y:=fun y hy=>(A.2.2.2.2.mem hy).2.1
  have ih:=z9P (T:=T) A.2.2.2.2 F.2.2.2.2 (fun y hy=>by
    obtain⟨w,w1,w2,w3,w4,w5⟩:=h y (List.mem_cons_of_mem _ hy)
    refine⟨w,?_,w2,w3,fun z hz hne=>w4 z (List.mem_cons_of_mem _ hz) hne,w5⟩
    exact Form.tail F (show Span (z0P (z0w (r::T))) w by
     have:z0P (z0w (r::T))=vecs (r::T):=by simp[z0w,z0P]
     rw[this];exact w1) (w3 _ (nd y hy)) |> fun s=>by
      have:z0P (z0w T)=vecs T:=by simp[z0w,z0P]
      have s:Span (z0P (z0w T)) w:=s
      rw[this]at s;exact s)
  have hW:W*2 ^ (T.length*T.length)+1≤W*2 ^ ((r::T).length*(r::T).length)+1:=by
    refine Nat.succ_le_succ (Nat.mul_le_mul_left _ (Nat.pow_le_pow_right (by decide) ?_))
    exact Nat.mul_le_mul (by simp) (by simp)
  rcases List.mem_cons.mp hx with rfl|hx
  · obtain⟨w,w1,w2,w3,w4,w5⟩:=h x List.mem_cons_self
    intro k
    have q:=ziO (E:=W*2 ^ (T.length*T.length)+1) A F ih w1 w2 (fun y hy=>w4 y (List.mem_cons_of_mem _ hy) fun e=>by have:=nd y hy;rw[e]at this;omega) w5 k
    refine Nat.lt_succ_of_le (Nat.le_trans q ?_)
    have hW1:1≤W:=by have:=w5 (z00 x);omega
    have e2:(x::T).length*(x::T).length=T.length*T.length+T.length+T.length+1:=by rw[List.length_cons];grind
    rw[e2,Nat.pow_succ,Nat.pow_add]
    generalize hP:2 ^ (T.length*T.length+T.length)=P
    have p1:2 ^ (T.length*T.length)*2 ^ T.length=P:=by rw[←hP,Nat.pow_add]
    have p2:1≤2 ^ T.length:=Nat.two_pow_pos _
    have p3:1≤2 ^ (T.length*T.length):=Nat.two_pow_pos _
    generalize 2 ^ T.length=a at *
    generalize 2 ^ (T.length*T.length)=b at *
    have h1:(a-1)*(W*b+1)≤a*(2*(W*b)):=Nat.mul_le_mul (by omega) (by have:1≤W*b:=Nat.mul_pos hW1 p3;omega)
    have h1':(a-1)*(W*b+1)+(W*b+1)=a*(W*b+1):=by
     have:a=(a-1)+1:=by omega
     rw[show a*(W*b+1)=((a-1)+1)*(W*b+1) by rw[←this],Nat.succ_mul]
    have h2:W≤W*b:=Nat.le_mul_of_pos_right _ p3
    have h3:a*(W*b+1)≤a*(2*(W*b)):=Nat.mul_le_mul_left _ (by have:1≤W*b:=Nat.mul_pos hW1 p3;omega)
    have h4:a*(2*(W*b))=W*(b*a)*2:=by grind
    have h5:W*(b*a)*2≤W*(P*a*2):=by
     rw[p1,Nat.mul_assoc]
     refine Nat.mul_le_mul_left _ (Nat.mul_le_mul_right _ (Nat.le_mul_of_pos_right _ p2))
    omega
  · exact(ih x hx).mono hW
theorem z9Q(T:List Row):z0P (z0w T)=vecs T:=by simp[z0w,z0P]
theorem zcO{n B:Nat}{S R:List Row}(A:Asc n 0 S)(F:Form 0 (z0w S))(hR:Ind R)(hl:R.length=S.length)(hs:∀ r∈R,Span (vecs S) (fun k=>at0 r k))(hb:∀ r∈R,Lt B r)(hp:0<B):
  ∀ r∈S,Lt (bnd S.length B+1) r:=by
 refine z9P A F fun r hr=>?_
 have hpw:=(Asc.iff.mp A).2
 obtain⟨S1,S2,rfl⟩:=List.append_of_mem hr
 obtain⟨cs,c1,c2,⟨m,c3⟩,c4⟩:=siegel hR hb hp ((S1++S2).map z00) (by rw[hl];simp;omega)
 have sp:Span (vecs (S1++r::S2)) (mix R cs):=z62 hs
 obtain⟨h,z,q⟩:=zbN _ m c3
 obtain⟨x,hx,ex⟩:=A.first sp z q
 have oth:∀ y∈S1++r::S2,y≠r→y∈S1++S2:=fun y hy hne=>by
  rcases List.mem_append.mp hy with h|h
  · exact List.mem_append.mpr (.inl h)
  · rcases List.mem_cons.mp h with rfl|h
    · exact absurd rfl hne
    · exact List.mem_append.mpr (.inr h)
 have zo:∀ y∈S1++r::S2,y≠r→mix R cs (z00 y)=0:=fun y hy hne=>c2 _ (List.mem_map.mpr ⟨y,oth y hy hne,rfl⟩)
 have er:x=r:=Classical.byContradiction fun hne=>q (by rw[←ex];exact zo x hx hne)
 subst er
 rw[hl]at c4
 exact⟨mix R cs,sp,by rw[ex];exact q,fun k hk=>z k (by omega),zo,c4⟩
end St

end
section
local macro_rules|`(tactic| omega)=>`(tactic| first|lia|omega +splitDisjunctions)
set_option linter.all false
set_option maxRecDepth 100000
namespace St
open Lat
structure Post(n u:Nat)(S0:List Row)(v:Row)(S:List Row):Prop where
 asc:Asc n 0 S
 span:SameSpan (vecs S) (vecs (v::S0))
 size:∀ r∈S,Lt (2 ^ u) r
 more:S.map z00=S0.map z00∨(S.length=S0.length+1∧∃ r∈S,∀ x∈S0,z00 x≠z00 r)
theorem Wi.start{n e eh s m0 kk:Nat}{S0:List Row}{v:Row}(A:Asc n 0 S0)(hv:v.length=n)(h0:∀ r∈S0,Lt (2 ^ e) r)(hh:∀ r∈S0,hd r<2 ^ eh)(hs:Lt (2 ^ s) v)(hm:s+S0.length*(e+1)≤m0)(he:e≤m0):
   Wi n e eh m0 kk S0 v S0 (z0h v S0)∧LowB m0 v S0:=by
 obtain⟨z1,z2⟩:=z2q (n:=n) (t:=0) (s:=s) (e:=e) (m:=m0) (S:=S0) (left:=v) (fun r hr=>⟨(A.mem hr).1,(A.mem hr).2.2.2⟩) hv (fun k hk=>by omega) (fun r hr _=>h0 r hr) hs hm he
 have sp:=z2p A hv
 refine⟨⟨A,z5x A hv,rfl,?_,z39 A hv,fun r hr _=>h0 r hr,fun r hr=>?_,z1.mono (Nat.pow_le_pow_right (by decide) (by omega)),fun r hr=>(h0 r hr).mono (Nat.pow_le_pow_right (by decide) (by omega))⟩,z2⟩
 · refine z3T (fun r hr=>?_) fun r hr=>?_
   · rcases List.mem_cons.mp hr with rfl|hr
     · have t:Span (vecs (v::S0)) (fun k=>at0 v k):=z0e List.mem_cons_self
       exact Span.congr (fun k=>by omega) (t.sub sp.cons)
     · exact z0e (List.mem_cons_of_mem _ hr)
   · rcases List.mem_cons.mp hr with rfl|hr
     · have t:Span (vecs (z0h r S0::S0)) (fun k=>at0 (z0h r S0) k):=z0e List.mem_cons_self
       exact Span.congr (fun k=>by omega) (t.add sp.cons)
     · exact z0e (List.mem_cons_of_mem _ hr)
 · exact hh r hr
theorem Wi.done{n e eh m0 kk:Nat}{S0:List Row}{v:Row}{S:List Row}{left:Row}(I:Wi n e eh m0 kk S0 v S left)(h:¬z00 left<n):Post n (e+3+(m0+n*kk)) S0 v S:=by
 have hl:=z6H left
 rw[I.len]at hl
 have e:z00 left=n:=by omega
 refine⟨I.asc,SameSpan.trans (z3T (fun r hr=>z0e (List.mem_cons_of_mem _ hr)) fun r hr=>?_) I.span,fun r hr=>by have:=I.all r hr;rw[e]at this;exact this,.inl I.heads⟩
 rcases List.mem_cons.mp hr with rfl|hr
 · refine Span.congr (fun k=>?_) Span.zero
   by_cases hk:k<n
   · exact(z0l r k (by omega)).symm
   · exact(z1i (by rw[I.len];omega)).symm
 · exact z0e hr
theorem Wi.new{n e eh m0 kk:Nat}{S0:List Row}{v:Row}{S S':List Row}{left t:Row}(I:Wi n e eh m0 kk S0 v S left)(h:z00 left<n)(hn:∀ r∈S,z00 r≠z00 left)
   (ht:t.length=n) (c:Int) (hc:c=1∨c = -1) (et:∀ k,at0 t k=c*at0 left k) (hp:0<at0 t (z00 left)) (pm:S'.Perm (t::S)) (pw:(S'.map z00).Pairwise (·<·)):Post n (e+3+(m0+n*kk)) S0 v S':=by
 have hh:z00 t=z00 left:=z2d _ _ (fun k hk=>by rw[et,z0l left k hk];simp) (by omega)
 have mem:∀ r∈S',r=t∨r∈S:=fun r hr=>List.mem_cons.mp (pm.mem_iff.mp hr)
 have tm:t∈S':=pm.mem_iff.mpr List.mem_cons_self
 have sm:∀ r∈S,r∈S':=fun r hr=>pm.mem_iff.mpr (List.mem_cons_of_mem _ hr)
 have hk:m0+z00 left*kk≤m0+n*kk:=by have:=Nat.mul_le_mul_right kk (Nat.le_of_lt h);omega
 refine⟨Asc.iff.mpr ⟨fun r hr=>?_,pw⟩,SameSpan.trans (z3T (fun r hr=>?_) fun r hr=>?_) I.span,fun r hr=>?_,.inr ⟨?_,t,tm,fun x hx e=>?_⟩⟩
 · rcases mem r hr with rfl|hr
   · exact⟨ht,Nat.zero_le _,by rw[hh];exact h,by unfold hd;rw[hh];exact hp⟩
   · exact I.asc.mem hr
 · rcases mem r hr with rfl|hr
   · exact Span.congr (fun k=>(et k).symm) ((z0e List.mem_cons_self:Span (vecs (left::S)) (fun k=>at0 left k)).smul c)
   · exact z0e (List.mem_cons_of_mem _ hr)
 · rcases List.mem_cons.mp hr with rfl|hr
   · refine Span.congr (fun k=>?_) ((z0e tm:Span (vecs S') (fun k=>at0 t k)).smul c)
     show c*at0 t k=at0 r k
     rw[et]
     rcases hc with rfl|rfl<;>omega
   · exact z0e (sm r hr)
 · rcases mem r hr with rfl|hr
   · intro k
     rw[et]
     have h1:=I.size k
     have h2:2 ^ (m0+z00 left*kk)≤2 ^ (e+3+(m0+n*kk)):=Nat.pow_le_pow_right (by decide) (by omega)
     rcases hc with rfl|rfl<;>omega
   · exact(I.all r hr).mono (Nat.pow_le_pow_right (by decide) (by omega))
 · have h1:=pm.length_eq
   have h2:=congrArg List.length I.heads
   simp at h1 h2
   omega
 · have:z00 x∈S.map z00:=by rw[I.heads];exact List.mem_map.mpr ⟨x,hx,rfl⟩
   obtain⟨y,hy,ey⟩:=List.mem_map.mp this
   exact hn y hy (by omega)
structure Good(n B:Nat)(rows:List Row)(S:List Row):Prop where
 asc:Asc n 0 S
 form:Form 0 (z0w S)
 span:SameSpan (vecs S) (vecs rows)
 ind:∃ R:List Row,Ind R∧R.length=S.length∧(∀ r∈R,r∈rows)
 len:S.length≤rows.length
 full:Ind rows→S.length=rows.length
theorem Good.nil{n B:Nat}:Good n B [] []:=⟨trivial,trivial,SameSpan.refl,⟨[],(fun cs h _ c hc=>by have h:cs=[]:=List.length_eq_zero_iff.mp h;subst h;cases hc),rfl,fun r hr=>by cases hr⟩,Nat.le_refl _,fun _=>rfl⟩
theorem Good.small{n B:Nat}{rows S:List Row}(G:Good n B rows S)(hb:∀ r∈rows,Lt B r)(hp:0<B):∀ r∈S,Lt (bnd S.length B+1) r:=by
 obtain⟨R,h1,h2,h3⟩:=G.ind
 exact zcO G.asc G.form h1 h2 (fun r hr=>G.span.iff.mpr (z0e (h3 r hr))) (fun r hr=>hb r (h3 r hr)) hp
theorem z4m:∀{R:List Row} {v:Vec},Span (vecs R) v→∃ c:List Int,c.length=R.length∧∀ k,v k=mix R c k
 | [],v,s=>⟨[],rfl,s⟩
 | r::R,v,⟨c,s⟩=>by
  obtain⟨cs,h1,h2⟩:=z4m s
  refine⟨c::cs,by simp[h1],fun k=>?_⟩
  have:=h2 k
  have this:v k-c*at0 r k=mix R cs k:=this
  show v k=c*at0 r k+mix R cs k
  omega
theorem z8r{v:Row}{d:Int}:∀{R:List Row} {c:List Int},c.length=R.length→∀ k,mix (R++[v]) (c++[d]) k=mix R c k+d*at0 v k
 | [],[],_,k=>by simp[mix]
 | r::R,x::c,h,k=>by
  show x*at0 r k+mix (R++[v]) (c++[d]) k=x*at0 r k+mix R c k+d*at0 v k
  rw[z8r (R:=R) (c:=c) (by simpa using h)];omega
theorem Ind.left{R:List Row}{v:Row}(h:Ind (R++[v])):Ind R:=fun c hl hz x hx=>by
 exact h (c++[0]) (by simp[hl]) (fun k=>by rw[z8r hl,hz k];simp) x (List.mem_append.mpr (.inl hx))
theorem z9R{n:Nat}:∀{f:Nat} {S T:List Row} {u:Vec},Asc n f S→Asc n f T→T.map z00=S.map z00→(∀ r∈T,Span (vecs S) (fun k=>at0 r k))→Span (vecs S) u→∃ D:Int,D≠0∧Span (vecs T) (fun k=>D*u k)
 | f,[],[],u,_,_,_,_,s=>⟨1,by decide,fun k=>by have:=s k;show 1*u k=0;omega⟩
 | f,r::S,t::T,u,A,A',hh,hT,s=>by
  have hh':z00 t=z00 r∧T.map z00=S.map z00:=by simpa using hh
  have tz:∀{w:Vec},Span (vecs (r::S)) w→w (z00 r)=0→Span (vecs S) w:=fun{w} hw z=>by
    obtain⟨c,q⟩:=hw
    have e:=A.coef q
    have c0:c=0:=by
      rw[z]at e
      rcases Int.mul_eq_zero.mp e.symm with h|h
      · exact h
      · have:=A.2.2.2.1;omega
    subst c0
    exact Span.congr (fun k=>by simp) q
  have ht:Span (vecs (r::S)) (fun k=>at0 t k):=hT t List.mem_cons_self
  have w1:Span (vecs (r::S)) (fun k=>hd t*u k-u (z00 r)*at0 t k):=(s.smul (hd t)).sub (ht.smul (u (z00 r)))
  have w2:=tz w1 (by show hd t*u (z00 r)-u (z00 r)*at0 t (z00 r)=0;rw[←hh'.1];show hd t*_-_*hd t=0;rw[Int.mul_comm];omega)
  obtain⟨D,hD,q⟩:=z9R A.2.2.2.2 (by rw[←hh'.1];exact A'.2.2.2.2) hh'.2 (fun x hx=>tz (hT x (List.mem_cons_of_mem _ hx)) (z0l x _ (by have:=(A'.2.2.2.2.mem hx).2.1;omega))) w2
  refine⟨D*hd t,fun z=>?_,D*u (z00 r),Span.congr (fun k=>?_) q⟩
  · rcases Int.mul_eq_zero.mp z with z|z
    · exact hD z
    · have:=A'.2.2.2.1;omega
  · show D*(hd t*u k-u (z00 r)*at0 t k)=D*hd t*u k-D*u (z00 r)*at0 t k
    grind
 | f,[],t::T,u,_,_,hh,_,_=>by simp at hh
 | f,r::S,[],u,_,_,hh,_,_=>by simp at hh
theorem z2W:∀ S:List Row,(even S).length=S.length
 | []=>rfl
 | r::rs=>by rw[even,List.length_cons,List.length_cons,z2W rs]
theorem Good.step{n u B:Nat}{rows S0 S:List Row}{v:Row}(G:Good n B rows S0)(P:Post n u S0 v S):Good n B (rows++[v]) (even S):=by
  have es:=z9N P.asc
  have sp:SameSpan (vecs (v::S0)) (vecs (rows++[v])):=z3T (fun r hr=>by
      rcases List.mem_cons.mp hr with rfl|hr
      · exact z0e (List.mem_append.mpr (.inr List.mem_cons_self))
      · exact(G.span.iff.mp (z0e hr)).trans fun w hw=>by
          obtain⟨z,hz,rfl⟩:=List.mem_map.mp hw
          exact z0e (List.mem_append.mpr (.inl hz))) fun r hr=>by
      rcases List.mem_append.mp hr with hr|hr
      · exact(G.span.iff.mpr (z0e hr)).trans fun w hw=>by
          obtain⟨z,hz,rfl⟩:=List.mem_map.mp hw
          exact z0e (List.mem_cons_of_mem _ hz)
      · rcases List.mem_singleton.mp hr with rfl
        exact z0e List.mem_cons_self
  obtain⟨R,h1,h2,h3⟩:=G.ind
  have hlen:(even S).length≤(rows++[v]).length:=by
    rw[z2W,List.length_append]
    have:=G.len
    rcases P.more with h|⟨h,_⟩
    · have h:=congrArg List.length h
      simp at h ⊢
      omega
    · simp;omega
  refine⟨(z2K P.asc).1,z9M P.asc,SameSpan.trans es (P.span.trans sp),?_,hlen,fun hI=>?_⟩
  rotate_left
  · have hI0:=hI.left
    have hl0:=G.full hI0
    rcases P.more with h|⟨h,_⟩
    · exfalso
      have hv:Span (vecs S) (fun k=>at0 v k):=P.span.iff.mpr (z0e List.mem_cons_self)
      obtain⟨D,hD,q⟩:=z9R P.asc G.asc h.symm (fun r hr=>P.span.iff.mpr (z0e (List.mem_cons_of_mem _ hr))) hv
      obtain⟨c,hc,ec⟩:=z4m (G.span.iff.mp q)
      have:=hI (c++[-D]) (by simp[hc]) (fun k=>by rw[z8r hc];have:=ec k;rw[←this,Int.neg_mul];show D*at0 v k+_=0;omega) (-D) (by simp)
      omega
    · rw[z2W,h,hl0];simp
  rcases P.more with h|⟨h,r,hr,hne⟩
  · exact⟨R,h1,by have h:=congrArg List.length h;simp at h;rw[z2W,h,h2],fun r hr=>List.mem_append.mpr (.inl (h3 r hr))⟩
  · refine⟨ v::R,?_,by rw[z2W,h,List.length_cons,h2],fun r hr=>?_⟩
    · intro cs hl hz
      cases cs with
      | nil=>intro c hc;cases hc
      | cons c cs =>
        have hl':cs.length=R.length:=by simpa using hl
        have hz:∀ k,c*at0 v k+mix R cs k=0:=hz
        by_cases c0:c=0
        · subst c0
          have z:=h1 cs hl' (fun k=>by have:=hz k;omega)
          intro d hd
          rcases List.mem_cons.mp hd with rfl|hd
          · rfl
          · exact z d hd
        · exfalso
          have cv:Span (vecs S0) (fun k=>c*at0 v k):=by
            have:Span (vecs S0) (mix R cs):=z62 fun r hr=>G.span.iff.mpr (z0e (h3 r hr))
            exact Span.congr (fun k=>by have:=hz k;omega) this.neg
          have all:∀ w:Vec,Span (vecs (v::S0)) w→Span (vecs S0) (fun k=>c*w k):=fun w hw=>by
            obtain⟨d,s⟩:=hw
            have s2:=(cv.smul d).add (s.smul c)
            refine Span.congr (fun k=>?_) s2
            show d*(c*at0 v k)+c*(w k-d*at0 v k)=c*w k
            grind
          have rs:Span (vecs (v::S0)) (fun k=>at0 r k):=P.span.iff.mp (z0e hr)
          have q:=P.asc.mem hr
          obtain⟨x,hx,e⟩:=G.asc.first (h:=z00 r) (all _ rs) (fun k hk=>by show c*at0 r k=0;rw[z0l r k hk];simp) (by
            show c*hd r≠0
            intro z
            rcases Int.mul_eq_zero.mp z with z|z
            · exact c0 z
            · omega)
          exact hne x hx e
    · rcases List.mem_cons.mp hr with rfl|hr
      · exact List.mem_append.mpr (.inr List.mem_cons_self)
      · exact List.mem_append.mpr (.inl (h3 r hr))
theorem z63{r s B:Nat}(h:r≤s)(hB:0<B)(hs:0<s):bnd r B≤bnd s B:=by
 unfold bnd
 refine Nat.mul_le_mul ?_ (Nat.pow_le_pow_right (by decide) (Nat.mul_le_mul h h))
 have h1:2*r*B≤2*s*B:=Nat.mul_le_mul_right _ (Nat.mul_le_mul_left _ h)
 have h2:0<2*s*B:=Nat.mul_pos (by omega) hB
 exact Nat.le_trans (Nat.pow_le_pow_left h1 r) (Nat.pow_le_pow_right h2 h)
theorem z64{n:Nat}:∀{f:Nat} {S:List Row},Asc n f S→f≤n→S.length≤n-f
 | f,[],_,_=>Nat.zero_le _
 | f,r::rs,⟨h1,h2,h3,h4,h5⟩,h=>by
  have:=z64 h5 (by omega)
  rw[List.length_cons];omega
end St

end
section
set_option linter.all false
set_option maxRecDepth 100000
set_option exponentiation.threshold 3000
namespace St
open Lat
theorem z8s:∀{f:Nat} {S:List Row},Form f (z0w S)→∀{j k:Nat},j<k→k<S.length→0≤at0 (S.getD j []) (z00 (S.getD k []))∧at0 (S.getD j []) (z00 (S.getD k []))<hd (S.getD k [])
 | f,r::S,F,0,k+1,_,hk=>by
  have hk:k<S.length:=by simpa using hk
  have hm:S.getD k []∈S:=by simp[List.getD,List.getElem?_eq_getElem hk]
  have:=F.2.2.2.1 (z00 (S.getD k []),vec (S.getD k [])) (List.mem_map.mpr ⟨_,hm,rfl⟩)
  exact this
 | f,r::S,F,j+1,k+1,hjk,hk=>by
  have:=z8s (S:=S) F.2.2.2.2 (j:=j) (k:=k) (by omega) (by simpa using hk)
  simpa[List.getD]using this
theorem z65{n f:Nat}{S:List Row}(A:Asc n f S){k:Nat}(hk:k<S.length):(S.getD k []).length=n∧f≤z00 (S.getD k [])∧z00 (S.getD k [])<n∧0<hd (S.getD k []) :=
 A.mem (by simp[List.getD,List.getElem?_eq_getElem hk])
theorem zcP{n:Nat}:∀{f:Nat} {S:List Row},Asc n f S→∀{j k:Nat},j<k→k<S.length→z00 (S.getD j [])<z00 (S.getD k [])
 | f,r::S,A,0,k+1,_,hk=>by
  have hk:k<S.length:=by simpa using hk
  have hm:S.getD k []∈S:=by simp[List.getD,List.getElem?_eq_getElem hk]
  have:=(A.2.2.2.2.mem hm).2.1
  exact this
 | f,r::S,A,j+1,k+1,hjk,hk=>by
  have:=zcP (S:=S) A.2.2.2.2 (j:=j) (k:=k) (by omega) (by simpa using hk)
  simpa[List.getD]using this
theorem bnd30(k:Nat)(h:k≤8):bnd k (10 ^ 30)+1≤2 ^ 900:=by
 have:=z63 (B:=10 ^ 30) h (by decide) (by decide)
 have e:bnd 8 (10 ^ 30)+1≤2 ^ 900:=by unfold bnd;decide
 omega
theorem zhn{r:Row}{B:Nat}(hB:0<B)(h:∀ x∈r,x.natAbs<B):Lt B r:=fun k=>by
 unfold at0 List.getD
 by_cases hk:k<r.length
 · rw[List.getElem?_eq_getElem hk]
   exact h _ (List.getElem_mem _)
 · rw[List.getElem?_eq_none (by omega)]
   exact hB
end St

end
section
local macro_rules|`(tactic| omega)=>`(tactic| first|lia|omega +splitDisjunctions)
set_option linter.all false
set_option maxRecDepth 100000
namespace St
open Lat
theorem Asc.tz{n f:Nat}{r:Row}{S:List Row}{w:Vec}(A:Asc n f (r::S))(hw:Span (vecs (r::S)) w)(z:w (z00 r)=0):Span (vecs S) w:=by
 obtain⟨c,q⟩:=hw
 have e:=A.coef q
 have c0:c=0:=by
  rw[z]at e
  rcases Int.mul_eq_zero.mp e.symm with h|h
  · exact h
  · have:=A.2.2.2.1;omega
 subst c0
 exact Span.congr (fun k=>by simp) q
theorem Asc.small0{n:Nat}:∀{f:Nat} {S:List Row} {u:Vec},Asc n f S→Span (vecs S) u→(∀ r∈S,0≤u (z00 r)∧u (z00 r)<hd r)→∀ k,u k=0
 | f,[],u,_,s,_=>s
 | f,r::S,u,A,s,h=>by
  have hr:=h r List.mem_cons_self
  have z:u (z00 r)=0:=by
   obtain⟨c,q⟩:=s
   have e:=A.coef q
   have c0:c=0:=z3j e A.2.2.2.1 (by omega) hr.2
   rw[e,c0];simp
  exact A.2.2.2.2.small0 (A.tz s z) fun x hx=>h x (List.mem_cons_of_mem _ hx)
def zgm(n:Nat):Row:=List.replicate n 0
theorem zho(n k:Nat):at0 (zgm n) k=0:=by
 unfold at0 zgm List.getD
 rw[List.getElem?_replicate]
 split<;>rfl
theorem zcQ{R:List Row}(c:List Int):Span (vecs R) (mix R c):=z62 fun r hr=>z0e hr
theorem zgn{n:Nat}:∀{R:List Row} {c:List Int},(∀ r∈R,r.length=n)→∀ k,n≤k→mix R c k=0
 | [],c,_,k,_=>by simp[mix]
 | r::R,[],_,k,_=>by simp[mix]
 | r::R,x::c,h,k,hk=>by
  show x*at0 r k+mix R c k=0
  rw[zgn (fun y hy=>h y (List.mem_cons_of_mem _ hy)) k hk,z1i (by rw[h r List.mem_cons_self];exact hk)];simp
abbrev Ab(a b:Row):Prop:=0≤at0 a (z00 b)∧at0 a (z00 b)<hd b
theorem z8t{n:Nat}:∀{f:Nat} {S:List Row},Asc n f S→(Form f (z0w S)↔S.Pairwise Ab)
 | f,[],_=>by simp[z0w,Form]
 | f,r::S,A=>by
  have ih:=z8t A.2.2.2.2
  rw[List.pairwise_cons,←ih]
  constructor
  · intro F
    exact⟨fun b hb=>F.2.2.2.1 (z00 b,vec b) (List.mem_map.mpr ⟨b,hb,rfl⟩),F.2.2.2.2⟩
  · rintro⟨h1,h2⟩
    refine⟨A.2.1,fun k hk=>z0l r k hk,A.2.2.2.1,fun p hp=>?_,h2⟩
    obtain⟨b,hb,rfl⟩:=List.mem_map.mp hp
    exact h1 b hb
theorem zgo{n:Nat}:∀{S T:List Row},(∀ r∈S,r.length=n)→(∀ r∈T,r.length=n)→z0w S=z0w T→S=T
 | [],[],_,_,_=>rfl
 | [],t::T,_,_,h=>by simp[z0w]at h
 | s::S,[],_,_,h=>by simp[z0w]at h
 | s::S,t::T,hs,ht,h=>by
  have h:(z00 s,vec s)::z0w S=(z00 t,vec t)::z0w T:=h
  have h1:=(List.cons.inj h).1
  have h2:=(List.cons.inj h).2
  have e:s=t:=ext0 (by rw[hs s List.mem_cons_self,ht t List.mem_cons_self]) fun k=>congrFun (congrArg Prod.snd h1) k
  rw[e,zgo (fun r hr=>hs r (List.mem_cons_of_mem _ hr)) (fun r hr=>ht r (List.mem_cons_of_mem _ hr)) h2]
theorem zhp{n:Nat}{S T:List Row}(A:Asc n 0 S)(F:Form 0 (z0w S))(A':Asc n 0 T)(F':Form 0 (z0w T))(h:SameSpan (vecs S) (vecs T)):S=T:=by
 refine zgo (n:=n) (fun r hr=>(A.mem hr).1) (fun r hr=>(A'.mem hr).1) (Form.unique F F' ?_)
 rw[z9Q,z9Q];exact h
theorem z7I{n:Nat}{a b:Row}(h:a.length=n)(k:Nat):at0 (a++b) k=if k<n then at0 a k else at0 b (k-n):=by
 subst h
 unfold at0 List.getD
 rw[List.getElem?_append]
 split<;>rfl
theorem z1y(r:Row)(n k:Nat):at0 (r.take n) k=if k<n then at0 r k else 0:=by
 unfold at0 List.getD
 rw[List.getElem?_take]
 split<;>rfl
theorem z4n(r:Row)(n k:Nat):at0 (r.drop n) k=at0 r (n+k):=by
 unfold at0 List.getD
 rw[List.getElem?_drop]
def z2X(m j:Nat):Row:=(List.range m).map fun k=>if k=j then 1 else 0
theorem zhq(m j:Nat):(z2X m j).length=m:=by unfold z2X;simp
theorem zbP(m j k:Nat):at0 (z2X m j) k=if k=j∧k<m then 1 else 0:=by
 unfold at0 z2X List.getD
 rw[List.getElem?_map]
 by_cases hk:k<m
 · rw[List.getElem?_range hk];simp[hk]
 · rw[List.getElem?_eq_none (by simpa using hk)];simp[hk]
def tagF(m:Nat):Nat→List Row→List Row
 | _,[]=>[]
 | s,b::bs=>(b++z2X m s)::tagF m (s+1) bs
abbrev z6K(bills:List Row):List Row:=tagF bills.length 0 bills
theorem z66(m:Nat):∀(s:Nat) (bs:List Row),(tagF m s bs).length=bs.length
 | s,[]=>rfl
 | s,b::bs=>by rw[tagF,List.length_cons,List.length_cons,z66]
theorem zbQ(m:Nat):∀{s:Nat} {bs:List Row} {b:Row},b∈bs→∃ j,b++z2X m j∈tagF m s bs
 | s,_::bs,b,.head _=>⟨s,List.mem_cons_self⟩
 | s,_::bs,b,.tail _ h=>by
  obtain⟨j,hj⟩:=zbQ m (s:=s+1) h
  exact⟨j,List.mem_cons_of_mem _ hj⟩
theorem z4o{n m:Nat}:∀{s:Nat} {bs:List Row} {c:List Int} {k:Nat},(∀ b∈bs,b.length=n)→k<n→mix (tagF m s bs) c k=mix bs c k
 | s,[],c,k,_,_=>by simp[tagF,mix]
 | s,b::bs,[],k,_,_=>by simp[tagF,mix]
 | s,b::bs,x::c,k,h,hk=>by
  show x*at0 (b++z2X m s) k+mix (tagF m (s+1) bs) c k=x*at0 b k+mix bs c k
  rw[z4o (fun y hy=>h y (List.mem_cons_of_mem _ hy)) hk,z7I (h b List.mem_cons_self),if_pos hk]
theorem z67{n m:Nat}:∀{s:Nat} {bs:List Row} {c:List Int} {i:Nat},(∀ b∈bs,b.length=n)→c.length=bs.length→s+bs.length≤m→mix (tagF m s bs) c (n+i)=if s≤i∧i<s+bs.length then at0 c (i-s) else 0
 | s,[],[],i,_,_,_=>by simp[tagF,mix];intros;omega
 | s,b::bs,x::c,i,h,hl,hs=>by
  have ih:=z67 (n:=n) (m:=m) (s:=s+1) (bs:=bs) (c:=c) (i:=i) (fun y hy=>h y (List.mem_cons_of_mem _ hy)) (by simpa using hl) (by simp at hs;omega)
  show x*at0 (b++z2X m s) (n+i)+mix (tagF m (s+1) bs) c (n+i)=_
  rw[ih,z7I (h b List.mem_cons_self),if_neg (by omega),zbP,show n+i-n=i by omega]
  have hlen:(b::bs).length=bs.length+1:=rfl
  rw[hlen]
  have hm:s<m:=by simp at hs;omega
  by_cases h1:i=s
  · subst h1
    rw[if_pos ⟨rfl,hm⟩,if_neg (by omega),if_pos (by omega)]
    simp[at0]
  · rw[if_neg (by omega)]
    by_cases h2:s+1≤i∧i<s+1+bs.length
    · rw[if_pos h2,if_pos (by omega)]
      have:i-s=(i-(s+1))+1:=by omega
      rw[this]
      simp[at0]
    · rw[if_neg h2,if_neg (by omega)];simp
theorem z8u{n:Nat}{bills:List Row}{c:List Int}(h:∀ b∈bills,b.length=n)(hl:c.length=bills.length)(i:Nat):mix (z6K bills) c (n+i)=at0 c i:=by
 rw[z67 h hl (by omega)]
 split
 · simp
 · rw[z1i (by omega)]
theorem z8v{n:Nat}{bills:List Row}(h:∀ b∈bills,b.length=n):Ind (z6K bills):=fun c hl hz x hx=>by
 rw[z66]at hl
 obtain⟨i,hi,e⟩:=List.mem_iff_getElem.mp hx
 have:=hz (n+i)
 rw[z8u h hl]at this
 rw[←e]
 simpa[at0,List.getD,List.getElem?_eq_getElem hi]using this
theorem ziP{n:Nat}{bills:List Row}{u:Row}(h:∀ b∈bills,b.length=n)(hu:u.length=n+bills.length):Span (vecs (z6K bills)) (fun k=>at0 u k)↔∀ k,k<n→at0 u k=mix bills (u.drop n) k:=by
 have hd:(u.drop n).length=bills.length:=by rw[List.length_drop];omega
 constructor
 · intro s k hk
   obtain⟨c,hc,e⟩:=z4m s
   rw[z66]at hc
   have:c=u.drop n:=ext0 (by rw[hc,hd]) fun i=>by
     rw[z4n,←z8u h hc i]
     exact(e (n+i)).symm
   have e1:=e k
   rw[z4o h hk,this]at e1
   exact e1
 · intro q
   refine Span.congr (fun k=>?_) (zcQ (u.drop n))
   by_cases hk:k<n
   · rw[z4o h hk,q k hk]
   · have:k=n+(k-n):=by omega
     rw[this,z8u h hd,z4n]
theorem z8w{N n:Nat}:∀{f:Nat} {S:List Row},Asc N f S→S=S.filter (fun r=>decide (z00 r<n))++S.filter (fun r=>!decide (z00 r<n))
 | f,[],_=>rfl
 | f,r::S,A=>by
  have ih:=z8w (n:=n) A.2.2.2.2
  by_cases h:z00 r<n
  · rw[List.filter_cons,List.filter_cons]
    simp only[h,decide_true,if_true,Bool.not_true,Bool.false_eq_true,if_false]
    rw[List.cons_append,←ih]
  · have e:S.filter (fun r=>decide (z00 r<n))=[]:=List.filter_eq_nil_iff.mpr fun x hx=>by have:=(A.2.2.2.2.mem hx).2.1;simp;omega
    rw[e,List.nil_append]at ih
    rw[List.filter_cons,List.filter_cons]
    simp only[h,decide_false,Bool.not_false,if_true,Bool.false_eq_true,if_false]
    rw[e,List.nil_append,←ih]
def tops(n:Nat)(S:List Row):List Row:=(S.filter fun r=>decide (z00 r<n)).map (·.take n)
def bots(n:Nat)(S:List Row):List Row:=(S.filter fun r=>!decide (z00 r<n)).map (·.drop n)
theorem z6L{r:Row}{n:Nat}(h:z00 r<n)(hl:z00 r<r.length):z00 (r.take n)=z00 r:=z2d _ _ (fun k hk=>by rw[z1y,if_pos (by omega)];exact z0l r k hk) (by rw[z1y,if_pos h];exact z60 r hl)
section
variable {n N:Nat}{S:List Row}
theorem z68(A:Asc N 0 S)(hN:n≤N):Asc n 0 (tops n S)∧(tops n S).length=(S.filter fun r=>decide (z00 r<n)).length:=by
 have Q:=Asc.iff.mp A
 refine⟨Asc.iff.mpr ⟨fun x hx=>?_,?_⟩,by unfold tops;simp⟩
 · obtain⟨r,hr,rfl⟩:=List.mem_map.mp hx
   obtain⟨hr,hd'⟩:=List.mem_filter.mp hr
   have hd':z00 r<n:=by simpa using hd'
   have q:=Q.1 r hr
   have e:=z6L hd' (by omega)
   refine⟨by rw[List.length_take];omega,Nat.zero_le _,by rw[e];exact hd',?_⟩
   unfold hd
   rw[e,z1y,if_pos hd']
   exact q.2.2.2
 · have e:(tops n S).map z00=(S.filter fun r=>decide (z00 r<n)).map z00:=by
    unfold tops
    rw[List.map_map]
    apply List.map_congr_left
    intro r hr
    obtain⟨hr,hd'⟩:=List.mem_filter.mp hr
    exact z6L (by simpa using hd') (by have:=Q.1 r hr;omega)
   rw[e]
   exact Q.2.sublist (List.filter_sublist.map _)
theorem z6M(A:Asc N 0 S)(F:Form 0 (z0w S))(hN:n≤N):Form 0 (z0w (tops n S)):=by
 have Q:=Asc.iff.mp A
 rw[z8t (z68 A hN).1]
 have P:=(z8t A).mp F
 unfold tops
 rw[List.pairwise_map]
 refine List.Pairwise.imp_of_mem (fun{a b} ha hb h=>?_) (P.sublist List.filter_sublist)
 obtain⟨hb,hd'⟩:=List.mem_filter.mp hb
 have hd':z00 b<n:=by simpa using hd'
 have e:=z6L hd' (by have:=Q.1 b hb;omega)
 unfold Ab hd at *
 rw[e,z1y,if_pos hd',z1y,if_pos hd']
 exact h
theorem z6N(A:Asc N 0 S){v:Vec}(s:Span (vecs S) v):Span (vecs (tops n S)) (fun k=>if k<n then v k else 0):=by
 refine Span.least (P:=fun v=>Span (vecs (tops n S)) (fun k=>if k<n then v k else 0)) ?_ (fun v w hv hw=>?_) (fun c v hv=>?_) (fun x hx=>?_) s
 · exact Span.congr (fun k=>by split<;>rfl) Span.zero
 · exact Span.congr (fun k=>by split<;>rfl) (hv.add hw)
 · refine Span.congr (fun k=>?_) (hv.smul c)
   split
   · rfl
   · simp
 · obtain⟨r,hr,rfl⟩:=List.mem_map.mp hx
   by_cases h:z00 r<n
   · have hm:r.take n∈tops n S:=List.mem_map.mpr ⟨r,List.mem_filter.mpr ⟨hr,by simpa using h⟩,rfl⟩
     exact Span.congr (fun k=>z1y r n k) (z0e hm)
   · refine Span.congr (fun k=>?_) Span.zero
     split
     · rw[show vec r k=0 from z0l r k (by omega)]
     · rfl
end
structure Tag(n:Nat)(bills S:List Row):Prop where
 wide:∀ b∈bills,b.length=n
 asc:Asc (n+bills.length) 0 S
 form:Form 0 (z0w S)
 span:SameSpan (vecs S) (vecs (z6K bills))
 full:S.length=bills.length
theorem Good.tag{n B:Nat}{bills S:List Row}(h:∀ b∈bills,b.length=n)(G:Good (n+bills.length) B (z6K bills) S):Tag n bills S :=
 ⟨h,G.asc,G.form,G.span,by rw[G.full (z8v h),z66]⟩
theorem Tag.rung{n:Nat}{bills S:List Row}(t:Tag n bills S){r:Row}(hr:r∈S):∀ k,k<n→at0 r k=mix bills (r.drop n) k :=
 (ziP t.wide (t.asc.mem hr).1).mp (t.span.iff.mp (z0e hr))
theorem Tag.top_span{n:Nat}{bills S:List Row}(t:Tag n bills S):SameSpan (vecs (tops n S)) (vecs bills):=z3T (fun x hx=>by
 obtain⟨r,hr,rfl⟩:=List.mem_map.mp hx
 obtain⟨hr,_⟩:=List.mem_filter.mp hr
 refine Span.congr (fun k=>?_) (zcQ (R:=bills) (r.drop n))
 rw[z1y]
 split
 · rename_i hk;exact(t.rung hr k hk).symm
 · rename_i hk;exact zgn t.wide k (by omega)) fun b hb=>by
 obtain⟨j,hj⟩:=zbQ bills.length (s:=0) hb
 have s:=z6N (n:=n) t.asc (t.span.iff.mpr (z0e hj))
 refine Span.congr (fun k=>?_) s
 rw[z7I (t.wide b hb)]
 by_cases hk:k<n
 · rw[if_pos hk,if_pos hk]
 · rw[if_neg hk,z1i (by rw[t.wide b hb];omega)]
theorem Tag.top{n:Nat}{bills S T:List Row}(t:Tag n bills S)(A:Asc n 0 T)(F:Form 0 (z0w T))(s:SameSpan (vecs T) (vecs bills)):tops n S=T :=
 zhp (z68 t.asc (by omega)).1 (z6M t.asc t.form (by omega)) A F (t.top_span.trans s.symm)
end St

end
section
local macro_rules|`(tactic| omega)=>`(tactic| first|lia|omega +splitDisjunctions)
set_option linter.all false
set_option maxRecDepth 100000
namespace St
open Lat
theorem z14{B:List Row}{i:Nat}(h:i<B.length):B.getD i []∈B:=by simp[List.getD,List.getElem?_eq_getElem h]
end St
namespace St
open Lat
theorem Asc.small{n:Nat}:∀{f:Nat} {S:List Row} {u:Vec},Asc n f S→Span (vecs S) u→(∀ r∈S,-(hd r)<u (z00 r)∧u (z00 r)<hd r)→∀ k,u k=0
 | f,[],u,_,s,_=>s
 | f,r::S,u,A,s,h=>by
  have hr:=h r List.mem_cons_self
  have z:u (z00 r)=0:=by
   obtain⟨c,q⟩:=s
   have e:=A.coef q
   have c0:c=0:=z3j e A.2.2.2.1 hr.1 hr.2
   rw[e,c0];simp
  exact A.2.2.2.2.small (A.tz s z) fun x hx=>h x (List.mem_cons_of_mem _ hx)
end St

end
section
set_option linter.all false
set_option maxRecDepth 100000
namespace St
open Lat
def sm:Nat→(Nat→Int)→Int
 | 0,_=>0
 | m+1,f=>f 0+sm m (fun k=>f (k+1))
theorem z0n:∀{m:Nat} {f g:Nat→Int},(∀ k,k<m→f k=g k)→sm m f=sm m g
 | 0,_,_,_=>rfl
 | m+1,f,g,h=>by rw[sm,sm,h 0 (by omega),z0n fun k hk=>h (k+1) (by omega)]
theorem z0x{m:Nat}{f:Nat→Int}(h:∀ k,k<m→f k=0):sm m f=0:=by
 rw[z0n h]
 induction m with
 | zero=>rfl
 | succ m ih=>rw[sm,ih fun k hk=>h k (by omega)];rfl
theorem z6O:∀(m:Nat) (f g:Nat→Int),sm m (fun k=>f k+g k)=sm m f+sm m g
 | 0,_,_=>rfl
 | m+1,f,g=>by rw[sm,sm,sm,z6O m];omega
theorem z2e(c:Int):∀(m:Nat) (f:Nat→Int),sm m (fun k=>c*f k)=c*sm m f
 | 0,_=>by simp[sm]
 | m+1,f=>by rw[sm,sm,z2e c m,Int.mul_add]
theorem zaQ(c:Int)(m:Nat)(f:Nat→Int):sm m (fun k=>f k*c)=sm m f*c:=by
 rw[Int.mul_comm,←z2e];exact z0n fun k _=>Int.mul_comm _ _
theorem z8x(m:Nat)(f g:Nat→Int):sm m (fun k=>f k-g k)=sm m f-sm m g:=by
 have:=z6O m f (fun k=>(-1)*g k)
 rw[z2e]at this
 rw[z0n (g:=fun k=>f k+(-1)*g k) fun k _=>by omega,this];omega
theorem z7J:∀(m p:Nat) (f:Nat→Nat→Int),sm m (fun i=>sm p (fun j=>f i j))=sm p (fun j=>sm m (fun i=>f i j))
 | 0,p,f=>by rw[sm];exact(z0x fun k _=>rfl).symm
 | m+1,p,f=>by rw[sm,z7J m p,←z6O];rfl
theorem z22:∀{m i:Nat} {f:Nat→Int},i<m→(∀ k,k<m→k≠i→f k=0)→sm m f=f i
 | m+1,0,f,_,z=>by rw[sm,z0x fun k hk=>z (k+1) (by omega) (by omega)];omega
 | m+1,i+1,f,h,z=>by rw[sm,z 0 (by omega) (by omega),z22 (i:=i) (by omega) fun k hk hn=>z (k+1) (by omega) (by omega)];omega
def ent(A:List Row)(i j:Nat):Int:=at0 (A.getD i []) j
theorem zm5(k:Nat):at0 [] k=0:=by simp[at0]
theorem z0K{A:List Row}{i:Nat}(h:A.length≤i)(j:Nat):ent A i j=0:=by
 unfold ent;rw[show A.getD i []=[] by simp[List.getD,List.getElem?_eq_none h],zm5]
theorem zaR{A:List Row}{m i j:Nat}(hl:∀ r∈A,r.length=m)(h:m≤j):ent A i j=0:=by
 by_cases hi:i<A.length
 · unfold ent;exact z1i (by rw[hl _ (z14 hi)];exact h)
 · exact z0K (by omega) j
theorem zbR(r:Row)(A:List Row)(i j:Nat):ent (r::A) (i+1) j=ent A i j:=rfl
theorem z15:∀{A:List Row} {v:Vec},Span (vecs A) v↔∃ c:Nat→Int,∀ k,v k=sm A.length (fun i=>c i*ent A i k)
 | [],v=>⟨fun h=>⟨fun _=>0,h⟩,fun⟨_,h⟩=>h⟩
 | r::A,v=>by
  constructor
  · rintro⟨c0,h⟩
    obtain⟨c,h⟩:=z15.mp h
    refine⟨fun i=>match i with|0=>c0|i+1=>c i,fun k=>?_⟩
    have:v k-c0*at0 r k=sm A.length (fun i=>c i*ent A i k):=h k
    rw[List.length_cons,sm]
    show v k=c0*at0 r k+sm A.length (fun i=>c i*ent A i k)
    omega
  · rintro⟨c,h⟩
    refine⟨c 0,z15.mpr ⟨fun i=>c (i+1),fun k=>?_⟩⟩
    have:=h k
    rw[List.length_cons,sm]at this
    show v k-c 0*at0 r k=sm A.length (fun i=>c (i+1)*ent A i k)
    have e:ent (r::A) 0 k=at0 r k:=rfl
    rw[e]at this
    simp only[zbR]at this
    omega
theorem z23{A:List Row}{i:Nat}(h:i<A.length):Span (vecs A) (fun k=>ent A i k):=z0e (z14 h)
def trn(m:Nat)(A:List Row):List Row:=(List.range m).map fun k=>A.map fun r=>at0 r k
theorem z0N(m:Nat)(A:List Row):(trn m A).length=m:=by simp[trn]
theorem z2F{m:Nat}{A:List Row}{r:Row}(h:r∈trn m A):r.length=A.length:=by
 obtain⟨k,_,rfl⟩:=List.mem_map.mp h;simp
theorem ziQ(m:Nat)(A:List Row)(k i:Nat):ent (trn m A) k i=if k<m then ent A i k else 0:=by
 by_cases h:k<m
 · rw[if_pos h]
   unfold ent trn at0
   rw[show((List.range m).map fun k=>A.map fun r=>r.getD k 0).getD k []=A.map fun r=>r.getD k 0 by simp[List.getD,h]]
   by_cases hi:i<A.length
   · simp[List.getD,List.getElem?_eq_getElem hi]
   · simp[List.getD,List.getElem?_eq_none (Nat.le_of_not_lt hi)]
 · rw[if_neg h,z0K (by rw[z0N];omega)]
theorem z1j{m:Nat}{A:List Row}(hl:∀ r∈A,r.length=m)(k i:Nat):ent (trn m A) k i=ent A i k:=by
 rw[ziQ];split
 · rfl
 · exact(zaR hl (by omega)).symm
theorem zm6{A B:List Row}{m:Nat}(h:A.length=B.length)(ha:∀ r∈A,r.length=m)(hb:∀ r∈B,r.length=m)(q:∀ i k,ent A i k=ent B i k):A=B:=by
 refine List.ext_getElem h fun i h1 h2=>?_
 have e1:A.getD i []=A[i]:=by simp[List.getD,List.getElem?_eq_getElem h1]
 have e2:B.getD i []=B[i]:=by simp[List.getD,List.getElem?_eq_getElem h2]
 refine ext0 (by rw[ha _ (List.getElem_mem h1),hb _ (List.getElem_mem h2)]) fun k=>?_
 have:=q i k
 unfold ent at this
 rw[e1,e2]at this;exact this
theorem zm7{m p:Nat}{A:List Row}(hl:∀ r∈A,r.length=m)(hp:A.length=p):trn p (trn m A)=A:=by
 refine zm6 (m:=m) (by rw[z0N,hp]) (fun r hr=>by rw[z2F hr,z0N]) hl fun i k=>?_
 rw[z1j (fun r hr=>by rw[z2F hr,hp]),z1j hl]
structure Sq(r:Nat)(A:List Row):Prop where
 asc:Asc r 0 A
 form:Form 0 (z0w A)
 len:A.length=r
theorem z9S{n:Nat}:∀{f:Nat} {S:List Row} {i:Nat},Asc n f S→i<S.length→f+i≤z00 (S.getD i [])∧z00 (S.getD i [])+(S.length-i)≤n
 | f,r::S,0,⟨h1,h2,h3,h4,h5⟩,_=>by
  have:=z64 h5 (by omega)
  show f+0≤z00 r∧z00 r+(S.length+1-0)≤n
  omega
 | f,r::S,i+1,⟨h1,h2,h3,h4,h5⟩,h=>by
  obtain⟨a,b⟩:=z9S (i:=i) h5 (by simpa using h)
  have e:(r::S).getD (i+1) []=S.getD i []:=rfl
  rw[e,List.length_cons]
  omega
variable {r:Nat}{A:List Row}
theorem Sq.rows(q:Sq r A):∀ x∈A,x.length=r:=fun x hx=>(q.asc.mem hx).1
theorem Sq.head(q:Sq r A){i:Nat}(hi:i<r):z00 (A.getD i [])=i:=by
 have:=z9S q.asc (i:=i) (by rw[q.len];exact hi)
 have:=q.len
 omega
theorem Sq.pos(q:Sq r A){i:Nat}(hi:i<r):0<ent A i i:=by
 have:=(z65 q.asc (k:=i) (by rw[q.len];exact hi)).2.2.2
 unfold hd at this
 rw[q.head hi]at this
 exact this
theorem Sq.low(q:Sq r A){i j:Nat}(h:j<i):ent A i j=0:=by
 by_cases hi:i<r
 · exact z0l _ _ (by rw[q.head hi];exact h)
 · exact z0K (by rw[q.len];omega) j
theorem Sq.red(q:Sq r A){i j:Nat}(h:i<j)(hj:j<r):0≤ent A i j∧ent A i j<ent A j j:=by
 have:=z8s q.form (j:=i) (k:=j) h (by rw[q.len];exact hj)
 unfold hd at this
 rw[q.head hj]at this
 exact this
theorem Sq.far(q:Sq r A){i j:Nat}(h:r≤j):ent A i j=0:=zaR q.rows h
theorem zaS{n:Nat}:∀{f:Nat} {S:List Row} {v:Vec} {x:Row},Asc n f S→Span (vecs S) v→(∀ k,k<z00 x→v k=0)→x∈S→hd x∣v (z00 x)
 | f,r::S,v,x,A,⟨c,s⟩,z,hx=>by
  have e:=A.coef s
  rcases List.mem_cons.mp hx with rfl|hx
  · exact⟨c,by rw[e];exact Int.mul_comm _ _⟩
  · have hh:=(A.2.2.2.2.mem hx).2.1
    have e0:=z (z00 r) (by omega)
    have hp:=A.2.2.2.1
    have hc:c=0:=by
     rw[e0]at e
     rcases Int.mul_eq_zero.mp e.symm with h|h
     · exact h
     · omega
    subst hc
    exact zaS A.2.2.2.2 (Span.congr (fun k=>by simp) s) z hx
theorem Sq.dvd(q:Sq r A){v:Vec}{i:Nat}(hi:i<r)(s:Span (vecs A) v)(z:∀ k,k<i→v k=0):ent A i i∣v i:=by
 have h:=zaS q.asc s (x:=A.getD i []) (fun k hk=>z k (by rw[q.head hi]at hk;exact hk)) (z14 (by rw[q.len];exact hi))
 unfold hd at h
 rw[q.head hi]at h
 exact h
abbrev pt(i:Nat)(d:Int):Vec:=fun k=>if k=i then d else 0
theorem Sq.clean(q:Sq r A){i:Nat}{d:Int}(hi:i<r)(hd:0<d)(h1:Span (vecs A) (pt i d))(h2:∀ y,Span (vecs A) y→d∣y i):∀ k,ent A i k=pt i d k:=by
 have a:=q.dvd hi h1 fun k hk=>by simp[pt];omega
 have b:=h2 _ (z23 (by rw[q.len];exact hi))
 have e:ent A i i=d:=Int.dvd_antisymm (Int.le_of_lt (q.pos hi)) (Int.le_of_lt hd) (by simpa[pt]using a) b
 have u:Span (vecs A) (fun k=>ent A i k-pt i d k):=(z23 (by rw[q.len];exact hi)).sub h1
 have z:=Asc.small0 q.asc u fun x hx=>by
  obtain⟨j,hj,rfl⟩:=List.getElem_of_mem hx
  have ej:A[j]=A.getD j []:=by simp[List.getD,List.getElem?_eq_getElem hj]
  rw[q.len]at hj
  have hp:=q.pos hj
  unfold St.hd
  rw[ej,q.head hj]
  show 0≤ent A i j-pt i d j∧ent A i j-pt i d j<ent A j j
  rcases Nat.lt_trichotomy j i with h|h|h
  · rw[q.low h];simp only[pt];rw[if_neg (by omega)];omega
  · subst h;simp only[pt,if_true];omega
  · have:=q.red h hj;simp only[pt];rw[if_neg (by omega)];omega
 intro k
 have:=z k
 omega
def Clean(t:Nat)(A:List Row):Prop:=∀ i,i<t→∀ k,k≠i→ent A i k=0
theorem z2r{y:Vec}(hl:∀ x∈A,x.length=r):Span (vecs (trn r A)) y↔∃ c:Nat→Int,∀ k,y k=sm r (fun j=>c j*ent A k j):=by
 rw[z15]
 simp only[z0N,z1j hl]
theorem Clean.dvd(q:Sq r A){t i:Nat}(c:Clean t A)(hi:i<t){y:Vec}(s:Span (vecs (trn r A)) y):ent A i i∣y i:=by
 by_cases hr:i<r
 · obtain⟨c',h⟩:=(z2r q.rows).mp s
   rw[h i,z22 hr fun k _ hn=>by rw[c i hi k hn];simp]
   exact⟨c' i,Int.mul_comm _ _⟩
 · rw[q.far (by omega)]
   obtain⟨c',h⟩:=(z2r q.rows).mp s
   rw[h i,z0x fun k hk=>by rw[c i hi k (by omega)];simp]
   exact⟨0,rfl⟩
theorem Clean.col(q:Sq r A){t:Nat}(c:Clean t A){i:Nat}(hi:i≤t)(hr:i<r):Span (vecs (trn r A)) (pt i (ent A i i)):=by
 refine Span.congr (fun k=>?_) (z23 (A:=trn r A) (i:=i) (by rw[z0N];exact hr))
 rw[z1j q.rows]
 simp only[pt]
 by_cases h:k=i
 · subst h;rw[if_pos rfl]
 · rw[if_neg h]
   by_cases hk:k<i
   · exact c k (by omega) i (by omega)
   · exact q.low (by omega)
theorem half{X Y:List Row}{t:Nat}(x:Sq r X)(y:Sq r Y)(s:SameSpan (vecs Y) (vecs (trn r X)))(c:Clean t X)(ht:t≤r):
   Clean t Y∧(∀ i,i<t→ent Y i i=ent X i i)∧(t<r→ent Y t t∣ent X t t∧(ent Y t t=ent X t t→Clean (t+1) Y)):=by
 have key:∀ i,i<t→∀ k,ent Y i k=pt i (ent X i i) k:=fun i hi=>y.clean (by omega) (x.pos (by omega)) (s.iff.mpr (c.col x (by omega) (by omega))) fun v hv=>c.dvd x hi (s.iff.mp hv)
 have cl:Clean t Y:=fun i hi k hn=>by rw[key i hi];simp[pt,hn]
 refine⟨cl,fun i hi=>by rw[key i hi];simp[pt],fun h=>?_⟩
 have sp:=s.iff.mpr (c.col x (Nat.le_refl t) h)
 have d:=y.dvd h sp fun k hk=>by simp[pt];omega
 simp only[pt,if_true]at d
 refine⟨d,fun e=>?_⟩
 have k2:=y.clean (i:=t) (d:=ent X t t) h (x.pos h) sp fun v hv=>by
   obtain⟨c',hc⟩:=z15.mp hv
   rw[hc t,y.len,z22 h fun k hk hn=>?_]
   · rw[e];exact⟨c' t,Int.mul_comm _ _⟩
   · rcases Nat.lt_or_gt_of_ne hn with hlt|hgt
     · rw[cl k hlt t (by omega)];simp
     · rw[y.low hgt];simp
 intro i hi k hn
 by_cases ht:i<t
 · exact cl i ht k hn
 · have:i=t:=by omega
   subst this
   rw[k2];simp[pt,hn]
theorem zbS{X Y Z:List Row}{t:Nat}(x:Sq r X)(y:Sq r Y)(z:Sq r Z)(s:SameSpan (vecs Y) (vecs (trn r X)))(s':SameSpan (vecs Z) (vecs (trn r Y)))(c:Clean t X)(ht:t<r):
   Clean t Z∧(Clean (t+1) Z∨ent Z t t<ent X t t):=by
 obtain⟨a1,a2,a3⟩:=half x y s c (by omega)
 obtain⟨b1,b2,b3⟩:=half y z s' a1 (by omega)
 obtain⟨a4,a5⟩:=a3 ht
 obtain⟨b4,b5⟩:=b3 ht
 have xp:=x.pos ht
 have yp:=y.pos ht
 have zp:=z.pos ht
 have l1:=Int.le_of_dvd xp a4
 have l2:=Int.le_of_dvd yp b4
 refine⟨b1,?_⟩
 by_cases e:ent Z t t=ent X t t
 · left
   have cy:=a5 (by omega)
   obtain⟨d1,_,_⟩:=half y z s' cy (by omega)
   exact d1
 · right;omega
def z24(r:Nat)(w:Int)(A:List Row):Prop:=∀ i,i<r→Span (vecs A) (pt i w)
theorem Sq.comm(q:Sq r A){w:Int}(h:z24 r w A):z24 r w (trn r A):=by
 have hM:∃ M:Nat→Nat→Int,∀ i,i<r→∀ k,pt i w k=sm r (fun j=>M i j*ent A j k):=by
   have:∀ i,∃ c:Nat→Int,i<r→∀ k,pt i w k=sm r (fun j=>c j*ent A j k):=fun i=>by
     by_cases hi:i<r
     · obtain⟨c,hc⟩:=z15.mp (h i hi)
       rw[q.len]at hc
       exact⟨c,fun _=>hc⟩
     · exact⟨fun _=>0,fun h=>absurd h hi⟩
   exact⟨fun i=>Classical.choose (this i),fun i hi=>Classical.choose_spec (this i) hi⟩
 obtain⟨M,hM⟩:=hM
 have indep:∀ z:Nat→Int,(∀ k,k<r→sm r (fun j=>z j*ent A j k)=0)→∀ j,j<r→z j=0:=fun z hz j=>by
   induction j using Nat.strongRecOn with
   | ind j ih =>
     intro hj
     have e:=hz j hj
     rw[z22 hj fun k hk hn=>?_]at e
     · rcases Int.mul_eq_zero.mp e with h|h
       · exact h
       · have:=q.pos hj;omega
     · rcases Nat.lt_or_gt_of_ne hn with h|h
       · rw[ih k h hk];simp
       · rw[q.low h];simp
 intro i hi
 refine(z2r q.rows).mpr ⟨fun j=>M j i,fun k=>?_⟩
 by_cases hk:k<r
 · have:=indep (fun i=>sm r (fun j=>M j i*ent A k j)-pt i w k) (fun m hm=>?_) i hi
   · have hs:pt i w k=pt k w i:=by simp only[pt];split<;>split<;>first|rfl|omega
     show pt i w k=sm r (fun j=>M j i*ent A k j)
     rw[hs]
     have this:sm r (fun j=>M j i*ent A k j)-pt i w k=0:=this
     omega
   · rw[z0n (g:=fun i=>sm r (fun j=>(ent A k j*(M j i*ent A i m)))-pt i w k*ent A i m) fun i _=>?_]
     · rw[z8x,z7J,z0n (g:=fun j=>ent A k j*pt j w m) fun j hj=>?_]
       · rw[z22 (i:=m) hm fun j _ hn=>by simp only[pt];rw[if_neg (by omega)];simp]
         rw[z22 (i:=k) hk fun j _ hn=>by simp only[pt];rw[if_neg (by omega)];simp]
         simp only[pt,if_true]
         rw[Int.mul_comm];omega
       · rw[z2e,←hM j hj m]
     · rw[Int.sub_mul,←zaQ]
       congr 1
       exact z0n fun j _=>by rw[Int.mul_comm (M j i),Int.mul_assoc]
 · have:pt i w k=0:=by simp only[pt];rw[if_neg (by omega)]
   rw[show(pt i w) k=0 from this,z0x fun j _=>by rw[z0K (A:=A) (i:=k) (by rw[q.len];omega)];simp]
theorem Sq.whole(q:Sq r A){w:Int}(h:z24 r w A){i:Nat}(hi:i<r):ent A i i∣w:=by
 have:=q.dvd hi (h i hi) fun k hk=>by simp[pt];omega
 simpa[pt]using this
end St

end
section
set_option linter.all false
set_option maxRecDepth 100000
namespace St
open Lat
theorem ziR:∀{m k:Nat} {f:Nat→Int},k≤m→(∀ i,k≤i→i<m→f i=0)→sm m f=sm k f
 | m,0,f,_,z=>z0x fun i hi=>z i (Nat.zero_le _) hi
 | m+1,k+1,f,h,z=>by rw[sm,sm,ziR (k:=k) (by omega) fun i h1 h2=>z (i+1) (by omega) (by omega)]
theorem z69{m a:Nat}{c:Nat→Int}{D:Nat→Nat→Int}(hd:∀ l,l<m→D l l≠0)(hl:∀ l j,l<j→j<m→D l j=0)(h:∀ j,a≤j→j<m→sm m (fun l=>c l*D l j)=0):
  ∀ d l,l+d=m→a≤l→l<m→c l=0:=fun d=>by
 induction d using Nat.strongRecOn with
 | ind d ih =>
  intro l e ha hm
  have q:=h l ha hm
  rw[z22 hm fun k hk hn=>?_]at q
  · rcases Int.mul_eq_zero.mp q with q|q
    · exact q
    · exact absurd q (hd l hm)
  · rcases Nat.lt_or_gt_of_ne hn with x|x
    · rw[hl k l x hm];simp
    · rw[ih (m-k) (by omega) k (by omega) (by omega) hk];simp
theorem z8y{P:List Row}{k i:Nat}(h:i<k)(j:Nat):ent (P.take k) i j=ent P i j:=by
 unfold ent;congr 1;simp[List.getD,List.getElem?_take,h]
structure Below(r N:Nat)(w:Int)(P:List Row):Prop where
 len:P.length=r
 wid:r≤N
 rows:∀ x∈P,x.length=N
 pos:∀ i,i<r→ent P i i≠0
 low:∀ i j,i<j→j<r→ent P i j=0
 whole:∀ i,i<r→∃ v:Vec,Span (vecs P) v∧v i=w∧∀ k,k<r→k≠i→v k=0
theorem Below.heads{r N:Nat}{w:Int}{P S:List Row}(B:Below r N w P){k:Nat}(hk:k≤r)(A:Asc N 0 S)(s:SameSpan (vecs S) (vecs (P.take k))){x:Row}(hx:x∈S):z00 x<k∧hd x∣w:=by
 have kl:(P.take k).length=k:=by rw[List.length_take,B.len];omega
 obtain⟨c,hc⟩:=z15.mp (s.iff.mp (z0e hx))
 rw[kl]at hc
 have hh:z00 x<k:=by
  refine Nat.lt_of_not_le fun hge=>?_
  have z:=z69 (m:=k) (a:=0) (c:=c) (D:=fun l j=>ent P l j) (fun l hl=>B.pos l (by omega)) (fun l j h1 h2=>B.low l j h1 (by omega)) (fun j _ hj=>by
   have:=hc j
   rw[z0n (g:=fun l=>c l*ent P l j) fun l hl=>by rw[z8y hl]]at this
   rw[←this]
   exact z0l x j (by omega))
  have:=(A.mem hx).2.2.2
  unfold hd at this
  have e:=hc (z00 x)
  rw[z0x fun l hl=>by rw[z (k-l) l (by omega) (by omega) hl];simp]at e
  omega
 refine⟨hh,?_⟩
 obtain⟨v,v1,v2,v3⟩:=B.whole (z00 x) (by omega)
 obtain⟨d,hd'⟩:=z15.mp v1
 rw[B.len]at hd'
 have z:=z69 (m:=r) (a:=z00 x+1) (c:=d) (D:=fun l j=>ent P l j) B.pos B.low fun j h1 h2=>by rw[←hd' j];exact v3 j h2 (by omega)
 have sv:Span (vecs S) v:=s.iff.mpr (z15.mpr ⟨d,fun j=>by
  rw[hd' j,kl,ziR hk fun i h1 h2=>by rw[z (r-i) i (by omega) (by omega) h2];simp]
  exact z0n fun l hl=>by rw[z8y hl]⟩)
 have:=zaS A sv (x:=x) (fun j hj=>v3 j (by omega) (by omega)) hx
 rw[v2]at this
 exact this
structure Lin(F:Vec→Int):Prop where
 add:∀ u v:Vec,F (fun k=>u k+v k)=F u+F v
 smul:∀(c:Int) (u:Vec),F (fun k=>c*u k)=c*F u
theorem Lin.zero{F:Vec→Int}(h:Lin F):F (fun _=>0)=0:=by
 have:=h.smul 0 (fun _=>0);simpa using this
theorem Lin.sum{F:Vec→Int}(h:Lin F):∀(m:Nat) (c:Nat→Int) (R:Nat→Vec),F (fun k=>sm m (fun i=>c i*R i k))=sm m (fun i=>c i*F (R i))
 | 0,_,_=>h.zero
 | m+1,c,R=>by
  have:=h.sum m (fun i=>c (i+1)) (fun i=>R (i+1))
  rw[sm,←this,←h.smul,←h.add];rfl
theorem Lin.span{F:Vec→Int}(h:Lin F){P:List Row}{v:Vec}(z:∀ l,l<P.length→F (fun k=>ent P l k)=0)(s:Span (vecs P) v):F v=0:=by
 obtain⟨c,hc⟩:=z15.mp s
 rw[show v=fun k=>sm P.length (fun i=>c i*ent P i k)from funext hc,h.sum]
 exact z0x fun i hi=>by rw[z i hi];simp
theorem z9T{N:Nat}:∀{f:Nat} {S:List Row} {z:Nat→Int},Asc N f S→(∀ k,sm S.length (fun i=>z i*ent S i k)=0)→∀ i,i<S.length→z i=0
 | f,r::S,z,A,h,i,hi=>by
  have e:=h (z00 r)
  rw[List.length_cons,sm,z0x fun k hk=>?_]at e
  · have z0:z 0=0:=by
     have p:=A.2.2.2.1
     have e:z 0*hd r+0=0:=e
     rcases Int.mul_eq_zero.mp (show z 0*hd r=0 by omega)with q|q
     · exact q
     · omega
    match i,hi with
    | 0,_=>exact z0
    | i+1,hi =>
     refine z9T (z:=fun i=>z (i+1)) A.2.2.2.2 (fun k=>?_) i (by simpa using hi)
     have e:=h k
     rw[List.length_cons,sm,z0]at e
     have e:0*ent (r::S) 0 k+sm S.length (fun i=>z (i+1)*ent S i k)=0:=e
     omega
  · rw[zbR]
    have:=(A.2.2.2.2.mem (z14 hk)).2.1
    rw[show ent S k (z00 r)=0 from z0l _ _ (by omega)];simp
theorem lift{N:Nat}{P S:List Row}(s:SameSpan (vecs P) (vecs S))(A:Asc N 0 S)(ζ:Nat→Int):
  ∃ z:Nat→Int,∀ F,Lin F→(∀ l,l<P.length→F (fun k=>ent P l k)=z l)→∀ i,i<S.length→F (fun k=>ent S i k)=ζ i:=by
 have hU:∀ i,∃ c:Nat→Int,i<S.length→∀ k,ent S i k=sm P.length (fun l=>c l*ent P l k):=fun i=>by
  by_cases hi:i<S.length
  · obtain⟨c,hc⟩:=z15.mp (s.iff.mpr (z23 hi));exact⟨c,fun _=>hc⟩
  · exact⟨fun _=>0,fun h=>absurd h hi⟩
 have hV:∀ i,∃ c:Nat→Int,i<P.length→∀ k,ent P i k=sm S.length (fun l=>c l*ent S l k):=fun i=>by
  by_cases hi:i<P.length
  · obtain⟨c,hc⟩:=z15.mp (s.iff.mp (z23 hi));exact⟨c,fun _=>hc⟩
  · exact⟨fun _=>0,fun h=>absurd h hi⟩
 obtain⟨U,hU⟩:∃ U:Nat→Nat→Int,∀ i,i<S.length→∀ k,ent S i k=sm P.length (fun l=>U i l*ent P l k):=⟨fun i=>Classical.choose (hU i),fun i=>Classical.choose_spec (hU i)⟩
 obtain⟨V,hV⟩:∃ V:Nat→Nat→Int,∀ i,i<P.length→∀ k,ent P i k=sm S.length (fun l=>V i l*ent S l k):=⟨fun i=>Classical.choose (hV i),fun i=>Classical.choose_spec (hV i)⟩
 have key:∀ i,i<S.length→∀ m,m<S.length→sm P.length (fun l=>U i l*V l m)=if m=i then 1 else 0:=fun i hi m hm=>by
  have:=z9T (z:=fun m=>sm P.length (fun l=>U i l*V l m)-if m=i then 1 else 0) A (fun k=>?_) m hm
  · have this:sm P.length (fun l=>U i l*V l m)-(if m=i then 1 else 0)=0:=this
    omega
  · rw[z0n (g:=fun m=>sm P.length (fun l=>U i l*(V l m*ent S m k))-(if m=i then 1 else 0)*ent S m k) fun m _=>?_]
    · rw[z8x,z7J,z0n (g:=fun l=>U i l*ent P l k) fun l hl=>by rw[z2e,←hV l hl k],←hU i hi k,z22 hi fun m _ hn=>by rw[if_neg hn];simp]
      simp
    · rw[Int.sub_mul,←zaQ]
      congr 1
      exact z0n fun l _=>by rw[Int.mul_assoc]
 refine⟨fun l=>sm S.length (fun m=>V l m*ζ m),fun F h hF i hi=>?_⟩
 rw[show(fun k=>ent S i k)=fun k=>sm P.length (fun l=>U i l*ent P l k)from funext (hU i hi),h.sum P.length (U i) (fun l k=>ent P l k)]
 rw[z0n (g:=fun l=>sm S.length (fun m=>U i l*V l m*ζ m)) fun l hl=>by rw[hF l hl,←z2e];exact z0n fun m _=>(Int.mul_assoc _ _ _).symm]
 rw[z7J,z0n (g:=fun m=>(if m=i then 1 else 0)*ζ m) fun m hm=>by rw[zaQ,key i hi m hm],z22 hi fun m _ hn=>by rw[if_neg hn];simp]
 simp
def fun_(r n:Nat)(c b v:Vec):Int:=sm n (fun k=>v (r+k)*b k)-sm r (fun j=>c j*v j)
theorem z7K(r n:Nat)(c b:Vec):Lin (fun_ r n c b) where
 add u v:=by
  unfold fun_
  rw[z0n (g:=fun k=>u (r+k)*b k+v (r+k)*b k) fun k _=>Int.add_mul _ _ _,z6O,z0n (m:=r) (g:=fun j=>c j*u j+c j*v j) fun k _=>Int.mul_add _ _ _,z6O]
  omega
 smul a u:=by
  unfold fun_
  rw[z0n (g:=fun k=>a*(u (r+k)*b k)) fun k _=>Int.mul_assoc _ _ _,z2e,z0n (m:=r) (g:=fun j=>a*(c j*u j)) fun k _=>by rw[←Int.mul_assoc,Int.mul_comm (c k),Int.mul_assoc],z2e,Int.mul_sub]
def EqP(r n:Nat)(P:List Row)(b:Vec):Prop:=∃ c:Vec,∀ l,l<P.length→fun_ r n c b (fun k=>ent P l k)=0
theorem EqP.same{r n:Nat}{P S:List Row}{b:Vec}(s:SameSpan (vecs P) (vecs S)):EqP r n P b↔EqP r n S b :=
 ⟨fun⟨c,h⟩=>⟨c,fun l hl=>(z7K r n c b).span h (s.iff.mpr (z23 hl))⟩,fun⟨c,h⟩=>⟨c,fun l hl=>(z7K r n c b).span h (s.iff.mp (z23 hl))⟩⟩
end St

end
section
set_option linter.all false
set_option maxRecDepth 100000
namespace St
open Lat
def wts(n:Nat)(W:List Row)(b:Vec):Vec:=fun i=>sm n (fun k=>ent W i k*b k)
def pair(A W:List Row):List Row:=List.zipWith (·++·) A W
theorem z25{A W:List Row}(h:A.length=W.length):(pair A W).length=A.length:=by unfold pair;rw[List.length_zipWith];omega
theorem ziS{A W:List Row}{i:Nat}(h:i<A.length)(h':i<W.length):(pair A W).getD i []=A.getD i []++W.getD i []:=by
 simp[pair,List.getD,List.getElem?_zipWith,List.getElem?_eq_getElem h,List.getElem?_eq_getElem h']
theorem z4p{r n:Nat}{A W:List Row}(ha:∀ x∈A,x.length=r){i:Nat}(h:i<A.length)(h':i<W.length)(k:Nat):ent (pair A W) i k=if k<r then ent A i k else ent W i (k-r):=by
 unfold ent;rw[ziS h h',z7I (ha _ (z14 h))]
theorem z9U{r n:Nat}{A W:List Row}(ha:∀ x∈A,x.length=r)(hw:∀ x∈W,x.length=n):∀ x∈pair A W,x.length=r+n:=fun x hx=>by
 obtain⟨i,hi,rfl⟩:=List.getElem_of_mem hx
 simp only[pair,List.getElem_zipWith,List.length_append]
 rw[ha _ (List.getElem_mem _),hw _ (List.getElem_mem _)]
theorem z4q{r n:Nat}{A W:List Row}{b:Vec}(ha:∀ x∈A,x.length=r)(hl:A.length=W.length)(c:Vec)(l:Nat)(h:l<A.length):fun_ r n c b (fun k=>ent (pair A W) l k)=wts n W b l-sm r (fun j=>c j*ent A l j):=by
 unfold fun_ wts
 rw[z0n (g:=fun k=>ent W l k*b k) fun k _=>by show ent (pair A W) l (r+k)*b k=_;rw[z4p (n:=n) ha h (by omega),if_neg (by omega),show r+k-r=k by omega]]
 rw[z0n (m:=r) (g:=fun j=>c j*ent A l j) fun j hj=>by show c j*ent (pair A W) l j=_;rw[z4p (n:=n) ha h (by omega),if_pos hj]]
theorem zgp{r n:Nat}{A W:List Row}{b:Vec}(ha:∀ x∈A,x.length=r)(hl:A.length=W.length):EqP r n (pair A W) b↔Span (vecs (trn r A)) (wts n W b):=by
 rw[z2r ha]
 have e:=z4q (r:=r) (n:=n) (b:=b) ha hl
 constructor
 · rintro⟨c,h⟩
   refine⟨c,fun k=>?_⟩
   by_cases hk:k<A.length
   · have:=h k (by rw[z25 hl];exact hk)
     rw[e c k hk]at this;omega
   · rw[show wts n W b k=0 from z0x fun j _=>by rw[z0K (by omega)];simp]
     exact(z0x fun j _=>by rw[z0K (by omega)];simp).symm
 · rintro⟨c,h⟩
   refine⟨c,fun l hl'=>?_⟩
   rw[z25 hl]at hl'
   rw[e c l hl',h l];omega
theorem zcR{r:Nat}{w:Int}{B:List Row}(h:z24 r w B){u:Vec}(hu:∀ k,r≤k→u k=0):Span (vecs B) (fun k=>w*u k):=by
 have key:∀ m,m≤r→Span (vecs B) (fun k=>if k<m then w*u k else 0):=fun m=>by
   induction m with
   | zero=>intro _;exact Span.congr (fun k=>by simp) Span.zero
   | succ m ih =>
    intro hm
    refine Span.congr (fun k=>?_) ((ih (by omega)).add ((h m (by omega)).smul (u m)))
    by_cases e:k=m
    · subst e;rw[if_neg (by omega),if_pos (by omega)];simp[pt,Int.mul_comm]
    · simp only[pt,if_neg e]
      by_cases q:k<m
      · rw[if_pos q,if_pos (by omega)];simp
      · rw[if_neg q,if_neg (by omega)];simp
 refine Span.congr (fun k=>?_) (key r (Nat.le_refl _))
 by_cases q:k<r
 · rw[if_pos q]
 · rw[if_neg q,hu k (by omega)];simp
theorem zhr{r:Nat}{P:List Row}{v:Vec}(s:Span (vecs P) v):Span (vecs (P.map (·.take r))) (fun k=>if k<r then v k else 0):=by
 obtain⟨c,h⟩:=z15.mp s
 refine z15.mpr ⟨c,fun k=>?_⟩
 have e:∀ i,ent (P.map (·.take r)) i k=if k<r then ent P i k else 0:=fun i=>by
   by_cases hi:i<P.length
   · unfold ent
     rw[show(P.map (·.take r)).getD i []=(P.getD i []).take r by simp[List.getD,List.getElem?_eq_getElem hi],z1y]
   · rw[z0K (by simpa using Nat.le_of_not_lt hi),z0K (by omega)];simp
 rw[List.length_map]
 by_cases hk:k<r
 · rw[if_pos hk,h k];exact z0n fun i _=>by rw[e,if_pos hk]
 · rw[if_neg hk];exact(z0x fun i _=>by rw[e,if_neg hk];simp).symm
theorem z4Z{r:Nat}{P S:List Row}(s:SameSpan (vecs P) (vecs S)):SameSpan (vecs (P.map (·.take r))) (vecs (S.map (·.take r))):=by
 have one:∀{P S:List Row},SameSpan (vecs P) (vecs S)→∀ x∈P.map (·.take r),Span (vecs (S.map (·.take r))) (fun k=>at0 x k):=fun{P S} s x hx=>by
  obtain⟨y,hy,rfl⟩:=List.mem_map.mp hx
  exact Span.congr (fun k=>by rw[z1y]) (zhr (r:=r) (s.iff.mp (z0e hy)))
 exact z3T (one s) (one s.symm)
theorem z50{r:Nat}{A W:List Row}(ha:∀ x∈A,x.length=r)(hl:A.length=W.length):(pair A W).map (·.take r)=A:=by
 refine List.ext_getElem (by rw[List.length_map,z25 hl]) fun i h1 h2=>?_
 simp only[pair,List.getElem_map,List.getElem_zipWith]
 rw[List.take_left' (ha _ (List.getElem_mem _))]
theorem zbT{r:Nat}(S:List Row):pair (S.map (·.take r)) (S.map (·.drop r))=S:=by
 induction S with
 | nil=>rfl
 | cons x S ih=>show(x.take r++x.drop r)::_=_;rw[List.take_append_drop];congr 1
theorem ziT{r N:Nat}{S:List Row}(h:∀ x∈S,z00 x<r):tops r S=S.map (·.take r):=by
 unfold tops;congr 1;exact List.filter_eq_self.mpr fun x hx=>decide_eq_true (h x hx)
structure Mst(r n:Nat)(w:Int)(G K A W:List Row):Prop where
 sq:Sq r A
 wl:W.length=r
 wr:∀ x∈W,x.length=n
 whole:z24 r w (trn r A)
 ker:∀ b:Vec,(∀ k,n≤k→b k=0)→(Span (vecs G) b↔(∀ j,j<K.length→wts n K b j=0)∧Span (vecs (trn r A)) (wts n W b))
 onto:∀ ζ κ:Vec,∃ b:Vec,(∀ k,n≤k→b k=0)∧(∀ j,j<K.length→wts n K b j=κ j)∧Span (vecs (trn r A)) (fun i=>wts n W b i-if i<r then ζ i else 0)
variable {r n:Nat}{w:Int}{G K A W T S W':List Row}
theorem Mst.rest(m:Mst r n w G K A W)(hl:W'.length=r)(hr:∀ x∈W',x.length=n)(q:Nat→Nat→Int)(e:∀ i k,i<r→ent W' i k=ent W i k-w*q i k):Mst r n w G K A W':=by
 have key:∀ b:Vec,Span (vecs (trn r A)) (fun i=>wts n W b i-wts n W' b i):=fun b=>by
   refine Span.congr (fun i=>?_) (zcR m.whole (u:=fun i=>if i<r then sm n (fun k=>q i k*b k) else 0) fun k hk=>by simp;omega)
   by_cases hi:i<r
   · unfold wts
     rw[if_pos hi,←z8x,←z2e]
     exact z0n fun k _=>by rw[e i k hi,Int.sub_mul,Int.mul_assoc];omega
   · have z1:wts n W b i=0:=z0x fun k _=>by rw[z0K (by rw[m.wl];omega)];simp
     have z2:wts n W' b i=0:=z0x fun k _=>by rw[z0K (by omega)];simp
     rw[if_neg hi,z1,z2];simp
 refine⟨m.sq,hl,hr,m.whole,fun b hb=>?_,fun ζ κ=>?_⟩
 · rw[m.ker b hb]
   refine and_congr_right fun _=>⟨fun h=>Span.congr (fun i=>by omega) (h.sub (key b)),fun h=>Span.congr (fun i=>by omega) (h.add (key b))⟩
 · obtain⟨b,h1,h2,h3⟩:=m.onto ζ κ
   exact⟨b,h1,h2,Span.congr (fun i=>by omega) (h3.sub (key b))⟩
theorem Mst.step(m:Mst r n w G K A W)(t:Sq r T)(sT:SameSpan (vecs T) (vecs (trn r A)))(As:Asc (r+n) 0 S)(Fs:Form 0 (z0w S))(sl:S.length=r)(sh:∀ x∈S,z00 x<r)(ss:SameSpan (vecs S) (vecs (pair (trn r T) W))):
   Mst r n w G K (S.map (·.take r)) (S.map (·.drop r)):=by
 have et:tops r S=S.map (·.take r):=ziT (N:=0) sh
 obtain⟨a1,a2⟩:=z68 As (show r≤r+n by omega)
 rw[et]at a1 a2
 have sq:Sq r (S.map (·.take r)):=⟨a1,by rw[←et];exact z6M As Fs (by omega),by rw[List.length_map,sl]⟩
 have cl:(trn r T).length=r:=z0N _ _
 have cr:∀ x∈trn r T,x.length=r:=fun x hx=>by rw[z2F hx,t.len]
 have tt:trn r (trn r T)=T:=zm7 t.rows t.len
 have dr:∀ x∈S.map (·.drop r),x.length=n:=fun x hx=>by
   obtain⟨y,hy,rfl⟩:=List.mem_map.mp hx
   rw[List.length_drop,(As.mem hy).1];omega
 have hs:=z4Z (r:=r) ss
 rw[z50 cr (by rw[cl,m.wl])]at hs
 have wT:z24 r w T:=fun i hi=>sT.iff.mpr (m.whole i hi)
 have wC:=t.comm wT
 have wA:z24 r w (S.map (·.take r)):=fun i hi=>hs.iff.mpr (wC i hi)
 have eq:∀ y,Span (vecs (trn r A)) y↔Span (vecs (trn r (trn r T))) y:=fun y=>by rw[tt];exact sT.symm.iff
 have pc:=zbT (r:=r) S
 refine⟨sq,by rw[List.length_map,sl],dr,sq.comm wA,fun b hb=>?_,fun ζ κ=>?_⟩
 · rw[m.ker b hb]
   refine and_congr_right fun _=>?_
   rw[eq,←zgp (n:=n) cr (by rw[cl,m.wl]),←zgp (n:=n) sq.rows (by simp),pc]
   exact EqP.same ss.symm
 · obtain⟨z,hz⟩:=lift ss.symm As ζ
   obtain⟨b,h1,h2,h3⟩:=m.onto z κ
   refine⟨b,h1,h2,?_⟩
   obtain⟨c,hc⟩:=(z2r cr).mp ((eq _).mp h3)
   have pl:(pair (trn r T) W).length=r:=by rw[z25 (by rw[cl,m.wl]),cl]
   have:=hz (fun_ r n c b) (z7K r n c b) fun l hl=>by
     rw[pl]at hl
     have e:=hc l
     rw[if_pos hl]at e
     rw[z4q cr (by rw[cl,m.wl]) c l (by omega)]
     omega
   refine(z2r sq.rows).mpr ⟨c,fun i=>?_⟩
   by_cases hi:i<r
   · have e:=this i (by omega)
     rw[←pc]at e
     rw[z4q sq.rows (by simp) c i (by rw[sq.len];exact hi)]at e
     rw[if_pos hi]
     omega
   · rw[if_neg hi,show wts n (S.map (·.drop r)) b i=0 from z0x fun k _=>by rw[z0K (by simp[sl];omega)];simp]
     rw[z0x fun j _=>by rw[z0K (by rw[sq.len];omega)];simp];rfl
end St

end
section
set_option linter.all false
set_option maxRecDepth 100000
namespace St
open Lat
def pr(A:List Row):Nat→Int
 | 0=>1
 | k+1=>pr A k*ent A k k
theorem ziU{T:List Vec}{R:Nat→Vec}(c:Nat→Int):∀ m,(∀ j,j<m→Span T (R j))→Span T (fun k=>sm m (fun j=>c j*R j k)):=by
 intro m
 induction m generalizing c R with
 | zero=>intro _;exact Span.zero
 | succ m ih=>intro h;exact((h 0 (by omega)).smul (c 0)).add (ih (R:=fun j=>R (j+1)) (fun j=>c (j+1)) fun j hj=>h (j+1) (by omega))
theorem zbU{D:List Row}(hl:∀ i j,i<j→ent D i j=0):∀ i,i≤D.length→∀ j,j<i→Span (vecs D) (pt j (pr D i)):=by
 intro i
 induction i with
 | zero=>intro _ j hj;omega
 | succ i ih =>
  intro hi j hj
  have ih:=ih (by omega)
  by_cases e:j<i
  · refine Span.congr (fun k=>?_) ((ih j e).smul (ent D i i))
    simp only[pt,pr];split
    · exact Int.mul_comm _ _
    · simp
  · have e:j=i:=by omega
    subst e
    refine Span.congr (fun k=>?_) (((z23 (A:=D) (i:=j) (by omega)).smul (pr D j)).sub (ziU (R:=fun l=>pt l (pr D j)) (fun l=>ent D j l) j ih))
    by_cases h1:k<j
    · rw[z22 h1 fun l _ hn=>by simp only[pt];rw[if_neg (by omega)];simp]
      simp only[pt,if_true];rw[if_neg (by omega),Int.mul_comm];omega
    · rw[z0x fun l hl=>by simp only[pt];rw[if_neg (by omega)];simp]
      by_cases h2:k=j
      · subst h2;simp[pt,pr]
      · rw[hl j k (by omega)];simp[pt,h2]
theorem zbV{A B:List Row}:∀{k:Nat},(∀ i,i<k→ent A i i=ent B i i)→pr A k=pr B k
 | 0,_=>rfl
 | k+1,h=>by rw[pr,pr,zbV fun i hi=>h i (by omega),h k (by omega)]
theorem zcS{A:List Row}:∀{k:Nat},(∀ i,i<k→0<ent A i i)→0<pr A k
 | 0,_=>by show(0:Int)<1;decide
 | k+1,h=>by rw[pr];exact Int.mul_pos (zcS fun i hi=>h i (by omega)) (h k (by omega))
variable {r n:Nat}{w:Int}{G K A W T S:List Row}
theorem Sq.prod(q:Sq r A):z24 r (pr A r) (trn r A):=fun i hi=>by
 have:=zbU (D:=trn r A) (fun i j h=>by rw[z1j q.rows];exact q.low h) r (by rw[z0N];exact Nat.le_refl _) i hi
 rw[zbV (B:=A) fun i _=>by rw[z1j q.rows]]at this
 exact this
theorem Sq.below(q:Sq r A)(h:z24 r w (trn r A)):Below r r w (trn r A) where
 len:=z0N _ _
 wid:=Nat.le_refl _
 rows x hx:=by rw[z2F hx,q.len]
 pos i hi:=by rw[z1j q.rows];have:=q.pos hi;omega
 low i j h1 h2:=by rw[z1j q.rows];exact q.low h1
 whole i hi:=⟨_,h i hi,by simp[pt],fun k _ hn=>by simp[pt,hn]⟩
theorem Sq.below_pair(t:Sq r T)(h:z24 r w (trn r T))(wl:W.length=r)(wr:∀ x∈W,x.length=n):Below r (r+n) w (pair (trn r T) W):=by
 have B:=t.below h
 have pl:(pair (trn r T) W).length=r:=by rw[z25 (by rw[B.len,wl]),B.len]
 have e:∀ i k,i<r→k<r→ent (pair (trn r T) W) i k=ent (trn r T) i k:=fun i k hi hk=>by
   rw[z4p (n:=n) B.rows (by rw[B.len];exact hi) (by omega),if_pos hk]
 refine⟨pl,by omega,z9U B.rows wr,fun i hi=>by rw[e i i hi hi];exact B.pos i hi,fun i j h1 h2=>by rw[e i j (by omega) h2];exact B.low i j h1 h2,fun i hi=>?_⟩
 obtain⟨c,hc⟩:=z15.mp (h i hi)
 rw[z0N]at hc
 refine⟨fun k=>sm r (fun l=>c l*ent (pair (trn r T) W) l k),z15.mpr ⟨c,fun k=>by rw[pl]⟩,?_,fun k hk hn=>?_⟩
 · show sm r (fun l=>c l*ent (pair (trn r T) W) l i)=w
   rw[z0n (g:=fun l=>c l*ent (trn r T) l i) fun l hl=>by rw[e l i hl hi],←hc i];simp[pt]
 · show sm r (fun l=>c l*ent (pair (trn r T) W) l k)=0
   rw[z0n (g:=fun l=>c l*ent (trn r T) l k) fun l hl=>by rw[e l k hl hk],←hc k];simp[pt,hn]
theorem ziV:∀{R:List Row} {cs:List Int} (k:Nat),cs.length=R.length→mix R cs k=sm R.length (fun i=>at0 cs i*ent R i k)
 | [],[],_,_=>rfl
 | x::R,c::cs,k,h=>by
  rw[mix,List.length_cons,sm]
  show c*at0 x k+mix R cs k=_
  rw[ziV k (by simpa using h)]
  rfl
theorem Below.ind{N:Nat}{P:List Row}(B:Below r N w P):Ind P:=fun cs hl hz c hc=>by
 have z:=z69 (m:=r) (a:=0) (c:=fun i=>at0 cs i) (D:=fun l j=>ent P l j) B.pos B.low fun j _ _=>by
  have:=hz j
  rw[ziV j hl,B.len]at this;exact this
 obtain⟨i,hi,rfl⟩:=List.getElem_of_mem hc
 have e:=z (r-i) i (by rw[hl,B.len]at hi;omega) (by omega) (by rw[hl,B.len]at hi;exact hi)
 simpa[at0,List.getD,List.getElem?_eq_getElem hi]using e
theorem Below.full{N:Nat}{P:List Row}(B:Below r N w P)(As:Asc N 0 S)(ss:SameSpan (vecs S) (vecs P)):∀ x∈S,z00 x<r∧hd x∣w:=fun x hx =>
 B.heads (Nat.le_refl r) As (by rw[show P.take r=P by rw[←B.len];exact List.take_length];exact ss) hx
def units(n:Nat):List Row:=(List.range n).map (z2X n)
theorem z1Q(n:Nat):(units n).length=n:=by simp[units]
theorem zhs(n:Nat):∀ x∈units n,x.length=n:=fun x hx=>by obtain⟨i,_,rfl⟩:=List.mem_map.mp hx;exact zhq n i
theorem z6P{i k:Nat}(hi:i<n):ent (units n) i k=if k=i∧k<n then 1 else 0:=by
 unfold ent units
 rw[show((List.range n).map (z2X n)).getD i []=z2X n i by simp[List.getD,hi],zbP]
theorem zht{f:Nat}(As:Asc r f T)(h:∀ i,i<r→∃ x∈T,z00 x=i):r≤T.length:=by
 have:=z3k (l:=List.range r) (m:=T.map z00) id List.nodup_range (fun x _ y _ e=>e) fun i hi=>by
  obtain⟨x,hx,e⟩:=h i (List.mem_range.mp hi)
  exact List.mem_map.mpr ⟨x,hx,e⟩
 simpa using this
theorem start(Ag:Asc n 0 G)(gl:G.length=r)(As:Asc (r+n) 0 S)(Fs:Form 0 (z0w S))(sl:S.length=n)(ss:SameSpan (vecs S) (vecs (pair (trn n G) (units n)))):
   ∃ W,S.filter (fun x=>decide (z00 x<r))=S.take r∧W=(S.take r).map (·.drop r)∧(bots r S).length=n-r∧Mst r n (pr (tops r S) r) G (bots r S) (tops r S) W∧tops r S=(S.take r).map (·.take r)∧r≤n:=by
 have gr:∀ x∈G,x.length=n:=fun x hx=>(Ag.mem hx).1
 have rn:r≤n:=by have:=z64 Ag (Nat.zero_le _);omega
 have cr:∀ x∈trn n G,x.length=r:=fun x hx=>by rw[z2F hx,gl]
 have cl:(trn n G).length=n:=z0N _ _
 obtain⟨a1,a2⟩:=z68 As (show r≤r+n by omega)
 have hs:=z4Z (r:=r) ss
 rw[z50 cr (by rw[cl,z1Q])]at hs
 have cover:∀ i,i<r→∃ x∈tops r S,z00 x=i:=fun i hi=>by
   let D:List Row:=(List.range r).map fun i=>(trn n G).getD (z00 (G.getD i [])) []
   have dl:D.length=r:=by simp[D]
   have de:∀ i j,i<r→ent D i j=ent G j (z00 (G.getD i [])):=fun i j hi=>by
     have:D.getD i []=(trn n G).getD (z00 (G.getD i [])) []:=by simp[D,List.getD,hi]
     rw[←z1j gr]
     unfold ent
     rw[this]
   have low:∀ i j,i<j→ent D i j=0:=fun i j h=>by
     by_cases hi:i<r
     · rw[de i j hi]
       by_cases hj:j<r
       · exact z0l _ _ (zcP Ag h (by rw[gl];exact hj))
       · exact z0K (by rw[gl];omega) _
     · exact z0K (by rw[dl];omega) _
   have sp:=zbU low r (by rw[dl];exact Nat.le_refl _) i hi
   have pos:0<pr D r:=zcS fun i hi=>by
     rw[de i i hi]
     exact(z65 Ag (k:=i) (by rw[gl];exact hi)).2.2.2
   have sp2:Span (vecs (trn n G)) (pt i (pr D r)):=Span.trans (fun v hv=>by
     obtain⟨x,hx,rfl⟩:=List.mem_map.mp hv
     obtain⟨j,hj,rfl⟩:=List.mem_map.mp hx
     have hj:=List.mem_range.mp hj
     exact z0e (z14 (by rw[cl];exact(z65 Ag (k:=j) (by rw[gl];exact hj)).2.2.1))) sp
   have sp3:=hs.iff.mpr sp2
   have sp4:Span (vecs (tops r S)) (pt i (pr D r)):=by
     refine Span.trans (fun v hv=>?_) sp3
     obtain⟨x,hx,rfl⟩:=List.mem_map.mp hv
     obtain⟨y,hy,rfl⟩:=List.mem_map.mp hx
     exact Span.congr (fun k=>by simp only[vec];rw[z1y]) (z6N (n:=r) As (z0e hy))
   exact Asc.first a1 sp4 (fun k hk=>by simp[pt];omega) (by simp[pt];omega)
 have tl:(tops r S).length=r:=by
   have h1:=zht a1 cover
   have h2:=z64 a1 (Nat.zero_le _)
   omega
 have fl:(S.filter fun x=>decide (z00 x<r)).length=r:=by rw[←a2];exact tl
 have sp:=z8w As (n:=r)
 have tk:S.filter (fun x=>decide (z00 x<r))=S.take r:=by
   have:=congrArg (List.take r) sp
   rw[List.take_left' fl]at this
   exact this.symm
 have dk:S.filter (fun x=>!decide (z00 x<r))=S.drop r:=by
   have:=congrArg (List.drop r) sp
   rw[List.drop_left' fl]at this
   exact this.symm
 have te:tops r S=(S.take r).map (·.take r):=by unfold tops;rw[tk]
 have be:bots r S=(S.drop r).map (·.drop r):=by unfold bots;rw[dk]
 have bl:(bots r S).length=n-r:=by rw[be,List.length_map,List.length_drop,sl]
 have sq:Sq r (tops r S):=⟨a1,z6M As Fs (by omega),tl⟩
 have hS:∀ i,i<r→∀ k,ent S i k=ent (pair (tops r S) ((S.take r).map (·.drop r))) i k:=fun i hi k=>by
   rw[te,zbT,z8y hi]
 have wl:((S.take r).map (·.drop r)).length=r:=by rw[List.length_map,List.length_take,sl];omega
 have zl:∀ j,j<n-r→∀ k,k<r→ent S (r+j) k=0:=fun j hj k hk=>by
   have m:S.getD (r+j) []∈S.filter (fun x=>!decide (z00 x<r)):=by
     rw[dk,show S.getD (r+j) []=(S.drop r).getD j [] by simp[List.getD,List.getElem?_drop]]
     exact z14 (by rw[List.length_drop,sl];exact hj)
   have:=(List.mem_filter.mp m).2
   rw[Bool.not_eq_true',decide_eq_false_iff_not]at this
   exact z0l _ _ (by omega)
 have bk:∀ j,j<n-r→∀ k,ent S (r+j) (r+k)=ent (bots r S) j k:=fun j hj k=>by
   rw[be]
   unfold ent
   rw[show((S.drop r).map (·.drop r)).getD j []=(S.getD (r+j) []).drop r by simp[List.getD,List.getElem?_drop,List.getElem?_eq_getElem (show r+j<S.length by omega)],z4n]
 have fb:∀(c b:Vec) (j:Nat),j<n-r→fun_ r n c b (fun k=>ent S (r+j) k)=wts n (bots r S) b j:=fun c b j hj=>by
   unfold fun_ wts
   rw[z0n (g:=fun k=>ent (bots r S) j k*b k) fun k _=>by show ent S (r+j) (r+k)*b k=_;rw[bk j hj],z0x (m:=r) fun k hk=>by show c k*ent S (r+j) k=0;rw[zl j hj k hk];simp]
   omega
 have fa:∀(c b:Vec) (i:Nat),i<r→fun_ r n c b (fun k=>ent S i k)=wts n ((S.take r).map (·.drop r)) b i-sm r (fun j=>c j*ent (tops r S) i j):=fun c b i hi=>by
   rw[show(fun k=>ent S i k)=fun k=>ent (pair (tops r S) ((S.take r).map (·.drop r))) i k from funext (hS i hi)]
   exact z4q sq.rows (by rw[tl,wl]) c i (by rw[tl];exact hi)
 have fp:∀(c b:Vec) (l:Nat),l<n→fun_ r n c b (fun k=>ent (pair (trn n G) (units n)) l k)=b l-sm r (fun j=>c j*ent G j l):=fun c b l hl=>by
   rw[z4q cr (by rw[cl,z1Q]) c l (by rw[cl];exact hl)]
   congr 1
   · unfold wts
     rw[z22 hl fun k _ hn=>by rw[z6P hl,if_neg (by omega)];simp,z6P hl,if_pos ⟨rfl,hl⟩];simp
   · exact z0n fun j _=>by rw[z1j gr]
 have pl:(pair (trn n G) (units n)).length=n:=by rw[z25 (by rw[cl,z1Q]),cl]
 refine⟨_,tk,rfl,bl,⟨sq,wl,fun x hx=>?_,sq.prod,fun b hb=>?_,fun ζ κ=>?_⟩,te,rn⟩
 · obtain⟨y,hy,rfl⟩:=List.mem_map.mp hx
   rw[List.length_drop,(As.mem (List.mem_of_mem_take hy)).1];omega
 · have e1:Span (vecs G) b↔EqP r n (pair (trn n G) (units n)) b:=by
     rw[z15,gl]
     constructor
     · rintro⟨c,h⟩
       exact⟨c,fun l hl=>by rw[fp c b l (by omega),h l];omega⟩
     · rintro⟨c,h⟩
       refine⟨c,fun k=>?_⟩
       by_cases hk:k<n
       · have:=h k (by omega)
         rw[fp c b k hk]at this;omega
       · rw[hb k (by omega)]
         exact(z0x fun j _=>by rw[zaR gr (by omega)];simp).symm
   rw[e1,EqP.same ss.symm,bl,z2r sq.rows]
   constructor
   · rintro⟨c,h⟩
     refine⟨fun j hj=>by rw[←fb c b j hj];exact h _ (by omega),c,fun k=>?_⟩
     by_cases hk:k<r
     · have:=h k (by omega)
       rw[fa c b k hk]at this;omega
     · rw[show wts n ((S.take r).map (·.drop r)) b k=0 from z0x fun j _=>by rw[z0K (by rw[wl];omega)];simp]
       exact(z0x fun j _=>by rw[z0K (by rw[tl];omega)];simp).symm
   · rintro⟨h1,c,h2⟩
     refine⟨c,fun l hl=>?_⟩
     by_cases hk:l<r
     · rw[fa c b l hk,h2 l];omega
     · have:=h1 (l-r) (by omega)
       rw[←fb c b (l-r) (by omega),show r+(l-r)=l by omega]at this
       exact this
 · obtain⟨z,hz⟩:=lift ss.symm As (fun i=>if i<r then ζ i else κ (i-r))
   have:=hz (fun_ r n (fun _=>0) (fun k=>if k<n then z k else 0)) (z7K _ _ _ _) fun l hl=>by
     rw[fp _ _ l (by omega),if_pos (by omega),z0x fun j _=>by simp];omega
   refine⟨fun k=>if k<n then z k else 0,fun k hk=>if_neg (by omega),fun j hj=>?_,?_⟩
   · have e:=this (r+j) (by omega)
     rw[fb _ _ j (by omega),if_neg (by omega),show r+j-r=j by omega]at e
     exact e
   · refine Span.congr (fun i=>?_) Span.zero
     by_cases hi:i<r
     · have e:=this i (by omega)
       rw[fa _ _ i hi,if_pos hi,z0x fun j _=>by simp]at e
       rw[if_pos hi];omega
     · rw[if_neg hi,show wts n ((S.take r).map (·.drop r)) _ i=0 from z0x fun j _=>by rw[z0K (by rw[wl];omega)];simp];rfl
end St

end
section
set_option linter.all false
set_option maxRecDepth 100000
namespace St
open Lat
abbrev Meas:=List (Row×Int)
def mw(M:Meas)(i:Nat):Row:=(M.getD i ([],0)).1
def mp(M:Meas)(i:Nat):Int:=(M.getD i ([],0)).2
def dt(n:Nat)(w:Row)(b:Vec):Int:=sm n (fun k=>at0 w k*b k)
structure Ms(n:Nat)(G:List Row)(M:Meas):Prop where
 rows:∀ x∈M,x.1.length=n
 ker:∀ b:Vec,(∀ k,n≤k→b k=0)→(Span (vecs G) b↔∀ i,i<M.length→mp M i∣dt n (mw M i) b)
 onto:∀ ζ:Vec,∃ b:Vec,(∀ k,n≤k→b k=0)∧∀ i,i<M.length→mp M i∣dt n (mw M i) b-ζ i
variable {n:Nat}{G:List Row}{M M':Meas}
theorem Ms.rest(m:Ms n G M)(hr:∀ x∈M',x.1.length=n)(hl:M'.length=M.length)(hp:∀ i,i<M.length→mp M' i=mp M i)(hd:∀ i,i<M.length→∀ b:Vec,mp M i∣dt n (mw M' i) b-dt n (mw M i) b):Ms n G M':=by
 refine⟨hr,fun b hb=>?_,fun ζ=>?_⟩
 · rw[m.ker b hb,hl]
   refine forall_congr' fun i=>forall_congr' fun hi=>?_
   rw[hp i hi]
   have:=hd i hi b
   constructor
   · intro h;have:=Int.dvd_add this h;rwa [Int.sub_add_cancel]at this
   · intro h;have:=Int.dvd_sub h this;rwa [show dt n (mw M' i) b-(dt n (mw M' i) b-dt n (mw M i) b)=dt n (mw M i) b by omega]at this
 · obtain⟨b,h1,h2⟩:=m.onto ζ
   refine⟨b,h1,fun i hi=>?_⟩
   rw[hl]at hi
   rw[hp i hi]
   have:=Int.dvd_add (hd i hi b) (h2 i hi)
   rwa [show dt n (mw M' i) b-dt n (mw M i) b+(dt n (mw M i) b-ζ i)=dt n (mw M' i) b-ζ i by omega]at this
theorem Ms.link(m:Ms n G M){p q:Nat}{g f1 f2 a b:Int}(hp:p<M.length)(hq:q<M.length)(hn:p≠q)(ea:mp M p=g*a)(eb:mp M q=g*b)(hg:g≠0)(e1:f1*a+f2*b=1)
   (hr:∀ x∈M',x.1.length=n) (hl:M'.length=M.length) (ho:∀ i,i≠p→i≠q→mp M' i=mp M i∧mw M' i=mw M i) (hp1:mp M' p=g) (hq1:mp M' q=a*(g*b))
   (hp2:∀ v:Vec,g∣dt n (mw M' p) v-(dt n (mw M p) v+dt n (mw M q) v)) (hq2:∀ v:Vec,a*(g*b)∣dt n (mw M' q) v-(-(f2*b)*dt n (mw M p) v+f1*a*dt n (mw M q) v)):Ms n G M':=by
 have key:∀ X Y U V:Int,g∣U-(X+Y)→a*(g*b)∣V-(-(f2*b)*X+f1*a*Y)→((g*a∣X∧g*b∣Y)↔(g∣U∧a*(g*b)∣V)):=by
   rintro X Y U V ⟨u,hu⟩ ⟨v,hv⟩
   constructor
   · rintro⟨⟨x,rfl⟩,⟨y,rfl⟩⟩
     exact⟨⟨u+a*x+b*y,by grind⟩,⟨v-f2*x+f1*y,by grind⟩⟩
   · rintro⟨⟨x,rfl⟩,⟨y,rfl⟩⟩
     refine⟨⟨f1*(x-u)-b*(y-v),?_⟩,⟨f2*(x-u)+a*(y-v),?_⟩⟩
     · grind
     · grind
 refine⟨hr,fun b' hb=>?_,fun ζ=>?_⟩
 · rw[m.ker b' hb,hl]
   have k:=key (dt n (mw M p) b') (dt n (mw M q) b') (dt n (mw M' p) b') (dt n (mw M' q) b') (hp2 b') (hq2 b')
   constructor
   · intro h i hi
     have:=k.mp ⟨by rw[←ea];exact h p hp,by rw[←eb];exact h q hq⟩
     by_cases i1:i=p
     · subst i1;rw[hp1];exact this.1
     · by_cases i2:i=q
       · subst i2;rw[hq1];exact this.2
       · rw[(ho i i1 i2).1,(ho i i1 i2).2];exact h i hi
   · intro h i hi
     have:=k.mpr ⟨by rw[←hp1];exact h p hp,by rw[←hq1];exact h q hq⟩
     by_cases i1:i=p
     · subst i1;rw[ea];exact this.1
     · by_cases i2:i=q
       · subst i2;rw[eb];exact this.2
       · have:=h i hi
         rw[(ho i i1 i2).1,(ho i i1 i2).2]at this;exact this
 · obtain⟨v,h1,h2⟩:=m.onto fun i=>if i=p then f1*a*ζ p-ζ q else if i=q then f2*b*ζ p+ζ q else ζ i
   refine⟨v,h1,fun i hi=>?_⟩
   have x1:=h2 p hp
   rw[if_pos rfl,ea]at x1
   have x2:=h2 q hq
   rw[if_neg (by omega),if_pos rfl,eb]at x2
   have k:=(key (dt n (mw M p) v-(f1*a*ζ p-ζ q)) (dt n (mw M q) v-(f2*b*ζ p+ζ q)) (dt n (mw M' p) v-ζ p) (dt n (mw M' q) v-ζ q)
     (by have:=hp2 v;rwa [show dt n (mw M' p) v-ζ p-(dt n (mw M p) v-(f1*a*ζ p-ζ q)+(dt n (mw M q) v-(f2*b*ζ p+ζ q)))=dt n (mw M' p) v-(dt n (mw M p) v+dt n (mw M q) v) by grind])
     (by have:=hq2 v;rwa [show dt n (mw M' q) v-ζ q-(-(f2*b)*(dt n (mw M p) v-(f1*a*ζ p-ζ q))+f1*a*(dt n (mw M q) v-(f2*b*ζ p+ζ q)))=dt n (mw M' q) v-(-(f2*b)*dt n (mw M p) v+f1*a*dt n (mw M q) v) by grind])).mp ⟨x1,x2⟩
   by_cases i1:i=p
   · subst i1;rw[hp1];exact k.1
   · by_cases i2:i=q
     · subst i2;rw[hq1];exact k.2
     · have:=h2 i (by omega)
       rw[if_neg i1,if_neg i2]at this
       rw[(ho i i1 i2).1,(ho i i1 i2).2];exact this
theorem zm8{g a b f1 f2 w:Int}(hg:g≠0)(e1:f1*a+f2*b=1)(h1:g*a∣w)(h2:g*b∣w):a*(g*b)∣w:=by
 obtain⟨s,hs⟩:=h1
 obtain⟨t,ht⟩:=h2
 exact⟨f1*t+f2*s,by grind⟩
theorem zm9{p:Int}{x y:Row}{q:Nat→Int}(e:∀ k,at0 x k=at0 y k-p*q k)(b:Vec):p∣dt n x b-dt n y b:=by
 refine⟨- sm n (fun k=>q k*b k),?_⟩
 unfold dt
 rw[←z8x,z0n (g:=fun k=>(-p)*(q k*b k)) fun k _=>by rw[e k];grind,z2e];grind
theorem Mst.meas{r:Nat}{w:Int}{K A W:List Row}(m:Mst r n w G K A W)(hc:Clean r A)(kr:∀ x∈K,x.length=n)(M:Meas)(hl:M.length=r+K.length)(h1:∀ i,i<r→mw M i=W.getD i []∧mp M i=ent A i i)(h2:∀ j,j<K.length→mw M (r+j)=K.getD j []∧mp M (r+j)=0):Ms n G M:=by
 have sp:∀ y:Vec,(∀ k,r≤k→y k=0)→(Span (vecs (trn r A)) y↔∀ i,i<r→ent A i i∣y i):=fun y hy=>by
   rw[z2r m.sq.rows]
   constructor
   · rintro⟨c,h⟩ i hi
     rw[h i,z22 hi fun k _ hn=>by rw[hc i hi k hn];simp]
     exact⟨c i,Int.mul_comm _ _⟩
   · intro h
     refine⟨fun i=>y i / ent A i i,fun k=>?_⟩
     by_cases hk:k<r
     · rw[z22 hk fun j _ hn=>by rw[hc k hk j hn];simp]
       exact(Int.ediv_mul_cancel (h k hk)).symm
     · rw[hy k (by omega)]
       exact(z0x fun j _=>by rw[z0K (by rw[m.sq.len];omega)];simp).symm
 have wz:∀ b k,r≤k→wts n W b k=0:=fun b k hk=>z0x fun j _=>by rw[z0K (by rw[m.wl];exact hk)];simp
 have d1:∀ b i,i<r→dt n (mw M i) b=wts n W b i:=fun b i hi=>by rw[(h1 i hi).1];rfl
 have d2:∀ b j,j<K.length→dt n (mw M (r+j)) b=wts n K b j:=fun b j hj=>by rw[(h2 j hj).1];rfl
 refine⟨fun x hx=>?_,fun b hb=>?_,fun ζ=>?_⟩
 · obtain⟨i,hi,rfl⟩:=List.getElem_of_mem hx
   have e:M[i].1=mw M i:=by simp[mw,List.getD,List.getElem?_eq_getElem hi]
   rw[e]
   by_cases q:i<r
   · rw[(h1 i q).1];exact m.wr _ (z14 (by rw[m.wl];exact q))
   · rw[show i=r+(i-r) by omega,(h2 (i-r) (by omega)).1];exact kr _ (z14 (by omega))
 · rw[m.ker b hb,sp _ (wz b),hl]
   constructor
   · rintro⟨a1,a2⟩ i hi
     by_cases q:i<r
     · rw[(h1 i q).2,d1 b i q];exact a2 i q
     · rw[show i=r+(i-r) by omega,(h2 (i-r) (by omega)).2,d2 b _ (by omega),a1 _ (by omega)];exact Int.dvd_refl 0
   · intro h
     refine⟨fun j hj=>?_,fun i hi=>?_⟩
     · have:=h (r+j) (by omega)
       rw[(h2 j hj).2,d2 b j hj]at this
       exact Int.zero_dvd.mp this
     · have:=h i (by omega)
       rw[(h1 i hi).2,d1 b i hi]at this;exact this
 · obtain⟨b,b1,b2,b3⟩:=m.onto ζ (fun j=>ζ (r+j))
   rw[sp _ fun k hk=>by rw[wz b k hk,if_neg (by omega)];rfl]at b3
   refine⟨b,b1,fun i hi=>?_⟩
   by_cases q:i<r
   · have:=b3 i q
     rw[if_pos q]at this
     rw[(h1 i q).2,d1 b i q];exact this
   · have:=b2 (i-r) (by omega)
     rw[show i=r+(i-r) by omega,(h2 (i-r) (by omega)).2,d2 b _ (by omega),this]
     simp
end St

end
section
set_option linter.all false
set_option maxRecDepth 100000
namespace St
open Lat
theorem z51:∀{n:Nat} {f:Nat→Nat} {t:List Int},z1r ((List.range n).map f) t↔t.length=n∧∀ i,i<n→0≤at0 t i∧at0 t i<f i:=by
 have key:∀(ns:List Nat) (t:List Int),z1r ns t↔t.length=ns.length∧∀ i,i<ns.length→0≤at0 t i∧at0 t i<(ns.getD i 0:Int):=by
  intro ns
  induction ns with
  | nil =>
   intro t
   cases t with
   | nil=>simp[z1r]
   | cons x t=>simp[z1r]
  | cons a ns ih =>
   intro t
   cases t with
   | nil=>simp[z1r]
   | cons x t =>
    rw[z1r,ih]
    constructor
    · rintro⟨h0,h1,h2,h3⟩
      refine⟨by simp[h2],fun i hi=>?_⟩
      cases i with
      | zero=>exact⟨h0,h1⟩
      | succ i=>exact h3 i (by simpa using hi)
    · rintro⟨h2,h3⟩
      have a:=h3 0 (by simp)
      exact⟨a.1,a.2,by simpa using h2,fun i hi=>h3 (i+1) (by simpa using hi)⟩
 intro n f t
 rw[key]
 simp only[List.length_map,List.length_range]
 refine and_congr_right fun _=>forall_congr' fun i=>forall_congr' fun hi=>?_
 rw[show((List.range n).map f).getD i 0=f i by simp[List.getD,hi]]
def mkr(n:Nat)(f:Nat→Int):Row:=(List.range n).map f
theorem zgq(n:Nat)(f:Nat→Int):(mkr n f).length=n:=by simp[mkr]
theorem zgr{n:Nat}{f:Nat→Int}{k:Nat}(h:k<n):at0 (mkr n f) k=f k:=by simp[at0,mkr,List.getD,h]
theorem zbW{n:Nat}{f:Nat→Int}(hf:∀ k,n≤k→f k=0)(k:Nat):at0 (mkr n f) k=f k:=by
 by_cases h:k<n
 · exact zgr h
 · rw[hf k (by omega)];exact z1i (by rw[zgq];omega)
variable {n:Nat}{G:List Row}{M:Meas}
end St

end
section
set_option linter.all false
set_option maxRecDepth 100000
namespace St
open Lat
theorem zbX(l:List Nat)(x:Nat):prod (l++[x])=prod l*x:=by
 induction l with
 | nil=>simp[prod]
 | cons a l ih=>rw[List.cons_append,prod,prod,ih,Nat.mul_assoc]
theorem zgs{A:List Row}:∀{r:Nat},(∀ i,i<r→0<ent A i i)→pr A r=(prod ((List.range r).map fun i=>(ent A i i).toNat):Int)
 | 0,_=>rfl
 | r+1,h=>by
  have:=h r (by omega)
  rw[pr,zgs fun i hi=>h i (by omega),List.range_succ,List.map_append,List.map_cons,List.map_nil,zbX,Int.natCast_mul]
  congr 1;omega
theorem zbY{f:Nat→Nat}{e:Nat}:∀{r:Nat},(∀ i,i<r→f i≤2 ^ e)→prod ((List.range r).map f)≤2 ^ (e*r)
 | 0,_=>by simp[prod]
 | r+1,h=>by
  rw[List.range_succ,List.map_append,List.map_cons,List.map_nil,zbX,Nat.mul_succ,Nat.pow_add]
  exact Nat.mul_le_mul (zbY fun i hi=>h i (by omega)) (h r (by omega))
variable {r:Nat}{A D:List Row}
theorem zhu(dl:D.length=r)(low:∀ i j,i<j→ent D i j=0)(pos:∀ i,i<r→0<ent D i i):∀ k,k≤r→∀ t:Vec,(∀ j,k≤j→t j=0) →
  ∃ x:Vec,(∀ j,j<k→0≤x j∧x j<ent D j j)∧(∀ j,k≤j→x j=0)∧Span (vecs D) (fun j=>t j-x j):=by
 intro k
 induction k with
 | zero=>intro _ t ht;exact⟨fun _=>0,fun j hj=>by omega,fun _ _=>rfl,Span.congr (fun j=>by rw[ht j (by omega)];rfl) Span.zero⟩
 | succ k ih =>
  intro hk t ht
  have p:=pos k (by omega)
  obtain⟨f0,f1⟩:=z6I (t k) p
  have sd:Span (vecs D) (fun j=>ent D k j):=z23 (by omega)
  obtain⟨x,x1,x2,x3⟩:=ih (by omega) (fun j=>if j<k then t j-(t k).fdiv (ent D k k)*ent D k j else 0) fun j hj=>if_neg (by omega)
  refine⟨fun j=>if j=k then t k-(t k).fdiv (ent D k k)*ent D k k else x j,fun j hj=>?_,fun j hj=>?_,?_⟩
  · dsimp only
    by_cases e:j=k
    · subst e;rw[if_pos rfl];exact⟨f0,f1⟩
    · rw[if_neg e];exact x1 j (by omega)
  · dsimp only;rw[if_neg (by omega)];exact x2 j (by omega)
  · refine Span.congr (fun j=>?_) (x3.add (sd.smul ((t k).fdiv (ent D k k))))
    dsimp only
    by_cases e:j=k
    · subst e;rw[if_neg (by omega),if_pos rfl,x2 j (by omega)];omega
    · rw[if_neg e]
      by_cases h:j<k
      · rw[if_pos h];omega
      · rw[if_neg h,low k j (by omega),ht j (by omega)];simp
theorem Sq.prod_bound(q:Sq r A)(dl:D.length=r)(low:∀ i j,i<j→ent D i j=0)(pos:∀ i,i<r→0<ent D i i)(sp:∀ x∈D,Span (vecs A) (fun k=>at0 x k)):
   Lat.prod ((List.range r).map fun i=>(ent A i i).toNat)≤Lat.prod ((List.range r).map fun i=>(ent D i i).toNat):=by
 have sub:∀ v,Span (vecs D) v→Span (vecs A) v:=fun v hv=>Span.trans (fun u hu=>by obtain⟨x,hx,rfl⟩:=List.mem_map.mp hu;exact sp x hx) hv
 have ch:∀ t:Row,t.length=r→∃ x:Vec,(∀ j,j<r→0≤x j∧x j<ent D j j)∧(∀ j,r≤j→x j=0)∧Span (vecs D) (fun j=>at0 t j-x j):=fun t ht=>zhu dl low pos r (Nat.le_refl _) _ fun j hj=>z1i (by omega)
 have ch':∀ t:Row,∃ x:Vec,t.length=r→(∀ j,j<r→0≤x j∧x j<ent D j j)∧(∀ j,r≤j→x j=0)∧Span (vecs D) (fun j=>at0 t j-x j):=fun t=>by
   by_cases h:t.length=r
   · obtain⟨x,hx⟩:=ch t h;exact⟨x,fun _=>hx⟩
   · exact⟨fun _=>0,fun h'=>absurd h' h⟩
 refine zgh (fun t=>mkr r (Classical.choose (ch' t))) (fun s t hs ht e=>?_) fun s hs=>?_
 · obtain⟨sl,sb⟩:=z51.mp hs
   obtain⟨tl,tb⟩:=z51.mp ht
   obtain⟨s1,s2,s3⟩:=Classical.choose_spec (ch' s) sl
   obtain⟨t1,t2,t3⟩:=Classical.choose_spec (ch' t) tl
   generalize Classical.choose (ch' s)=b at e s1 s2 s3
   generalize Classical.choose (ch' t)=c at e t1 t2 t3
   have e:mkr r b=mkr r c:=e
   have bc:∀ k,b k=c k:=fun k=>by
     have:=congrArg (fun x=>at0 x k) e
     simp only[zbW s2,zbW t2]at this
     exact this
   have d:Span (vecs A) (fun k=>at0 s k-at0 t k):=sub _ (Span.congr (fun k=>by have:=bc k;omega) (s3.sub t3))
   refine ext0 (by omega) fun k=>?_
   have z:=Asc.small q.asc d (fun x hx=>by
     obtain⟨j,hj,rfl⟩:=List.getElem_of_mem hx
     have ej:A[j]=A.getD j []:=by simp[List.getD,List.getElem?_eq_getElem hj]
     rw[q.len]at hj
     unfold hd
     rw[ej,q.head hj]
     have a:=sb j hj
     have b:=tb j hj
     have p:=q.pos hj
     show -(ent A j j)<at0 s j-at0 t j∧at0 s j-at0 t j<ent A j j
     omega) k
   omega
 · obtain⟨sl,sb⟩:=z51.mp hs
   obtain⟨s1,s2,s3⟩:=Classical.choose_spec (ch' s) sl
   refine z51.mpr ⟨zgq _ _,fun i hi=>?_⟩
   rw[zgr hi]
   have:=s1 i hi
   have p:=pos i hi
   omega
theorem zbZ{n e:Nat}{G T:List Row}(Ag:Asc n 0 G)(gl:G.length=r)(q:Sq r T)(s:∀ x∈trn n G,Span (vecs T) (fun k=>at0 x k))(hb:∀ x∈G,hd x<2 ^ e):pr T r≤2 ^ (e*r):=by
 let D:List Row:=(List.range r).map fun i=>(trn n G).getD (z00 (G.getD i [])) []
 have gr:∀ x∈G,x.length=n:=fun x hx=>(Ag.mem hx).1
 have dl:D.length=r:=by simp[D]
 have de:∀ i j,i<r→ent D i j=ent G j (z00 (G.getD i [])):=fun i j hi=>by
  have:D.getD i []=(trn n G).getD (z00 (G.getD i [])) []:=by simp[D,List.getD,hi]
  rw[←z1j gr]
  unfold ent
  rw[this]
 have low:∀ i j,i<j→ent D i j=0:=fun i j h=>by
  by_cases hi:i<r
  · rw[de i j hi]
    by_cases hj:j<r
    · exact z0l _ _ (zcP Ag h (by rw[gl];exact hj))
    · exact z0K (by rw[gl];omega) _
  · exact z0K (by rw[dl];omega) _
 have pos:∀ i,i<r→0<ent D i i:=fun i hi=>by
  rw[de i i hi]
  exact(z65 Ag (k:=i) (by rw[gl];exact hi)).2.2.2
 have b:=q.prod_bound dl low pos fun x hx=>by
  obtain⟨j,hj,rfl⟩:=List.mem_map.mp hx
  have hj:=List.mem_range.mp hj
  exact s _ (z14 (by rw[z0N];exact(z65 Ag (k:=j) (by rw[gl];exact hj)).2.2.1))
 have b2:=zbY (f:=fun i=>(ent D i i).toNat) (e:=e) (r:=r) fun i hi=>by
  have h:ent D i i<2 ^ e:=by rw[de i i hi];exact hb _ (z14 (by rw[gl];exact hi))
  have p2:(0:Int)<2 ^ e:=Int.pow_pos (by decide)
  have:((2 ^ e:Nat):Int)=(2:Int) ^ e:=by norm_cast
  omega
 rw[zgs fun i hi=>q.pos hi]
 have:((2 ^ (e*r):Nat):Int)=(2:Int) ^ (e*r):=by norm_cast
 omega
theorem Sq.entry(q:Sq r A){w:Int}(h:z24 r w A)(hw:0<w)(i j:Nat):0≤ent A i j∧ent A i j≤w:=by
 by_cases hj:j<r
 · have d:=Int.le_of_dvd hw (q.whole h hj)
   rcases Nat.lt_trichotomy i j with x|x|x
   · have:=q.red x hj;omega
   · subst x;have:=q.pos hj;omega
   · rw[q.low x];omega
 · rw[q.far (by omega)];omega
end St

end
section
set_option linter.all false
set_option maxRecDepth 100000
namespace St
open Lat
variable {n:Nat}{G:List Row}{M K0:Meas}
theorem z2v{i:Nat}(h:i<M.length):mp (M++K0) i=mp M i∧mw (M++K0) i=mw M i:=by
 unfold mp mw;simp[List.getD,List.getElem?_append_left h]
theorem z8z{p q i:Nat}{x y:Row×Int}(hpq:p≠q)(hp:p<M.length)(hq:q<M.length):((M.set p x).set q y).getD i ([],0)=if i=q then y else if i=p then x else M.getD i ([],0):=by
 by_cases h1:i=q
 · subst h1;simp[List.getD,hq]
 · rw[if_neg h1]
   by_cases h2:i=p
   · subst h2;simp[List.getD,List.getElem?_set,hp,Ne.symm h1,if_neg (Ne.symm h1)]
   · rw[if_neg h2];simp[List.getD,List.getElem?_set,Ne.symm h1,Ne.symm h2]
theorem z3a{i:Nat}:(M++K0).getD i ([],0)=if i<M.length then M.getD i ([],0) else K0.getD (i-M.length) ([],0):=by
 by_cases h:i<M.length
 · rw[if_pos h];simp[List.getD,List.getElem?_append_left h]
 · rw[if_neg h];simp[List.getD,List.getElem?_append_right (Nat.le_of_not_lt h)]
structure Bz(g f1 f2 a b a' b':Int):Prop where
 gp:0<g
 ea:a=g*a'
 eb:b=g*b'
 one:f1*a'+f2*b'=1
theorem Bz.of{g f1 f2 a b:Int}(gp:0<g)(ga:g∣a)(gb:g∣b)(h:f1*a+f2*b=g):Bz g f1 f2 a b (a / g) (b / g):=by
 obtain⟨a',rfl⟩:=ga
 obtain⟨b',rfl⟩:=gb
 rw[Int.mul_ediv_cancel_left _ (by omega),Int.mul_ediv_cancel_left _ (by omega)]
 refine⟨gp,rfl,rfl,?_⟩
 have:g*(f1*a'+f2*b')=g*1:=by grind
 exact Int.eq_of_mul_eq_mul_left (by omega) this
theorem zma{p q:Nat}{g f1 f2 a' b' lc:Int}{u l:Row}{qu ql:Nat→Int}(m:Ms n G (M++K0))(hlc:lc=a'*mp M q)(hpq:p≠q)(hp:p<M.length)(hq:q<M.length)(z:Bz g f1 f2 (mp M p) (mp M q) a' b')(hu:u.length=n)(hl:l.length=n)
   (eu:∀ k,at0 u k=(at0 (mw M p) k+at0 (mw M q) k)-g*qu k) (el:∀ k,at0 l k=((-(f2*b'))*at0 (mw M p) k+(f1*a')*at0 (mw M q) k)-lc*ql k) :
   Ms n G ((M.set p (u,g)).set q (l,lc)++K0):=by
 have len:((M.set p (u,g)).set q (l,lc)).length=M.length:=by simp
 have get:∀ i,((M.set p (u,g)).set q (l,lc)++K0).getD i ([],0)=if i=q then(l,lc) else if i=p then(u,g) else(M++K0).getD i ([],0):=fun i=>by
   rw[z3a,len,z8z hpq hp hq]
   by_cases h1:i=q
   · subst h1;rw[if_pos hq,if_pos rfl,if_pos rfl]
   · by_cases h2:i=p
     · subst h2;rw[if_pos hp,if_neg h1,if_neg h1,if_pos rfl,if_pos rfl]
     · rw[if_neg h1,if_neg h2,if_neg h1,if_neg h2,z3a]
 obtain⟨x1,x2⟩:=z2v (K0:=K0) hp
 obtain⟨y1,y2⟩:=z2v (K0:=K0) hq
 have dl:∀(x y:Row) (c d:Int) (w:Row) (s:Int) (t:Nat→Int) (v:Vec),(∀ k,at0 w k=(c*at0 x k+d*at0 y k)-s*t k)→s∣dt n w v-(c*dt n x v+d*dt n y v):=fun x y c d w s t v h=>by
   refine⟨- sm n (fun k=>t k*v k),?_⟩
   unfold dt
   rw[←z2e,←z2e,←z6O,←z8x,z0n (g:=fun k=>(-s)*(t k*v k)) fun k _=>by rw[h k];grind,z2e];grind
 have hg:=z.gp
 refine m.link (p:=p) (q:=q) (g:=g) (f1:=f1) (f2:=f2) (a:=a') (b:=b') (by rw[List.length_append];omega) (by rw[List.length_append];omega) hpq (by rw[x1];exact z.ea) (by rw[y1];exact z.eb) (by omega) z.one ?_ ?_ ?_ ?_ ?_ ?_ ?_
 · intro x hx
   rcases List.mem_append.mp hx with hx|hx
   · rcases List.mem_or_eq_of_mem_set hx with hx|rfl
     · rcases List.mem_or_eq_of_mem_set hx with hx|rfl
       · exact m.rows x (List.mem_append.mpr (.inl hx))
       · exact hu
     · exact hl
   · exact m.rows x (List.mem_append.mpr (.inr hx))
 · rw[List.length_append,List.length_append,len]
 · intro i h1 h2
   unfold mp mw
   rw[get,if_neg h2,if_neg h1]
   exact⟨rfl,rfl⟩
 · unfold mp;rw[get,if_neg hpq,if_pos rfl]
 · have e:=z.eb;unfold mp;rw[get,if_pos rfl];show lc=_;rw[hlc,e]
 · intro v
   rw[x2,y2]
   have h:=dl (mw M p) (mw M q) 1 1 u g qu v fun k=>by rw[eu k];omega
   rw[show mw ((M.set p (u,g)).set q (l,lc)++K0) p=u by unfold mw;rw[get,if_neg hpq,if_pos rfl]]
   simpa using h
 · intro v
   have e:=z.eb
   rw[x2,y2,←e,←hlc]
   have h:=dl (mw M p) (mw M q) (-(f2*b')) (f1*a') l lc ql v el
   rw[show mw ((M.set p (u,g)).set q (l,lc)++K0) q=l by unfold mw;rw[get,if_pos rfl]]
   exact h
structure Chn(w:Int)(t s:Nat)(M:Meas):Prop where
 pos:∀ i,i<M.length→0<mp M i
 whole:∀ i,i<M.length→mp M i∣w
 all:∀ i j,i<t→i<j→j<M.length→mp M i∣mp M j
 here:∀ j,t<j→j<s→j<M.length→mp M t∣mp M j
theorem Chn.link{w g f1 f2 a' b' lc:Int}{t s:Nat}{u l:Row}(c:Chn w t s M)(hts:t<s)(hs:s<M.length)(z:Bz g f1 f2 (mp M t) (mp M s) a' b')(hlc:lc=a'*mp M s):Chn w t (s+1) ((M.set t (u,g)).set s (l,lc)):=by
 have len:((M.set t (u,g)).set s (l,lc)).length=M.length:=by simp
 have get:∀ i,mp ((M.set t (u,g)).set s (l,lc)) i=if i=s then lc else if i=t then g else mp M i:=fun i=>by
   unfold mp;rw[z8z (by omega) (by omega) hs];split
   · rfl
   · split<;>rfl
 have hg:=z.gp
 have pt:=c.pos t (by omega)
 have ps:=c.pos s hs
 have ap:0<a':=by
   have e:=z.ea
   rcases Int.lt_trichotomy a' 0 with h|h|h
   · have:=Int.mul_neg_of_pos_of_neg hg h;omega
   · rw[h]at e;omega
   · exact h
 refine⟨fun i hi=>?_,fun i hi=>?_,fun i j h1 h2 h3=>?_,fun j h1 h2 h3=>?_⟩
 · rw[len]at hi
   rw[get];split
   · rw[hlc];exact Int.mul_pos ap ps
   · split
     · exact hg
     · exact c.pos i hi
 · rw[len]at hi
   rw[get];split
   · have e:=z.eb
     rw[hlc,e]
     exact zm8 (by omega) z.one (by rw[←z.ea];exact c.whole t (by omega)) (by rw[←e];exact c.whole s hs)
   · split
     · exact Int.dvd_trans ⟨a',z.ea⟩ (c.whole t (by omega))
     · exact c.whole i hi
 · rw[len]at h3
   rw[get i,if_neg (by omega),if_neg (by omega),get j]
   split
   · rw[hlc];exact Int.dvd_trans (c.all i s h1 (by omega) hs) ⟨a',Int.mul_comm _ _⟩
   · split
     · have d1:=c.all i t h1 (by omega) (by omega)
       have d2:=c.all i s h1 (by omega) hs
       have e:g=f1*mp M t+f2*mp M s:=by
        rw[z.ea,z.eb]
        have:=z.one
        grind
       rw[e]
       exact Int.dvd_add (Int.dvd_trans d1 ⟨f1,Int.mul_comm _ _⟩) (Int.dvd_trans d2 ⟨f2,Int.mul_comm _ _⟩)
     · exact c.all i j h1 h2 h3
 · rw[len]at h3
   rw[get t,if_neg (by omega),if_pos rfl,get j]
   split
   · rw[hlc,z.eb];exact⟨a'*b',by grind⟩
   · rw[if_neg (by omega)]
     exact Int.dvd_trans ⟨a',z.ea⟩ (c.here j h1 (by omega) h3)
theorem Chn.next{w:Int}{t s:Nat}(c:Chn w t s M)(h:M.length≤s):Chn w (t+1) (t+2) M :=
 ⟨c.pos,c.whole,fun i j h1 h2 h3=>by
  by_cases e:i<t
  · exact c.all i j e h2 h3
  · have:i=t:=by omega
    subst this
    exact c.here j h2 (by omega) h3,fun j h1 h2=>by omega⟩
theorem Chn.first{w:Int}(hp:∀ i,i<M.length→0<mp M i)(hw:∀ i,i<M.length→mp M i∣w):Chn w 0 1 M:=⟨hp,hw,fun i j h=>by omega,fun j h1 h2=>by omega⟩
end St

end
section
set_option linter.all false
set_option maxRecDepth 100000
namespace St
open Lat
theorem Sq.whole_col{r:Nat}{A:List Row}{w:Int}(q:Sq r A)(h:z24 r w (trn r A)){i:Nat}(hi:i<r):ent A i i∣w:=by
 obtain⟨c,hc⟩:=z15.mp (h i hi)
 rw[z0N]at hc
 have B:=q.below h
 have z:=z69 (m:=r) (a:=i+1) (c:=c) (D:=fun l j=>ent (trn r A) l j) B.pos B.low fun j h1 h2=>by rw[←hc j];simp only[pt];rw[if_neg (by omega)]
 have e:=hc i
 rw[z22 hi fun k hk hn=>?_]at e
 · rw[z1j q.rows]at e
   simp only[pt,if_true]at e
   exact⟨c i,by rw[e];exact Int.mul_comm _ _⟩
 · rcases Nat.lt_or_gt_of_ne hn with x|x
   · rw[B.low k i x hi];simp
   · rw[z (r-k) k (by omega) (by omega) hk];simp
theorem Sq.entryC{r:Nat}{A:List Row}(q:Sq r A){w:Int}(h:z24 r w (trn r A))(hw:0<w)(i j:Nat):0≤ent A i j∧ent A i j≤w:=by
 by_cases hj:j<r
 · have d:=Int.le_of_dvd hw (q.whole_col h hj)
   rcases Nat.lt_trichotomy i j with x|x|x
   · have:=q.red x hj;omega
   · subst x;have:=q.pos hj;omega
   · rw[q.low x];omega
 · rw[q.far (by omega)];omega
theorem Good.sq{r N B:Nat}{w:Int}{P S:List Row}(G:Good N B P S)(b:Below r N w P):S.length=r∧∀ x∈S,z00 x<r:=by
 refine⟨by rw[G.full b.ind,b.len],fun x hx=>(b.full G.asc G.span x hx).1⟩
end St

end
section
local macro_rules|`(tactic| omega)=>`(tactic| first|lia|omega +splitDisjunctions)
set_option linter.all false
set_option maxRecDepth 100000
namespace L2
open PySem
theorem z6a{a b:List Int}(h:a.length=b.length)(k:Nat):St.at0 (addR a b) k=St.at0 a k+St.at0 b k:=by
 have e:addR a b=St.lin 1 a 1 b:=by unfold addR St.lin;congr 1;funext x y;omega
 rw[e,St.z7H h];omega
theorem zaT(q:Int)(a:List Int)(k:Nat):St.at0 (sclR q a) k=q*St.at0 a k:=by
 simp only[St.at0,sclR,List.getD,List.getElem?_map]
 cases a[k]?<;>simp
theorem zc(n:Nat):z7l n=St.zgm n:=by unfold z7l St.zgm;simp
theorem z9V(n k:Nat):St.at0 (z7l n) k=0:=by rw[zc];exact St.zho n k
theorem zc0{n:Nat}:∀(rows:List (List Int)) (cs:List Int) (t:List Int),t.length=n→(∀ r∈rows,r.length=n)→∀ k,St.at0 ((rows.zip cs).foldl (fun t p=>addR t (sclR p.2 p.1)) t) k=St.at0 t k+St.mix rows cs k
 | [],cs,t,_,_,k=>by simp[St.mix]
 | r::rows,[],t,_,_,k=>by simp[St.mix]
 | r::rows,c::cs,t,ht,hw,k=>by
  have hr:=hw r List.mem_cons_self
  rw[List.zip_cons_cons,List.foldl_cons,zc0 rows cs _ (by rw[z4i (by rw[z0R,ht,hr])];exact ht) (fun x hx=>hw x (List.mem_cons_of_mem _ hx)),z6a (by rw[z0R,ht,hr]),zaT]
  show St.at0 t k+c*St.at0 r k+St.mix rows cs k=St.at0 t k+(c*St.at0 r k+St.mix rows cs k)
  omega
theorem ziW{n:Nat}{rows:List (List Int)}{cs:List Int}(hw:∀ r∈rows,r.length=n)(k:Nat):St.at0 (mixR n rows cs) k=St.mix rows cs k:=by
 unfold mixR
 rw[zc0 rows cs (z7l n) z3s hw,z9V];omega
theorem zero_add{n:Nat}{v:List Int}(hv:v.length=n):addR (z7l n) v=v:=St.ext0 (by rw[z4i (by rw[z3s,hv]),z3s,hv]) fun k=>by rw[z6a (by rw[z3s,hv]),z9V];omega
theorem ziX{r:List Int}{x:Int}(h:x∈r):∃ k,St.at0 r k=x:=by
 obtain⟨k,hk,e⟩:=List.mem_iff_getElem.mp h
 exact⟨k,by simp[St.at0,List.getD,List.getElem?_eq_getElem hk,e]⟩
end L2
namespace L2
open PySem
theorem zaU{n i:Nat}(h:i<n):ixN n (i:Int)=some i:=by
 unfold ixN
 rw[if_pos (by omega),if_pos (by omega)];simp
theorem z2f{i j:Int}(h:0<j):z2w i j=true:=by unfold z2w;rw[decide_eq_true (show j≠0 by omega)]
theorem zc1{i j:Int}(h:0<j)(h2:j<1000000):z1G i j=true:=by
 unfold z1G
 rw[decide_eq_true (show j≠0 by omega),decide_eq_true (show j.natAbs.log2<9000 from ?_)]
 · rfl
 · refine Nat.lt_of_lt_of_le ((Nat.log2_lt (k:=20) (by omega)).mpr (by omega)) (by decide)
end L2
namespace L2
open PySem
theorem z9W{α γ:Type}{g:Tg}{F:FS}(e:α→Dt)(bad:α→Prop)(R:γ→Rho)(f:Fl)(d:Dt):∀(xs:List α) (j:γ),(∀ x∈xs,∀ j,bad x→(g.put (e x) (R j)).bind F=some (.rt f d))→(∀ x∈xs,∀ j,¬bad x→∃ j',(g.put (e x) (R j)).bind F=some (.nx (R j'))) →
  ((∃ x∈xs,bad x)→forF g F (xs.map e) (R j)=some (.rt f d))∧((∀ x∈xs,¬bad x)→∃ j',forF g F (xs.map e) (R j)=some (.nx (R j')))
 | [],j,_,_=>⟨fun⟨x,hx,_⟩=>(nomatch hx),fun _=>⟨j,rfl⟩⟩
 | x::xs,j,h1,h2=>by
  by_cases hb:bad x
  · have e1:=h1 x List.mem_cons_self j hb
    refine⟨fun _=>?_,fun h=>absurd hb (h x List.mem_cons_self)⟩
    rw[List.map_cons,z1t,e1];rfl
  · obtain⟨j1,e1⟩:=h2 x List.mem_cons_self j hb
    obtain⟨i1,i2⟩:=z9W e bad R f d xs j1 (fun y hy=>h1 y (List.mem_cons_of_mem _ hy)) (fun y hy=>h2 y (List.mem_cons_of_mem _ hy))
    rw[List.map_cons,z1t,e1]
    refine⟨fun⟨y,hy,by_⟩=>?_,fun h=>i2 fun y hy=>h y (List.mem_cons_of_mem _ hy)⟩
    rcases List.mem_cons.mp hy with rfl|hy
    · exact absurd by_ hb
    · exact i1 ⟨y,hy,by_⟩
theorem us0{P:List Value→Prop}(h:P []):∀ us:List Value,us.length=0→P us:=fun us hl=>(List.length_eq_zero_iff.mp hl).symm ▸ h
theorem usS{P:List Value→Prop}{n:Nat}(h:∀ a us,us.length=n→P (a::us)):∀ us:List Value,us.length=n+1→P us:=fun us hl=>by
 cases us with
 | nil=>cases hl
 | cons a us=>exact h a us (Nat.succ.inj hl)
theorem us1{P:List Value→Prop}(h:∀ a,P [a]):∀ us:List Value,us.length=1→P us:=usS fun a=>us0 (h a)
theorem us2{P:List Value→Prop}(h:∀ a b,P [a,b]):∀ us:List Value,us.length=2→P us:=usS fun a=>(usS fun b=>us0 (h a b))
theorem us3{P:List Value→Prop}(h:∀ a b c,P [a,b,c]):∀ us:List Value,us.length=3→P us:=usS fun a=>(usS fun b=>(usS fun c=>us0 (h a b c)))
theorem us4{P:List Value→Prop}(h:∀ a b c d,P [a,b,c,d]):∀ us:List Value,us.length=4→P us:=usS fun a=>(usS fun b=>(usS fun c=>(usS fun d=>us0 (h a b c d))))
end L2

end
section
set_option Elab.async false
set_option linter.all false
set_option maxRecDepth 100000
set_option maxHeartbeats 1000000
namespace K19
open PySem L2
noncomputable section
def h_HallError:Nat→Bool:=(fun n=>n==3)
def h_NoPlace:Nat→Bool:=(fun n=>n==3)
def z5y:FS:=(sRet (vAnd (fIsi "int" (fN 0)) (vNot (fIsi "bool" (fN 0)))))
def z1N:FC:=cOf 1 1 true z5y
def z4r:FS:=(sSeq (sIf (fOr (fNot (fTru (fIsi "list" (fN 0)))) (z0p (fOp opNe (fBlt bLen (z02 (fN 0) fNil)) (fN 1)))) (sRet (fC (.bl false))) z0M)
 (sRet (fBlt bAll (z02 (z0d 1 [] (iSeq (fN 0)) (Tg.one 0) fYes (z08 true z1N (z02 (fN 0) fNil))) fNil))))
def z1J:FC:=cOf 2 2 true z4r
def z5z:FS:=(sRet (z0d 1 [1] (z0D (fN 0)) (Tg.one 0) fYes (fIf (z0p (fOp opEq (fN 0) (fN 1))) (fC (.int 1)) (fC (.int 0)))))
def z2Y:FC:=cOf 2 2 true z5z
def zaV:FS:=(sRet (z0d 2 [] (iZip (fN 0) (fN 1)) (Tg.many [0,1]) fYes (fOp z0u (fN 0) (fN 1))))
def z52:FC:=cOf 2 2 true zaV
def zaW:FS:=(sRet (z0d 2 [] (iZip (fN 0) (fN 1)) (Tg.many [0,1]) fYes (fOp z5P (fN 0) (fN 1))))
def z53:FC:=cOf 2 2 true zaW
def z8A:FS:=(sRet (z0d 1 [1] (iSeq (fN 0)) (Tg.one 0) fYes (fOp z1X (fN 1) (fN 0))))
def z1s:FC:=cOf 2 2 true z8A
def z6Q:FS:=(sSeq (sFor [] (z2V (fN 0)) (Tg.many [1,2])
 (sIf (z0p (fOp opNe (fN 2) (fC (.int 0)))) (sRet (fN 1)) z0M))
 (sRet (fBlt bLen (z02 (fN 0) fNil))))
def z0g:FC:=cOf 1 3 true z6Q
def z4s:FS:=(sRet (vAnd (z08 true z1N (z02 (fN 0) fNil)) (z85 opLe opLe (fC (.int 1)) (fN 0) (fC (.int 6)))))
def z3b:FC:=cOf 1 1 true z4s
def z6R:FS:=(sRet (vAnd (z08 true z1J (z02 (fN 0) (z02 (fN 1) fNil))) (fBlt bAll (z02 (z0d 1 [] (iSeq (fN 0)) (Tg.one 0) fYes (fOp opLt (fBlt bAbs (z02 (fN 0) fNil)) (fOp z7c (fC (.int 10)) (fC (.int 30))))) fNil))))
def z54:FC:=cOf 2 2 true z6R
def z3U:FS:=(sIf (fNot (fTru (z08 true z3b (z02 (fN 0) fNil)))) z6z z0M)
def z2G:FC:=cOf 1 1 true z3U
def z4t:FS:=(sIf (fNot (fTru (z08 true z54 (z02 (fN 0) (z02 (fN 1) fNil))))) z6z z0M)
def z1R:FC:=cOf 2 2 true z4t
def z6S:FS:=(sRet (fTup (z02 (fN 0) (z02 (fBlt bTup (z02 (z0d 1 [] (iSeq (fN 1)) (Tg.one 0) fYes (fBlt bTup (z02 (fN 0) fNil))) fNil)) fNil))))
def z55:FC:=cOf 2 2 true z6S
def z6T:FS:=(sSeq (z8b (z08 true z2G (z02 (fN 0) fNil)))
 (sSeq (sIf (fOr (fNot (fTru (fIsi "list" (fN 1)))) (z0p (fOp opGt (fBlt bLen (z02 (fN 1) fNil)) (fC (.int 8))))) z6z z0M)
 (sSeq (sFor [] (iSeq (fN 1)) (Tg.one 2)
 (z8b (z08 true z1R (z02 (fN 2) (z02 (fN 0) fNil)))))
 (sRet (z08 true z55 (z02 (fN 0) (z02 (fN 1) fNil)))))))
def z3u:FC:=cOf 2 3 true z6T
def z8B:FS:=(sSeq (sSet [] 2 (fLst (z02 (fN 0) (z02 (fC (.int 1)) (z02 (fC (.int 0)) fNil)))))
 (sSeq (sSet [] 3 (fLst (z02 (fN 1) (z02 (fC (.int 0)) (z02 (fC (.int 1)) fNil)))))
 (sSeq (z3h (z0p (fOp opNe (fAt (fN 3) (fC (.int 0))) (fC (.int 0)))) (sSeq (sSet [] 4 (fOp z2x (fAt (fN 2) (fC (.int 0))) (fAt (fN 3) (fC (.int 0)))))
 (sSeq (sSet [] 5 (z0d 1 [2,4,3] (z0D (fC (.int 3))) (Tg.one 0) fYes (fOp z5P (fAt (fN 1) (fN 0)) (fOp z1X (fN 2) (fAt (fN 3) (fN 0))))))
 (sSeq (sSet [] 2 (fN 3))
 (sSet [] 3 (fN 5))))))
 (sSeq (sIf (z0p (fOp opLt (fAt (fN 2) (fC (.int 0))) (fC (.int 0)))) (sSet [] 2 (z0d 1 [] (iSeq (fN 2)) (Tg.one 0) fYes (fNeg (fN 0)))) z0M)
 (sRet (fBlt bTup (z02 (fN 2) fNil)))))))
def z4u:FC:=cOf 2 6 true z8B
def zaX:FS:=(sSeq (sIf (z0p (fOp opEq (fN 1) (fC (.int 0)))) (sRet (fN 0)) z0M)
 (sRet (fOp z1p (fN 0) (fN 1))))
def z3l:FC:=cOf 2 2 true zaX
def z6U:FS:=(sSeq (sSet [] 1 (fC (.int 1)))
 (sSeq (sFor [] (iSeq (fN 0)) (Tg.one 2)
 (sSet [] 1 (fOp z1X (fN 1) (fN 2))))
 (sRet (fN 1))))
def z56:FC:=cOf 1 3 true z6U
def z5A:FS:=(sSeq (sSet [] 2 (fBlt bLst (z02 (fN 0) fNil)))
 (sSeq (sOwn 3 (fLst fNil))
 (sSeq (sFor [] (iSeq (fN 1)) (Tg.one 4)
 (sSeq (sSet [] 5 (z08 true z0g (z02 (fN 4) fNil)))
 (sSeq (sSet [] 6 (fOp z2x (fAt (fN 2) (fN 5)) (fAt (fN 4) (fN 5))))
 (sSeq (sIf (z0p (fOp opNe (fN 6) (fC (.int 0)))) (sSet [] 2 (z08 true z53 (z02 (fN 2) (z02 (z08 true z1s (z02 (fN 4) (z02 (fN 6) fNil))) fNil)))) z0M)
 (sWr wApp 3 (fN 6))))))
 (sRet (fTup (z02 (fN 3) (z02 (fN 2) fNil)))))))
def z3V:FC:=cOf 2 7 true z5A
def z6V:FS:=(sRet (fAt (z08 true z3V (z02 (fN 0) (z02 (fN 1) fNil))) (fC (.int 1))))
def z0S:FC:=cOf 2 2 true z6V
def z6W:FS:=(sSeq (sSet [] 2 (z08 true z0g (z02 (fN 0) fNil)))
 (sSeq (sSet [] 3 (z08 true z4u (z02 (fAt (fN 0) (fN 2)) (z02 (fAt (fN 1) (fN 2)) fNil))))
 (sSeq (sSet [] 4 (z08 true z52 (z02 (z08 true z1s (z02 (fN 0) (z02 (fAt (fN 3) (fC (.int 1))) fNil))) (z02 (z08 true z1s (z02 (fN 1) (z02 (fAt (fN 3) (fC (.int 2))) fNil))) fNil))))
 (sSeq (sSet [] 5 (z08 true z53 (z02 (z08 true z1s (z02 (fN 1) (z02 (fOp z2x (fAt (fN 0) (fN 2)) (fAt (fN 3) (fC (.int 0)))) fNil))) (z02 (z08 true z1s (z02 (fN 0) (z02 (fOp z2x (fAt (fN 1) (fN 2)) (fAt (fN 3) (fC (.int 0)))) fNil))) fNil))))
 (sRet (fTup (z02 (fN 4) (z02 (fN 5) fNil))))))))
def z2L:FC:=cOf 2 6 true z6W
def z4v:FS:=(sRet (fIf (z0p (fOp opLt (fAt (fN 0) (z08 true z0g (z02 (fN 0) fNil))) (fC (.int 0)))) (z08 true z1s (z02 (fN 0) (z02 (fNeg (fC (.int 1))) fNil))) (fBlt bLst (z02 (fN 0) fNil))))
def z16:FC:=cOf 1 1 true z4v
def z2Z:FS:=(sSeq (sOwn 2 (fBlt bLst (z02 (fN 0) fNil)))
 (sSeq (z2m 3 (z08 true z0S (z02 (fN 1) (z02 (fN 2) fNil))))
 (sSeq (z3h (z0p (fOp opLt (z08 true z0g (z02 (fN 3) fNil)) (fBlt bLen (z02 (fN 3) fNil)))) (sSeq (z2m 4 (z0d 2 [3] (z2V (fN 2)) (Tg.many [0,1]) (z0p (fOp opEq (z08 true z0g (z02 (fN 1) fNil)) (z08 true z0g (z02 (fN 2) fNil)))) (fN 0)))
 (sSeq (sIf (z0p (fOp opEq (fBlt bLen (z02 (fN 4) fNil)) (fC (.int 0)))) (sRet (z5t z0g (fOp z0u (fN 2) (fLst (z02 (z08 true z16 (z02 (fN 3) fNil)) fNil))))) z0M)
 (sSeq (z2m 5 (z08 true z2L (z02 (fAt (fN 2) (fAt (fN 4) (fC (.int 0)))) (z02 (fN 3) fNil))))
 (sSeq (sPut 2 (fAt (fN 4) (fC (.int 0))) (fAt (fN 5) (fC (.int 0))))
 (z2m 3 (z08 true z0S (z02 (fAt (fN 5) (fC (.int 1))) (z02 (fN 2) fNil)))))))))
 (sRet (fN 2)))))
def z2g:FC:=cOf 2 6 false z2Z
def z8C:FS:=(sSeq (sOwn 1 (fLst fNil))
 (sSeq (sFor [] (iRev (fN 0)) (Tg.one 2)
 (sWrA z8f 1 (z08 true z0S (z02 (fN 2) (z02 (fN 1) fNil)))))
 (sRet (fN 1))))
def z4w:FC:=cOf 1 3 true z8C
def z6X:FS:=(sSeq (sSet [] 1 (fLst fNil))
 (sSeq (sFor [] (iSeq (fN 0)) (Tg.one 2)
 (sSet [] 1 (z08 true z4w (z02 (z08 false z2g (z02 (fN 1) (z02 (fN 2) fNil))) fNil))))
 (sRet (fN 1))))
def z1S:FC:=cOf 1 3 true z6X
def z30:FS:=(sRet (z08 true z1S (z02 (z0d 2 [] (iZip (fN 0) (fN 1)) (Tg.many [0,1]) fYes (fOp z0u (fBlt bLst (z02 (fN 0) fNil)) (fBlt bLst (z02 (fN 1) fNil)))) fNil)))
def z1c:FC:=cOf 2 2 true z30
def z2h:FS:=(sRet (z0d 1 [1] (iSeq (fN 0)) (Tg.one 0) (z0p (fOp opGe (z08 true z0g (z02 (fN 0) fNil)) (fN 1))) (fSl (fN 0) (z1H (fN 1)) z0I)))
def z0L:FC:=cOf 2 2 true z2h
def zaY:FS:=(sRet (z08 true z1S (z02 (fAt (fN 0) (fC (.int 1))) fNil)))
def z57:FC:=cOf 1 1 true zaY
def z8D:FS:=(sRet (z0d 1 [0] (z0D (fN 1)) (Tg.one 0) fYes (z0d 1 [0] (iSeq (fN 1)) (Tg.one 0) fYes (fAt (fN 0) (fN 1)))))
def z2s:FC:=cOf 2 2 true z8D
def z3W:FS:=(sSeq (sFor [] (z2V (fN 0)) (Tg.many [1,2])
 (sIf (fOr (z0p (fOp opNe (z08 true z0g (z02 (fN 2) fNil)) (fN 1))) (fTru (fBlt bAny (z02 (z0d 1 [] (iSeq (fSl (fN 2) (z1H (fOp z0u (fN 1) (fC (.int 1)))) z0I)) (Tg.one 0) fYes (fOp opNe (fN 0) (fC (.int 0)))) fNil)))) (sRet (fC (.bl false))) z0M))
 (sRet (fC (.bl true))))
def z1O:FC:=cOf 1 3 true z3W
def zaZ:FS:=(sRet (z0d 1 [1] (iSeq (fN 0)) (Tg.one 0) fYes (z08 true z3l (z02 (fN 0) (z02 (fN 1) fNil)))))
def z2l:FC:=cOf 2 2 true zaZ
def z3v:FS:=(sSeq (sSet [] 3 (fBlt bLen (z02 (fN 0) fNil)))
 (sSeq (sSet [] 4 (fN 0))
 (sSeq (sSet [] 5 (fN 1))
 (sSeq (z3h (fNot (fTru (z08 true z1O (z02 (fN 4) fNil)))) (sSeq (sSet [] 6 (z08 true z2s (z02 (z08 true z1S (z02 (z08 true z2s (z02 (fN 4) (z02 (fN 3) fNil))) fNil)) (z02 (fN 3) fNil))))
 (sSeq (sSet [] 7 (z08 true z1c (z02 (fN 6) (z02 (fN 5) fNil))))
 (sSeq (sSet [] 4 (z0d 1 [3] (iSeq (fN 7)) (Tg.one 0) fYes (fSl (fN 0) z0I (z1H (fN 1)))))
 (sSet [] 5 (z0d 1 [3,2] (iSeq (fN 7)) (Tg.one 0) fYes (z08 true z2l (z02 (fSl (fN 0) (z1H (fN 1)) z0I) (z02 (fN 2) fNil)))))))))
 (sRet (z0d 2 [4] (z2V (fN 5)) (Tg.many [0,1]) fYes (fTup (z02 (fN 1) (z02 (fAt (fAt (fN 2) (fN 0)) (fN 0)) fNil)))))))))
def z58:FC:=cOf 3 8 false z3v
def z4x:FS:=(sSeq (sSet [] 2 (z08 true z4u (z02 (fAt (fN 0) (fC (.int 1))) (z02 (fAt (fN 1) (fC (.int 1))) fNil))))
 (sSeq (sSet [] 3 (fAt (fN 2) (fC (.int 0))))
 (sSeq (sSet [] 4 (fOp z1X (fOp z2x (fAt (fN 0) (fC (.int 1))) (fN 3)) (fAt (fN 1) (fC (.int 1)))))
 (sSeq (sSet [] 5 (z08 true z52 (z02 (fAt (fN 0) (fC (.int 0))) (z02 (fAt (fN 1) (fC (.int 0))) fNil))))
 (sSeq (sSet [] 6 (z08 true z52 (z02 (z08 true z1s (z02 (fAt (fN 0) (fC (.int 0))) (z02 (fOp z1X (fNeg (fAt (fN 2) (fC (.int 2)))) (fOp z2x (fAt (fN 1) (fC (.int 1))) (fN 3))) fNil))) (z02 (z08 true z1s (z02 (fAt (fN 1) (fC (.int 0))) (z02 (fOp z1X (fAt (fN 2) (fC (.int 1))) (fOp z2x (fAt (fN 0) (fC (.int 1))) (fN 3))) fNil))) fNil))))
 (sRet (fTup (z02 (fTup (z02 (z08 true z2l (z02 (fN 5) (z02 (fN 3) fNil))) (z02 (fN 3) fNil))) (z02 (fTup (z02 (z08 true z2l (z02 (fN 6) (z02 (fN 4) fNil))) (z02 (fN 4) fNil))) fNil)))))))))
def z31:FC:=cOf 2 7 true z4x
def z3w:FS:=(sSeq (sOwn 1 (fBlt bLst (z02 (fN 0) fNil)))
 (sSeq (z7h (z0D (fBlt bLen (z02 (fN 1) fNil))) (Tg.one 2)
 (z7h (z7F (fOp z0u (fN 2) (fC (.int 1))) (fBlt bLen (z02 (fN 1) fNil))) (Tg.one 3)
 (sSeq (z2m 4 (z08 true z31 (z02 (fAt (fN 1) (fN 2)) (z02 (fAt (fN 1) (fN 3)) fNil))))
 (sSeq (sPut 1 (fN 2) (fAt (fN 4) (fC (.int 0))))
 (sPut 1 (fN 3) (fAt (fN 4) (fC (.int 1))))))))
 (sRet (z0d 2 [] (iSeq (fN 1)) (Tg.many [0,1]) fYes (fTup (z02 (z08 true z2l (z02 (fN 0) (z02 (fN 1) fNil))) (z02 (fN 1) fNil)))))))
def z2M:FC:=cOf 1 5 true z3w
def z32:FS:=(sSeq (sSet [] 1 (fAt (fN 0) (fC (.int 0))))
 (sSeq (sSet [] 2 (z08 true z57 (z02 (fN 0) fNil)))
 (sSeq (sSet [] 3 (fBlt bLen (z02 (fN 2) fNil)))
 (sSeq (sSet [] 4 (z08 true z1c (z02 (z08 true z2s (z02 (fN 2) (z02 (fN 1) fNil))) (z02 (z0d 1 [1] (z0D (fN 1)) (Tg.one 0) fYes (z08 true z2Y (z02 (fN 1) (z02 (fN 0) fNil)))) fNil))))
 (sSeq (sSet [] 5 (z0d 1 [3] (iSeq (fSl (fN 4) z0I (z1H (fN 3)))) (Tg.one 0) fYes (fSl (fN 0) z0I (z1H (fN 1)))))
 (sSeq (sSet [] 6 (z08 true z56 (z02 (z0d 2 [] (z2V (fN 5)) (Tg.many [0,1]) fYes (fAt (fN 1) (fN 0))) fNil)))
 (sSeq (sSet [] 7 (z08 false z58 (z02 (fN 5) (z02 (z0d 1 [3] (iSeq (fSl (fN 4) z0I (z1H (fN 3)))) (Tg.one 0) fYes (fSl (fN 0) (z1H (fN 1)) z0I)) (z02 (fN 6) fNil)))))
 (sRet (fOp z0u (z08 true z2M (z02 (fN 7) fNil)) (z0d 1 [] (iSeq (z08 true z0L (z02 (fN 4) (z02 (fN 3) fNil)))) (Tg.one 0) fYes (fTup (z02 (fN 0) (z02 (fC (.int 0)) fNil)))))))))))))
def z1k:FC:=cOf 1 8 false z32
def zb0:FS:=(sRet (z0d 2 [] (iSeq (z08 false z1k (z02 (fN 0) fNil))) (Tg.many [0,1]) fYes (fN 1)))
def z7L:FC:=cOf 1 1 true zb0
def z3X:FS:=(sSeq (sIf (fNot (fTru (z08 true z1J (z02 (fN 1) (z02 (fBlt bLen (z02 (fN 0) fNil)) fNil))))) (z6C 3) z0M)
 (sFor [] (iZip (fN 1) (fN 0)) (Tg.many [2,3])
 (sIf (z0p (fOp opNe (z08 true z3l (z02 (fN 2) (z02 (fAt (fN 3) (fC (.int 1))) fNil))) (fN 2))) (z6C 3) z0M)))
def z3Y:FX:=xOf 2 4 true z3X
def z4y:FS:=(sSeq (sSet [] 2 (z08 false z1k (z02 (fN 0) fNil)))
 (sSeq (zaJ z3Y (z02 (fN 2) (z02 (fN 1) fNil)))
 z6z))
def z3c:FX:=xOf 2 3 true z4y
def z4z:FS:=(sSeq (sIf (z0p (fOp opLt (fN 1) (fBlt bLen (z02 (fN 0) fNil)))) (sRet (fAt (fN 0) (fN 1))) z0M)
 (sSeq (sIf (z0p (fOp opEq (fN 0) (fLst fNil))) (sRet (fC (.int 0))) z0M)
 (sRet (fOp z0u (fOp z1X (fAt (fN 0) (fOp z1p (fN 1) (fBlt bLen (z02 (fN 0) fNil)))) (fC (.int 31))) (fN 1)))))
def z0G:FC:=cOf 2 2 true z4z
def z33:FS:=(sSeq (sIf (z0p (fOp opEq (fN 1) (fC (.int 2)))) (sSeq (sSet [] 2 (fOp z1p (fN 0) (fOp z7c (fC (.int 10)) (fC (.int 30)))))
 (sSeq (sIf (z0p (fOp opEq (fOp z1p (fOp z2x (fN 0) (fOp z7c (fC (.int 10)) (fC (.int 30)))) (fC (.int 2))) (fC (.int 1)))) (sRet (fNeg (fN 2))) z0M)
 (sRet (fN 2)))) z0M)
 (sSeq (sSet [] 3 (fAt (fLst (z02 (fC (.int 9)) (z02 (fC (.int 61)) fNil))) (fN 1)))
 (sSeq (sSet [] 2 (fOp z1p (fN 0) (fN 3)))
 (sSeq (sIf (z0p (fOp opGt (fN 2) (fOp z2x (fN 3) (fC (.int 2))))) (sRet (fOp z5P (fN 2) (fN 3))) z0M)
 (sRet (fN 2))))))
def z2i:FC:=cOf 2 4 true z33
def zb1:FS:=(sRet (z0d 1 [0,1,3] (z0D (fN 2)) (Tg.one 0) fYes (z08 true z2i (z02 (z08 true z0G (z02 (fN 1) (z02 (fOp z0u (fN 2) (fN 0)) fNil))) (z02 (fN 3) fNil)))))
def z3Z:FC:=cOf 4 4 true zb1
def z9X:FS:=(sSeq (sSet [] 1 (fAt (fLst (z02 (fC (.int 0)) (z02 (fC (.int 0)) (z02 (fC (.int 0)) (z02 (fC (.int 1)) (z02 (fC (.int 2)) fNil)))))) (fOp z1p (z08 true z0G (z02 (fN 0) (z02 (fC (.int 2)) fNil))) (fC (.int 5)))))
 (sSeq (sSet [] 2 (fOp z0u (fC (.int 1)) (fOp z1p (z08 true z0G (z02 (fN 0) (z02 (fC (.int 0)) fNil))) (fC (.int 4)))))
 (sSeq (sSet [] 3 (fOp z1p (z08 true z0G (z02 (fN 0) (z02 (fC (.int 1)) fNil))) (fC (.int 5))))
 (sSeq (sIf (z0p (fOp opEq (fOp z1p (z08 true z0G (z02 (fN 0) (z02 (fC (.int 3)) fNil))) (fC (.int 7))) (fC (.int 6)))) (sSeq (sSet [] 2 (fC (.int 6)))
 (sSeq (sSet [] 3 (fC (.int 8)))
 (sSet [] 1 (fC (.int 0))))) z0M)
 (sSeq (sIf (z0p (fOp opEq (fN 1) (fC (.int 2)))) (sSeq (sSet [] 2 (fOp z0u (fC (.int 1)) (fOp z1p (fN 2) (fC (.int 2)))))
 (sSet [] 3 (fOp z1p (fN 3) (fC (.int 4))))) z0M)
 (sRet (fTup (z02 (fN 2) (z02 (z0d 1 [0,2,1] (z0D (fN 3)) (Tg.one 0) fYes (z08 true z3Z (z02 (fN 1) (z02 (fOp z0u (fC (.int 8)) (fOp z1X (fN 2) (fN 0))) (z02 (fN 2) (z02 (fN 3) fNil)))))) fNil)))))))))
def z6Y:FC:=cOf 1 4 true z9X
def z40:FS:=(sSeq (sOwn 3 (z0d 1 [] (iSeq (fN 0)) (Tg.one 0) fYes (fC (.int 0))))
 (sSeq (sSet [] 4 (fOp z1p (fOp z2x (fN 2) (fC (.int 3))) (fBlt bLen (z02 (fN 0) fNil))))
 (sSeq (sIf (z0p (fOp opEq (fN 1) (fC (.int 1)))) (sRet (fOp z0u (fN 3) (fLst (z02 (fC (.int 0)) fNil)))) z0M)
 (sSeq (sIf (z0p (fOp opEq (fN 1) (fC (.int 2)))) (sRet (fSl (fN 3) (z1H (fC (.int 1))) z0I)) z0M)
 (sSeq (sIf (z0p (fOp opEq (fN 1) (fC (.int 3)))) (sSeq (sPut 3 (fN 4) (fAt (fLst (z02 (fC (.bl true)) (z02 (fC (.str "0")) (z02 (fC .non) fNil)))) (fOp z1p (fN 2) (fC (.int 3)))))
 (sRet (fN 3))) z0M)
 (sSeq (sIf (fAnd (z0p (fOp opGt (fN 1) (fC (.int 3)))) (z0p (fOp opGt (fAt (fN 0) (fN 4)) (fC (.int 0))))) (sSeq (sPut 3 (fN 4) (fAt (fLst (z02 (fNeg (fC (.int 1))) (z02 (fAt (fN 0) (fN 4)) (z02 (fOp z0u (fAt (fN 0) (fN 4)) (fOp z1p (fN 2) (fOp z7c (fC (.int 10)) (fC (.int 9))))) (z02 (fOp z5P (fNeg (fC (.int 1))) (fOp z1p (fN 2) (fOp z7c (fC (.int 10)) (fC (.int 9))))) fNil))))) (fOp z0u (fOp z1p (fN 1) (fC (.int 2))) (fOp z1p (fN 2) (fC (.int 3))))))
 (sRet (fN 3))) z0M)
 (sRet (fAt (fLst (z02 (fBlt bTup (z02 (fN 3) fNil)) (z02 (fC .non) (z02 (fC (.int 7)) (z02 (fC (.str "0")) (z02 (fC .dic) fNil)))))) (fOp z1p (fN 2) (fC (.int 5)))))))))))
def z1z:FC:=cOf 3 5 true z40
def ziY:FS:=(sSeq (sSet [] 1 (z08 true z6Y (z02 (fN 0) fNil)))
 (sSeq (sSet [] 2 (z08 true z3u (z02 (fAt (fN 1) (fC (.int 0))) (z02 (z0d 1 [] (iSeq (fAt (fN 1) (fC (.int 1)))) (Tg.one 0) fYes (fBlt bLst (z02 (fN 0) fNil))) fNil))))
 (sSeq (sSet [] 3 (z08 true z1z (z02 (z08 true z7L (z02 (fN 2) fNil)) (z02 (fOp z1p (z08 true z0G (z02 (fN 0) (z02 (fC (.int 4)) fNil))) (fC (.int 6))) (z02 (z08 true z0G (z02 (fN 0) (z02 (fC (.int 5)) fNil))) fNil)))))
 (sSeq (sSet [] 4 (fC (.int 0)))
 (sSeq (sTry z3c (z02 (fN 2) (z02 (fN 3) fNil)) h_NoPlace (sSet [] 4 (fOp z0u (fN 4) (fC (.int 1)))))
 (sSeq (zaK z3c (z02 (fN 2) (z02 (fN 3) fNil)) h_HallError 5 (sSet [] 4 (fOp z0u (fN 4) (fBlt bInt (z02 (fIsx 5) fNil)))))
 (sRet (fOp opEq (fN 4) (fC (.int 2))))))))))
def zgt:FC:=cOf 1 6 true ziY
theorem z1l(ns:List Int)(k:Int)(h0:0≤k):z0G [.scr ns,.int k]=some (.int (z0q ns k)):=by
 unfold z0G z4z z0q
 by_cases h:k<ns.length
 · have e:atI ns k=some (ns.getD k.toNat 0):=by
     rw[zgg h0,List.getElem?_eq_getElem (by omega)];simp[List.getD,List.getElem?_eq_getElem (show k.toNat<ns.length by omega)]
   simp[cOf,h,e]
 · by_cases h2:ns=[]
   · subst h2
     simp[cOf,h,zbG [] [],show ¬k<0 by omega]
     rfl
   · have hp:0<ns.length:=List.length_pos_iff.mpr h2
     obtain⟨f1,f2⟩:=z17 k (show(0:Int)<ns.length by omega)
     have e:atI ns (k.fmod ns.length)=some (ns.getD (k.fmod ns.length).toNat 0):=by
      rw[zgg f1,List.getElem?_eq_getElem (by omega)];simp[List.getD,List.getElem?_eq_getElem (show(k.fmod ns.length).toNat<ns.length by omega)]
     have e2:opEq (.scr ns) (.lst [])=some (.nw,.bl false):=by have:=zbG ns [];rw[decide_eq_false h2]at this;exact this
     simp[cOf,h,h2,e,e2,z7k,z2w,show ¬((ns.length:Int)=0) by omega]
theorem zc2(c m:Int)(h0:0≤m)(h3:m<3):z2i [.int c,.int m]=some (.int (z9J c m)):=by
 unfold z2i z9J
 have hm:m=0∨m=1∨m=2:=by omega
 have d30:z1G c 1000000000000000000000000000000=true:=by unfold z1G;decide
 have d9:z1G 9 2=true:=by unfold z1G;decide
 have d61:z1G 61 2=true:=by unfold z1G;decide
 have p30:z5O 10 30=true:=by unfold z5O;decide
 have two:∀(m w v:Int),m≠2→atI [Dt.int 9,Dt.int 61] m=some (.int w)→0<w→z1G w 2=true→w.fdiv 2=v→cOf 2 4 true z33 [.int c,.int m]=some (.int (if v<c.fmod w then c.fmod w-w else c.fmod w)):=fun m w v hm2 ha hw hd hv=>by
   refine z3Q (f := .nw) rfl (run (ρ':=[.sh false (.int c),.sh false (.int m),.no,.no]) (by simp[cOf,z0v,hm2]) (run (ρ':=[.sh false (.int c),.sh false (.int m),.no,.sh true (.int w)]) (by simp[cOf,ha]) (run (ρ':=[.sh false (.int c),.sh false (.int m),.sh true (.int (c.fmod w)),.sh true (.int w)]) (by simp[cOf,z2w,show ¬w=0 by omega]) ?_))) rfl
   by_cases h:v<c.fmod w
   · simp[cOf,hd,hv,h]
   · simp[cOf,hd,hv,h]
 rcases hm with rfl|rfl|rfl
 · exact(two 0 9 4 (by decide) rfl (by decide) d9 rfl).trans (by simp)
 · exact(two 1 61 30 (by decide) rfl (by decide) d61 rfl).trans (by simp)
 · by_cases h:(c.fdiv 1000000000000000000000000000000).fmod 2=1
   · simp[cOf,z33,z0v,z2w,p30,d30,h]
   · simp[cOf,z33,z0v,z2w,p30,d30,h]
theorem ziZ(ns:List Int)(a:Int)(n:Nat)(m:Int)(ha:0≤a)(hn:n≤1000)(h0:0≤m)(h3:m<3):z3Z [.scr ns,.int a,.int n,.int m]=some (L (z5j ns a n m)):=by
 unfold z3Z zb1
 have q:z0d 1 [0,1,3] (z0D (fN 2)) (Tg.one 0) fYes (z08 true z2i (z02 (z08 true z0G (z02 (fN 1) (z02 (fOp z0u (fN 2) (fN 0)) fNil))) (z02 (fN 3) fNil))) (rho0 4 [.scr ns,.int a,.int n,.int m])=some (.nw,L (z5j ns a n m)):=by
  have:=z0j (nt:=1) (js:=[0,1,3]) (Fi:=z0D (fN 2)) (g:=Tg.one 0) (Fe:=z08 true z2i (z02 (z08 true z0G (z02 (fN 1) (z02 (fOp z0u (fN 2) (fN 0)) fNil))) (z02 (fN 3) fNil))) (ρ:=rho0 4 [.scr ns,.int a,.int n,.int m]) (e:=fun(k:Nat) => .int (0+(k:Int))) (h:=fun(k:Nat) => .int (z9J (z0q ns (a+(k:Int))) m)) (xs:=List.range n)
   (by simp[cOf,z0D,intD,z2S,z1x,show(n:Int)≤1000000 by omega,show -1000000≤(n:Int) by omega])
   (fun k hk=>by simp[cOf,Tg.put,sigD,z5T,z1l ns (a+(k:Int)) (by omega),zc2 _ m h0 h3])
  rw[this];simp[L,z5j]
 exact z3Q rfl (f := .nw) (by unfold sRet;rw[q];rfl) rfl
theorem zb2(ns:List Int)(m:Int)(k n:Nat)(f1 f2 f3:Bool)(h0:0≤m)(h3:m<3)(hk:k≤100)(hn:n≤100):
    (z0d 1 [0,2,1] (z0D (fN 3)) (Tg.one 0) fYes (z08 true z3Z (z02 (fN 1) (z02 (fOp z0u (fC (.int 8)) (fOp z1X (fN 2) (fN 0))) (z02 (fN 2) (z02 (fN 3) fNil)))))) [.sh false (.scr ns),.sh f1 (.int m),.sh f2 (.int k),.sh f3 (.int n)] =
      some (.nw,LL ((List.range n).map fun(j:Nat)=>z5j ns (8+(k:Int)*(j:Int)) k m)):=by
  have:=z0j (nt:=1) (js:=[0,2,1]) (Fi:=z0D (fN 3)) (g:=Tg.one 0) (Fe:=z08 true z3Z (z02 (fN 1) (z02 (fOp z0u (fC (.int 8)) (fOp z1X (fN 2) (fN 0))) (z02 (fN 2) (z02 (fN 3) fNil))))) (ρ:=[.sh false (.scr ns),.sh f1 (.int m),.sh f2 (.int k),.sh f3 (.int n)]) (e:=fun(j:Nat) => .int (0+(j:Int))) (h:=fun(j:Nat)=>L (z5j ns (8+(k:Int)*(j:Int)) k m)) (xs:=List.range n)
    (by simp[cOf,z0D,intD,z2S,z1x,show(n:Int)≤1000000 by omega,show -1000000≤(n:Int) by omega])
    (fun j hj=>by
      have hj:=List.mem_range.mp hj
      have hm:z1v (k:Int) (j:Int)=true:=z7k (by                     have:(j:Int).natAbs=j:=by omega
                                                                    omega)
      have hp:(0:Int)≤8+(k:Int)*(j:Int):=by have:=Int.mul_nonneg (show(0:Int)≤k by omega) (show(0:Int)≤j by omega);omega
      have e:=ziZ ns (8+(k:Int)*(j:Int)) k m hp (by omega) h0 h3
      simp[cOf,Tg.put,sigD,z5T,hm,e])
  rw[this]
  simp[LL]
theorem zcT(ns:List Int):z6Y [.scr ns]=some (.tup [.int (z1a ns),LL (z20 ns)]):=by
 have c0:=z1l ns 0 (by decide)
 have c1:=z1l ns 1 (by decide)
 have c2:=z1l ns 2 (by decide)
 have c3:=z1l ns 3 (by decide)
 have r0:=z17 (z0q ns 0) (show(0:Int)<4 by decide)
 have r1:=z17 (z0q ns 1) (show(0:Int)<5 by decide)
 have r2:=z17 (z0q ns 2) (show(0:Int)<5 by decide)
 have kl:=z5v ns
 have ml:=z9K ns
 have mc:=zaM ns
 have tl:=fun f1 f2 f3=>zb2 ns (z0X ns) (z1a ns) (z3i ns) f1 f2 f3 (by omega) (by omega) (by omega) (by omega)
 have fin:∀(m k n:Int) (f1 f2 f3:Bool),m=z0X ns→k=z1a ns→n=z3i ns→sRet (fTup (z02 (fN 2) (z02 (z0d 1 [0,2,1] (z0D (fN 3)) (Tg.one 0) fYes (z08 true z3Z (z02 (fN 1) (z02 (fOp z0u (fC (.int 8)) (fOp z1X (fN 2) (fN 0))) (z02 (fN 2) (z02 (fN 3) fNil)))))) fNil))) [.sh false (.scr ns),.sh f1 (.int m),.sh f2 (.int k),.sh f3 (.int n)]=some (.rt .nw (.tup [.int (z1a ns),LL (z20 ns)])):=by
   rintro m k n f1 f2 f3 rfl rfl rfl
   simp[sRet,fTup,z02,fNil,fN,z9z,Cell.val,zm4,z0i,tl f1 f2 f3,z3n,Fl.isNw,sndL,z20]
 have lk:∃ m0:Int,atI [Dt.int 0,Dt.int 0,Dt.int 0,Dt.int 1,Dt.int 2] ((z0q ns 2).fmod 5)=some (.int m0)∧(¬(z0q ns 3).fmod 7=6→m0=z0X ns)∧(m0=2↔(z0q ns 2).fmod 5=4):=by
   have hr2:(z0q ns 2).fmod 5=0∨(z0q ns 2).fmod 5=1∨(z0q ns 2).fmod 5=2∨(z0q ns 2).fmod 5=3∨(z0q ns 2).fmod 5=4:=by omega +splitDisjunctions
   rcases hr2 with h2|h2|h2|h2|h2<;>rw[h2]
   · exact⟨0,rfl,fun h=>by simp[z0X,h,h2],by decide⟩
   · exact⟨0,rfl,fun h=>by simp[z0X,h,h2],by decide⟩
   · exact⟨0,rfl,fun h=>by simp[z0X,h,h2],by decide⟩
   · exact⟨1,rfl,fun h=>by simp[z0X,h,h2],by decide⟩
   · exact⟨2,rfl,fun h=>by simp[z0X,h,h2],by decide⟩
 obtain⟨m0,lk,lm,l2⟩:=lk
 have mo:∀(c:Int) (k:Nat),z2w c ((k+1:Nat):Int)=true:=fun c k=>by unfold z2w;exact decide_eq_true (by omega)
 have mo2:=fun c=>mo c 1
 have mo4:=fun c=>mo c 3
 have mo5:=fun c=>mo c 4
 have mo7:=fun c=>mo c 6
 simp only[Nat.reduceAdd,Int.cast_ofNat_Int]at mo2 mo4 mo5 mo7
 have t3:∀(m k n:Int),m=z0X ns→k=z1a ns→n=z3i ns→m≠2→_:=fun m k n a b c d=>run (F:=sIf (z0p (fOp opEq (fN 1) (fC (.int 2)))) (sSeq (sSet [] 2 (fOp z0u (fC (.int 1)) (fOp z1p (fN 2) (fC (.int 2))))) (sSet [] 3 (fOp z1p (fN 3) (fC (.int 4))))) z0M) (ρ:=[.sh false (.scr ns),.sh true (.int m),.sh true (.int k),.sh true (.int n)]) (ρ':=[.sh false (.scr ns),.sh true (.int m),.sh true (.int k),.sh true (.int n)]) (by simp[cOf,z0v,d]) (fin m k n true true true a b c)
 refine z3Q (f := .nw) rfl (run (ρ':=[.sh false (.scr ns),.sh true (.int m0),.no,.no]) (by simp[cOf,c2,lk,mo5]) (run (ρ':=[.sh false (.scr ns),.sh true (.int m0),.sh true (.int (1+(z0q ns 0).fmod 4)),.no]) (by simp[cOf,c0,mo4]) (run (ρ':=[.sh false (.scr ns),.sh true (.int m0),.sh true (.int (1+(z0q ns 0).fmod 4)),.sh true (.int ((z0q ns 1).fmod 5))]) (by simp[cOf,c1,mo5]) ?_))) rfl
 by_cases h3:(z0q ns 3).fmod 7=6
 · exact run (ρ':=[.sh false (.scr ns),.sh true (.int 0),.sh true (.int 6),.sh true (.int 8)]) (by simp[cOf,c3,h3,z0v,mo7]) (t3 0 6 8 (by simp[z0X,h3]) (by simp[z1a,z0X,z5u,h3]) (by simp[z3i,z0X,z8l,h3]) (by decide))
 · have lm:=lm h3
   refine run (ρ':=[.sh false (.scr ns),.sh true (.int m0),.sh true (.int (1+(z0q ns 0).fmod 4)),.sh true (.int ((z0q ns 1).fmod 5))]) (by simp[cOf,c3,h3,z0v,mo7]) ?_
   by_cases h2:m0=2
   · have h4:=l2.mp h2
     refine run (ρ':=[.sh false (.scr ns),.sh true (.int m0),.sh true (.int (1+(1+(z0q ns 0).fmod 4).fmod 2)),.sh true (.int (((z0q ns 1).fmod 5).fmod 4))]) (by simp[cOf,h2,z0v,mo2,mo4]) (fin m0 _ _ true true true lm ?_ ?_)
     · have:=z17 (1+(z0q ns 0).fmod 4) (show(0:Int)<2 by decide)
       simp[z1a,z0X,z5u,h3,h4];omega +splitDisjunctions
     · have:=z17 ((z0q ns 1).fmod 5) (show(0:Int)<4 by decide)
       simp[z3i,z0X,z8l,h3,h4];omega +splitDisjunctions
   · have h4:¬(z0q ns 2).fmod 5=4:=fun h=>h2 (l2.mpr h)
     exact t3 m0 _ _ lm (by simp[z1a,z0X,z5u,h3,h4];omega +splitDisjunctions) (by simp[z3i,z0X,z8l,h3,h4];omega +splitDisjunctions) h2
theorem z4A(d:Dt):z1N [d]=some (.bl (isWh d)):=by
 unfold z1N z5y
 cases d<;>simp[cOf,isWh,Dt.flat,nrm]
theorem z6Z(a:List Int)(n:Int):z1J [L a,.int n]=some (.bl (decide ((a.length:Int)=n))):=by
 unfold z1J z4r
 have q:z0d 1 [] (iSeq (fN 0)) (Tg.one 0) fYes (z08 true z1N (z02 (fN 0) fNil)) [.sh false (L a),.sh false (.int n)]=some (.nw,.lst (a.map fun _ => .bl true)) :=
   z0j (e:=Dt.int) (h:=fun _ => .bl true) (xs:=a) (by simp[cOf]) (fun x _=>by simp[cOf,Tg.put,sigD,z4A,isWh])
 by_cases h:(a.length:Int)=n
 · simp[cOf,z0W,h,q,bAll,z3r (fun _=>true) a]
 · simp[cOf,z0W,h]
theorem z8E(a b:List Int)(h:a.length=b.length):z52 [L a,L b]=some (L (addR a b)):=by
 unfold z52 zaV
 have q:z0d 2 [] (iZip (fN 0) (fN 1)) (Tg.many [0,1]) fYes (fOp z0u (fN 0) (fN 1)) [.sh false (L a),.sh false (L b)]=some (.nw,L (addR a b)):=by
  rw[z0j (e:=fun p:Int×Int => .tup [.int p.1,.int p.2]) (h:=fun p => .int (p.1+p.2)) (xs:=a.zip b) (by simp[cOf,iZip,h,z4h]) (fun p _=>by simp[cOf,Tg.put,z2b,sigD]),ziI]
 simp[cOf,q]
theorem zc3(a b:List Int)(h:a.length=b.length):z53 [L a,L b]=some (L (subR a b)):=by
 unfold z53 zaW
 have q:z0d 2 [] (iZip (fN 0) (fN 1)) (Tg.many [0,1]) fYes (fOp z5P (fN 0) (fN 1)) [.sh false (L a),.sh false (L b)]=some (.nw,L (subR a b)):=by
  rw[z0j (e:=fun p:Int×Int => .tup [.int p.1,.int p.2]) (h:=fun p => .int (p.1-p.2)) (xs:=a.zip b) (by simp[cOf,iZip,h,z4h]) (fun p _=>by simp[cOf,Tg.put,z2b,sigD]),zhl]
 simp[cOf,q]
theorem z1T(a:List Int)(k:Int)(h:∀ x∈a,z1v k x=true):z1s [L a,.int k]=some (L (sclR k a)):=by
 unfold z1s z8A
 have q:z0d 1 [1] (iSeq (fN 0)) (Tg.one 0) fYes (fOp z1X (fN 1) (fN 0)) [.sh false (L a),.sh false (.int k)]=some (.nw,L (sclR k a)):=by
  rw[z0j (e:=Dt.int) (h:=fun x => .int (k*x)) (xs:=a) (by simp[cOf]) (fun x hx=>by simp[cOf,Tg.put,sigD,z5T,h x hx])]
  simp[L,sclR]
 simp[cOf,q]
theorem zb3(n:Nat)(h1:1≤n)(h2:n≤6):z3b [.int n]=some (.bl true):=by
 unfold z3b z4s
 have e:=z4A (.int n)
 simp[cOf,e,isWh,z85,show(1:Int)≤n by omega,show(n:Int)≤6 by omega]
theorem z9k(n:Nat)(h1:1≤n)(h2:n≤6):z2G [.int n]=some .non:=by
 unfold z2G z3U
 simp[cOf,zb3 n h1 h2]
theorem zcU(a:List Int)(n:Nat)(hl:a.length=n)(h:∀ x∈a,x.natAbs<10 ^ 30):z54 [L a,.int n]=some (.bl true):=by
 unfold z54 z6R
 have e:=z6Z a n
 have p30:z5O 10 30=true:=by unfold z5O;decide
 have q:z0d 1 [] (iSeq (fN 0)) (Tg.one 0) fYes (fOp opLt (fBlt bAbs (z02 (fN 0) fNil)) (fOp z7c (fC (.int 10)) (fC (.int 30)))) [.sh false (L a),.sh false (.int n)]=some (.nw,.lst (a.map fun _ => .bl true)) :=
  z0j (e:=Dt.int) (h:=fun _ => .bl true) (xs:=a) (by simp[cOf]) (fun x hx=>by
   have:=h x hx
   have:(if x<0 then -x else x)<1000000000000000000000000000000:=by split<;>omega
   simp[cOf,Tg.put,sigD,bAbs,p30,this])
 simp[cOf,e,hl,q,bAll,z3r (fun _=>true) a]
theorem zb4(a:List Int)(n:Nat)(hl:a.length=n)(h:∀ x∈a,x.natAbs<10 ^ 30):z1R [L a,.int n]=some .non:=by
 unfold z1R z4t
 simp[cOf,zcU a n hl h]
theorem zcV(k:Int)(rows:List (List Int)):z55 [.int k,LL rows]=some (z0E k rows):=by
 unfold z55 z6S
 have q:z0d 1 [] (iSeq (fN 1)) (Tg.one 0) fYes (fBlt bTup (z02 (fN 0) fNil)) [.sh false (.int k),.sh false (LL rows)]=some (.nw,.lst (rows.map T)) :=
  z0j (e:=L) (h:=T) (xs:=rows) (by simp[cOf]) (fun x hx=>by simp[cOf,Tg.put,sigD,bTup,z1M])
 simp[cOf,q,bTup,z4X]
theorem zcW(n:Nat)(bills:List (List Int))(h1:1≤n)(h2:n≤6)(hm:bills.length≤8)(hw:Wide n bills)(hb:∀ r∈bills,∀ x∈r,x.natAbs<10 ^ 30):z3u [.int n,LL bills]=some (z0E n bills):=by
 unfold z3u z6T
 obtain⟨j,q⟩:=z9I (g:=Tg.one 2) (F:=z8b (z08 true z1R (z02 (fN 2) (z02 (fN 0) fNil)))) (e:=L) (R:=fun(_:Unit) (c:Cell)=>[.sh false (.int n),.sh false (LL bills),c]) (step:=fun _ _=>()) bills () .no
  (fun b x j hx=>⟨.sh false (L x),by simp[cOf,Tg.put,zb4 x n (hw x hx) (hb x hx)]⟩)
 have q:forF (Tg.one 2) (z8b (z08 true z1R (z02 (fN 2) (z02 (fN 0) fNil)))) (bills.map L) [.sh false (.int n),.sh false (LL bills),.no]=some (.nx [.sh false (.int n),.sh false (LL bills),j]):=q
 simp[cOf,z9k n h1 h2,show ¬(8<(bills.length:Int)) by omega,q,zcV]
abbrev HF:FS:=sIf (z0p (fOp opNe (fN 2) (fC (.int 0)))) (sRet (fN 1)) z0M
theorem z9Y(c0:Cell):∀(r:List Int) (j:Nat) (c1 c2:Cell),(St.z00 r<r.length→forF (Tg.many [1,2]) HF (z2B j (r.map .int)) [c0,c1,c2]=some (.rt .nw (.int ((j+St.z00 r:Nat):Int)))) ∧
  (¬St.z00 r<r.length→∃ c1' c2',forF (Tg.many [1,2]) HF (z2B j (r.map .int)) [c0,c1,c2]=some (.nx [c0,c1',c2']))
 | [],j,c1,c2=>⟨fun h=>by simp[St.z00]at h,fun _=>⟨c1,c2,rfl⟩⟩
 | x::r,j,c1,c2=>by
  obtain⟨i1,i2⟩:=z9Y c0 r (j+1) (.sh false (.int j)) (.sh false (.int x))
  rw[List.map_cons,z2B,z1t]
  by_cases hx:x=0
  · have e:(Tg.put (Tg.many [1,2]) (.tup [.int j,.int x]) [c0,c1,c2]).bind HF=some (.nx [c0,.sh false (.int j),.sh false (.int x)]):=by simp[cOf,z0W,hx]
    have eh:St.z00 (x::r)=St.z00 r+1:=by simp[St.z00,hx]
    rw[e,eh,List.length_cons]
    refine⟨fun h=>?_,fun h=>i2 (by omega)⟩
    have:=i1 (by omega)
    rw[show j+(St.z00 r+1)=j+1+St.z00 r by omega]
    exact this
  · have e:(Tg.put (Tg.many [1,2]) (.tup [.int j,.int x]) [c0,c1,c2]).bind HF=some (.rt .nw (.int j)):=by simp[cOf,z0W,hx]
    have eh:St.z00 (x::r)=0:=by simp[St.z00,hx]
    rw[e,eh,List.length_cons]
    exact⟨fun _=>rfl,fun h=>absurd (Nat.succ_pos _) h⟩
theorem z0Q(r:List Int):z0g [L r]=some (.int (St.z00 r)):=by
 unfold z0g z6Q
 obtain⟨h1,h2⟩:=z9Y (.sh false (L r)) r 0 .no .no
 have hl:=St.z6H r
 by_cases h:St.z00 r<r.length
 · have h1:=h1 h
   simp only[Nat.zero_add]at h1
   simp[cOf,h1]
 · obtain⟨c1,c2,h2⟩:=h2 h
   simp[cOf,h2,show St.z00 r=r.length by omega]
theorem z8F{r:List Int}{k:Nat}(h:k<r.length):atI (r.map Dt.int) (k:Int)=some (.int (St.at0 r k)):=by
 rw[z4j,zcM h];simp[St.at0,List.getD,List.getElem?_eq_getElem h]
theorem zmb(a b:List Int)(q:Int):subR a (sclR q b)=St.sub a q b:=by
 unfold subR sclR St.sub
 rw[List.zipWith_map_right]
theorem zgu{r:List Int}{x:Int}(h:x∈r):∃ k,St.at0 r k=x:=by
 obtain⟨k,hk,e⟩:=List.mem_iff_getElem.mp h
 exact⟨k,by simp[St.at0,List.getD,List.getElem?_eq_getElem hk,e]⟩
theorem zgv{x:Int}{m:Nat}(h:x.natAbs<2 ^ m):Builtin.Int.intBits x≤m:=zaC h
theorem z3x{i j:Int}{m k:Nat}(h1:i.natAbs<2 ^ m)(h2:j.natAbs<2 ^ k)(h:m+k≤134217728):z1v i j=true:=by
 unfold z1v
 rw[decide_eq_true (show Builtin.Int.intBits i+Builtin.Int.intBits j≤134217728 from by have:=zgv h1;have:=zgv h2;omega)]
 rfl
theorem z3y{i j:Int}(h0:0<j)(h:j<2 ^ 9000):z1G i j=true:=by
 unfold z1G
 rw[decide_eq_true (show j≠0 by omega),decide_eq_true (show j.natAbs.log2<9000 from ?_)]
 · rfl
 · rw[Nat.log2_lt (by omega)]
   have:((2 ^ 9000:Nat):Int)=(2:Int) ^ 9000:=by norm_cast
   omega
abbrev LF:FS:=(sSeq (sSet [] 5 (z08 true z0g (z02 (fN 4) fNil)))
 (sSeq (sSet [] 6 (fOp z2x (fAt (fN 2) (fN 5)) (fAt (fN 4) (fN 5))))
 (sSeq (sIf (z0p (fOp opNe (fN 6) (fC (.int 0)))) (sSet [] 2 (z08 true z53 (z02 (fN 2) (z02 (z08 true z1s (z02 (fN 4) (z02 (fN 6) fNil))) fNil)))) z0M)
 (sWr wApp 3 (fN 6)))))
theorem z8G{n m:Nat}(hm:2*m≤134217728)(c0 c1:Cell):∀(S:List (List Int)) (left:List Int) (cs:List Int) (c4 c5 c6:Cell),(∀ r∈S,r.length=n∧St.z00 r<n∧0<St.hd r∧St.hd r<2 ^ 9000)→left.length=n→St.LowB m left S→cs.length+S.length≤1000 →
  ∃ c4' c5' c6',forF (Tg.one 4) LF (S.map L) [c0,c1,.sh true (L left),.ow true (cs.map .int),c4,c5,c6]=some (.nx [c0,c1,.sh true (L (St.z0h left S)),.ow true ((cs++St.z8o left S).map .int),c4',c5',c6'])
 | [],left,cs,c4,c5,c6,_,_,_,_=>⟨c4,c5,c6,by simp[ziE,St.z0h,St.z8o]⟩
 | r::S,left,cs,c4,c5,c6,hr,hl,hb,hc=>by
  obtain⟨r1,r2,r3,r4⟩:=hr r List.mem_cons_self
  have hs:(St.sub left (St.z0F left r) r).length=n:=by rw[St.z2E (by omega)];exact hl
  obtain⟨d4,d5,d6,ih⟩:=z8G hm c0 c1 S (St.sub left (St.z0F left r) r) (cs++[St.z0F left r]) (.sh false (L r)) (.sh true (.int (St.z00 r))) (.sh true (.int (St.z0F left r))) (fun x hx=>hr x (List.mem_cons_of_mem _ hx)) hs hb.2 (by simp at hc ⊢;omega)
  refine⟨d4,d5,d6,?_⟩
  rw[List.map_cons,z1t]
  have a1:=z8F (r:=left) (k:=St.z00 r) (by omega)
  have a2:=z8F (r:=r) (k:=St.z00 r) (by omega)
  have dv:z1G (St.at0 left (St.z00 r)) (St.at0 r (St.z00 r))=true:=z3y r3 r4
  have ef:(St.at0 left (St.z00 r)).fdiv (St.at0 r (St.z00 r))=St.z0F left r:=rfl
  have hcs:cs.length<1000000:=by simp at hc;omega
  have e:(Tg.put (Tg.one 4) (L r) [c0,c1,.sh true (L left),.ow true (cs.map .int),c4,c5,c6]).bind LF=some (.nx [c0,c1,.sh true (L (St.sub left (St.z0F left r) r)),.ow true ((cs++[St.z0F left r]).map .int),.sh false (L r),.sh true (.int (St.z00 r)),.sh true (.int (St.z0F left r))]):=by
   refine(show LF [c0,c1,.sh true (L left),.ow true (cs.map .int),.sh false (L r),c5,c6]=_ from run (ρ':=[c0,c1,.sh true (L left),.ow true (cs.map .int),.sh false (L r),.sh true (.int (St.z00 r)),c6]) (by simp[cOf,z0Q]) (run (ρ':=[c0,c1,.sh true (L left),.ow true (cs.map .int),.sh false (L r),.sh true (.int (St.z00 r)),.sh true (.int (St.z0F left r))]) (by simp[cOf,a1,a2,dv,ef]) (run (ρ':=[c0,c1,.sh true (L (St.sub left (St.z0F left r) r)),.ow true (cs.map .int),.sh false (L r),.sh true (.int (St.z00 r)),.sh true (.int (St.z0F left r))]) ?_ (by simp[cOf,hcs]))))
   by_cases ho:St.z0F left r=0
   · have es:St.sub left (St.z0F left r) r=left:=by rw[ho];exact St.sub_zero (by omega)
     rw[es]
     simp[cOf,ho,z0W]
   · have mo:∀ x∈r,z1v (St.z0F left r) x=true:=fun x hx=>by
      obtain⟨k,rfl⟩:=zgu hx
      rcases hb.1 with h|⟨h1,h2⟩
      · exact absurd h ho
      · exact z3x h1 (h2 k) (by omega)
     have e1:=z1T r (St.z0F left r) mo
     have e2:=zc3 left (sclR (St.z0F left r) r) (by rw[z0R];omega)
     rw[zmb]at e2
     simp[cOf,ho,z0W,e1,e2]
  rw[e]
  show forF (Tg.one 4) LF (S.map L) _=_
  rw[ih,St.z0h,St.z8o]
  simp
def RowD(d:Dt)(v:List Int):Prop:=d=L v∨d=T v
theorem zc4{n m:Nat}(d:Dt)(v:List Int)(S:List (List Int))(hd:RowD d v)(hm:2*m≤134217728)(hr:∀ r∈S,r.length=n∧St.z00 r<n∧0<St.hd r∧St.hd r<2 ^ 9000)(hl:v.length=n)(hb:St.LowB m v S)(hc:S.length≤1000):
   z3V [d,LL S]=some (.tup [L (St.z8o v S),L (St.z0h v S)]):=by
 unfold z3V z5A
 rcases hd with rfl|rfl
 · obtain⟨d4,d5,d6,q⟩:=z8G hm (.sh false (L v)) (.sh false (LL S)) S v [] .no .no .no hr hl hb (by simpa using hc)
   simp[cOf]at q ⊢;simp[q]
 · obtain⟨d4,d5,d6,q⟩:=z8G hm (.sh false (T v)) (.sh false (LL S)) S v [] .no .no .no hr hl hb (by simpa using hc)
   simp[cOf]at q ⊢;simp[q]
theorem z5B{n m:Nat}(d:Dt)(v:List Int)(S:List (List Int))(hd:RowD d v)(hm:2*m≤134217728)(hr:∀ r∈S,r.length=n∧St.z00 r<n∧0<St.hd r∧St.hd r<2 ^ 9000)(hl:v.length=n)(hb:St.LowB m v S)(hc:S.length≤1000):
  z0S [d,LL S]=some (L (St.z0h v S)):=by
 have e:=zc4 d v S hd hm hr hl hb hc
 have hn:nrm (flOf false) d=(if d.flat then .nw else .sh,d):=rfl
 unfold z0S z6V
 rcases hd with rfl|rfl<;>simp[cOf,e,ziK]
theorem zhv{i j:Int}(h0:j≠0)(h:j.natAbs<2 ^ 9000):z1G i j=true:=by
 unfold z1G
 rw[decide_eq_true h0,decide_eq_true (show j.natAbs.log2<9000 from(Nat.log2_lt (by omega)).mpr h)]
 rfl
abbrev BC:FT:=z0p (fOp opNe (fAt (fN 3) (fC (.int 0))) (fC (.int 0)))
abbrev BF:FS:=(sSeq (sSet [] 4 (fOp z2x (fAt (fN 2) (fC (.int 0))) (fAt (fN 3) (fC (.int 0)))))
 (sSeq (sSet [] 5 (z0d 1 [2,4,3] (z0D (fC (.int 3))) (Tg.one 0) fYes (fOp z5P (fAt (fN 1) (fN 0)) (fOp z1X (fN 2) (fAt (fN 3) (fN 0))))))
 (sSeq (sSet [] 2 (fN 3))
 (sSet [] 3 (fN 5)))))
theorem zc5(c0 c1 c4 c5:Cell)(u0 u1 u2 l0 l1 l2:Int)(hl:l0≠0)(h:l0.natAbs<2 ^ 9000)(m0:z1v (u0.fdiv l0) l0=true)(m1:z1v (u0.fdiv l0) l1=true)(m2:z1v (u0.fdiv l0) l2=true):
  BF [c0,c1,.sh true (L [u0,u1,u2]),.sh true (L [l0,l1,l2]),c4,c5]=some (.nx [c0,c1,.sh true (L [l0,l1,l2]),.sh true (L [u0-u0.fdiv l0*l0,u1-u0.fdiv l0*l1,u2-u0.fdiv l0*l2]),.sh true (.int (u0.fdiv l0)),.sh true (L [u0-u0.fdiv l0*l0,u1-u0.fdiv l0*l1,u2-u0.fdiv l0*l2])]):=by
 have dv:=zhv (i:=u0) hl h
 have q:z0d 1 [2,4,3] (z0D (fC (.int 3))) (Tg.one 0) fYes (fOp z5P (fAt (fN 1) (fN 0)) (fOp z1X (fN 2) (fAt (fN 3) (fN 0)))) [z4f c0,z4f c1,.sh true (L [u0,u1,u2]),.sh true (L [l0,l1,l2]),.sh true (.int (u0.fdiv l0)),z4f c5]=some (.nw,L [u0-u0.fdiv l0*l0,u1-u0.fdiv l0*l1,u2-u0.fdiv l0*l2]):=by
  rw[z0j (e:=fun(k:Nat) => .int (0+(k:Int))) (h:=fun(k:Nat) => .int ([u0,u1,u2].getD k 0-u0.fdiv l0*[l0,l1,l2].getD k 0)) (xs:=List.range 3) (by simp[cOf,show z2S 3=true from z8m (n:=3) (by decide),z1x]) (fun k hk=>by
   have hk:k<3:=List.mem_range.mp hk
   have a1:=z4k (xs:=[u0,u1,u2]) (i:=k) 0 hk
   have a2:=z4k (xs:=[l0,l1,l2]) (i:=k) 0 hk
   have mk:z1v (u0.fdiv l0) ([l0,l1,l2].getD k 0)=true:=by
    have:k=0∨k=1∨k=2:=by omega
    rcases this with rfl|rfl|rfl
    · exact m0
    · exact m1
    · exact m2
   generalize [u0,u1,u2].getD k 0=uk at *
   generalize [l0,l1,l2].getD k 0=lk at *
   generalize [u0,u1,u2]=us at *
   generalize [l0,l1,l2]=ls at *
   simp[cOf,z4j,a1,a2,mk])]
  rfl
 exact run (ρ':=[c0,c1,.sh true (L [u0,u1,u2]),.sh true (L [l0,l1,l2]),.sh true (.int (u0.fdiv l0)),c5]) (by simp[cOf,dv]) (run (ρ':=[c0,c1,.sh true (L [u0,u1,u2]),.sh true (L [l0,l1,l2]),.sh true (.int (u0.fdiv l0)),.sh true (L [u0-u0.fdiv l0*l0,u1-u0.fdiv l0*l1,u2-u0.fdiv l0*l2])]) (by simp[cOf,q]) (run (ρ':=[c0,c1,.sh true (L [l0,l1,l2]),.sh true (L [l0,l1,l2]),.sh true (.int (u0.fdiv l0)),.sh true (L [u0-u0.fdiv l0*l0,u1-u0.fdiv l0*l1,u2-u0.fdiv l0*l2])]) (by simp[cOf]) (by simp[cOf])))
theorem zc6{a b:Int}{e:Nat}(he:e≤9000)(ha:a.natAbs<2 ^ e)(hb:b.natAbs<2 ^ e)(c0 c1:Cell):∀(k:Nat) (u0 u1 u2 l0 l1 l2:Int) (c4 c5:Cell),Br.BI a b u0 u1 u2 l0 l1 l2→l0.natAbs≤k →
 ∃ v0 v1 v2 w1 w2 d4 d5,z0Y BC BF (k+1) [c0,c1,.sh true (L [u0,u1,u2]),.sh true (L [l0,l1,l2]),c4,c5]=some (.nx [c0,c1,.sh true (L [v0,v1,v2]),.sh true (L [0,w1,w2]),d4,d5])∧Br.BI a b v0 v1 v2 0 w1 w2:=by
 intro k
 induction k using Nat.strongRecOn with
 | _ k IH =>
 intro u0 u1 u2 l0 l1 l2 c4 c5 B hk
 have hc:BC [c0,c1,.sh true (L [u0,u1,u2]),.sh true (L [l0,l1,l2]),c4,c5]=some (!decide (l0=0)):=by simp[cOf,z0W]
 rw[z0Y,hc,z0i]
 by_cases hl:l0=0
 · subst hl
   exact⟨u0,u1,u2,l1,l2,c4,c5,by simp,B⟩
 · have p3:2 ^ (e+3)=8*2 ^ e:=by rw[Nat.pow_add];omega
   obtain⟨z1,z2,z3,z4⟩:=Br.zgi u0 l0 hl
   have c1':=B.c1
   have c2':=B.c2
   have b3:=B.b3
   have b4:=B.b4
   have hq:(u0.fdiv l0).natAbs<2 ^ (e+3):=by
    have:1*(u0.fdiv l0).natAbs≤l0.natAbs*(u0.fdiv l0).natAbs:=Nat.mul_le_mul_right _ (by omega)
    rw[Nat.mul_comm l0.natAbs]at this
    omega
   have h9:(2:Nat) ^ e≤2 ^ 9000:=Nat.pow_le_pow_right (by decide) he
   have st:=zc5 c0 c1 c4 c5 u0 u1 u2 l0 l1 l2 hl (by omega) (z3x hq (show l0.natAbs<2 ^ (e+3) by omega) (by omega)) (z3x hq (show l1.natAbs<2 ^ (e+3) by omega) (by omega)) (z3x hq (show l2.natAbs<2 ^ (e+3) by omega) (by omega))
   cases k with
   | zero=>omega
   | succ k =>
    obtain⟨v0,v1,v2,w1,w2,d4,d5,ih,B'⟩:=IH k (Nat.lt_succ_self k) _ _ _ _ _ _ (.sh true (.int (u0.fdiv l0))) (.sh true (L [u0-u0.fdiv l0*l0,u1-u0.fdiv l0*l1,u2-u0.fdiv l0*l2])) (B.turn hl) (by omega)
    refine⟨v0,v1,v2,w1,w2,d4,d5,?_,B'⟩
    rw[st]
    simp only[hl,decide_false,Bool.not_false,if_true,z0i]
    exact ih
theorem z9Z(a b:Int)(e:Nat)(he:e≤9000)(ha:a.natAbs<2 ^ e)(hb:b.natAbs<2 ^ e):∃ x y,z4u [.int a,.int b]=some (T [(Int.gcd a b:Int),x,y])∧a*x+b*y=Int.gcd a b∧x.natAbs≤a.natAbs+2*b.natAbs+1∧y.natAbs≤a.natAbs+2*b.natAbs+1:=by
 obtain⟨v0,v1,v2,w1,w2,d4,d5,lp,B⟩:=zc6 he ha hb (.sh false (.int a)) (.sh false (.int b)) b.natAbs a 1 0 b 0 1 .no .no (Br.BI.start a b) (Nat.le_refl _)
 have lp:=z4V lp
 have fin:=B.fin
 have up:=B.up
 have b1:=B.b1
 have b2:=B.b2
 have pre:∀{r:Option Oc},(sSeq (sIf (z0p (fOp opLt (fAt (fN 2) (fC (.int 0))) (fC (.int 0)))) (sSet [] 2 (z0d 1 [] (iSeq (fN 2)) (Tg.one 0) fYes (fNeg (fN 0)))) z0M) (sRet (fBlt bTup (z02 (fN 2) fNil)))) [.sh false (.int a),.sh false (.int b),.sh true (L [v0,v1,v2]),.sh true (L [0,w1,w2]),d4,d5]=r→z8B (rho0 6 [.int a,.int b])=r:=fun h=>run (ρ':=[.sh false (.int a),.sh false (.int b),.sh true (L [a,1,0]),.no,.no,.no]) (by simp[cOf,L]) (run (ρ':=[.sh false (.int a),.sh false (.int b),.sh true (L [a,1,0]),.sh true (L [b,0,1]),.no,.no]) (by simp[cOf,L]) (run lp h))
 have at0:atI ([v0,v1,v2].map Dt.int) 0=some (.int v0):=rfl
 by_cases h0:v0<0
 · refine⟨-v1,-v2,?_,by rw[Int.mul_neg,Int.mul_neg];omega,by omega,by omega⟩
   have q:z0d 1 [] (iSeq (fN 2)) (Tg.one 0) fYes (fNeg (fN 0)) [.sh false (.int a),.sh false (.int b),.sh true (L [v0,v1,v2]),.sh true (L [0,w1,w2]),z4f d4,z4f d5]=some (.nw,L [-v0,-v1,-v2]):=by
    rw[z0j (e:=Dt.int) (h:=fun x => .int (-x)) (xs:=[v0,v1,v2]) (by simp[cOf,L]) (fun x hx=>by simp[cOf])]
    rfl
   have e0:(Int.gcd a b:Int) = -v0:=by omega
   rw[e0]
   refine z3Q (f := .nw) rfl (pre (run (ρ':=[.sh false (.int a),.sh false (.int b),.sh true (L [-v0,-v1,-v2]),.sh true (L [0,w1,w2]),d4,d5]) ?_ (by simp[cOf,T]))) rfl
   generalize [v0,v1,v2]=vs at *
   simp[cOf,at0,h0,q]
 · refine⟨v1,v2,?_,by omega,by omega,by omega⟩
   have e0:(Int.gcd a b:Int)=v0:=by omega
   rw[e0]
   refine z3Q (f := .nw) rfl (pre (run (ρ':=[.sh false (.int a),.sh false (.int b),.sh true (L [v0,v1,v2]),.sh true (L [0,w1,w2]),d4,d5]) ?_ (by simp[cOf,T]))) rfl
   generalize [v0,v1,v2]=vs at *
   simp[cOf,at0,h0]
theorem zmc(a b:List Int)(x y:Int):addR (sclR x a) (sclR y b)=St.lin x a y b:=by
 unfold addR sclR St.lin
 rw[List.zipWith_map]
theorem zj(a b:List Int)(x y:Int):subR (sclR x a) (sclR y b)=St.lin x a (-y) b:=by
 unfold subR sclR St.lin
 rw[List.zipWith_map]
 congr 1
 funext p q
 rw[Int.neg_mul];omega
theorem z59{q:Int}{r:List Int}{m k:Nat}(h1:q.natAbs<2 ^ m)(h2:St.Lt (2 ^ k) r)(h:m+k≤134217728):∀ x∈r,z1v q x=true:=fun x hx=>by
 obtain⟨i,rfl⟩:=zgu hx
 exact z3x h1 (h2 i) h
theorem zcX{n e q:Nat}(r left:List Int)(hr:r.length=n)(hl:left.length=n)(hh:St.z00 r<n)(hp:0<St.hd r)(h1:St.hd r<2 ^ e)(h2:0≤St.at0 left (St.z00 r))(h3:St.at0 left (St.z00 r)<St.hd r)(he:e≤8990)(s1:St.Lt (2 ^ q) r)(s2:St.Lt (2 ^ q) left)(hq:q≤100000000):
  ∃ g x y,z2L [L r,L left]=some (.tup [L (St.z0z r left x y),L (St.z19 r left g)])∧0<g∧g∣St.hd r∧g∣St.at0 left (St.z00 r)∧St.hd r*x+St.at0 left (St.z00 r)*y=g∧x.natAbs<2 ^ (e+2)∧y.natAbs<2 ^ (e+2):=by
 have cast:((2 ^ e:Nat):Int)=(2:Int) ^ e:=by norm_cast
 have a1:(St.hd r).natAbs<2 ^ e:=by omega
 have a2:(St.at0 left (St.z00 r)).natAbs<2 ^ e:=by omega
 obtain⟨x,y,eb,exy,bx,bY⟩:=z9Z (St.hd r) (St.at0 left (St.z00 r)) e (by omega) a1 a2
 have g0:0<Int.gcd (St.hd r) (St.at0 left (St.z00 r)):=Int.gcd_pos_of_ne_zero_left _ (by omega)
 have d1:(Int.gcd (St.hd r) (St.at0 left (St.z00 r)):Int)∣St.hd r:=Int.gcd_dvd_left _ _
 have d2:(Int.gcd (St.hd r) (St.at0 left (St.z00 r)):Int)∣St.at0 left (St.z00 r):=Int.gcd_dvd_right _ _
 generalize eg:(Int.gcd (St.hd r) (St.at0 left (St.z00 r)):Int)=g at *
 have g0:0<g:=by omega
 have p2:2 ^ (e+2)=4*2 ^ e:=by rw[Nat.pow_add];omega
 have x1:x.natAbs<2 ^ (e+2):=by omega
 have y1:y.natAbs<2 ^ (e+2):=by omega
 refine⟨g,x,y,?_,g0,d1,d2,exy,x1,y1⟩
 have gle:g≤St.hd r:=Int.le_of_dvd hp d1
 have g9:g<2 ^ 9000:=by
  have h9:(2:Nat) ^ e≤2 ^ 9000:=Nat.pow_le_pow_right (by decide) (by omega)
  have:((2 ^ 9000:Nat):Int)=(2:Int) ^ 9000:=by norm_cast
  omega
 have dv1:z1G (St.hd r) g=true:=z3y g0 g9
 have dv2:z1G (St.at0 left (St.z00 r)) g=true:=z3y g0 g9
 have k1:((St.hd r).fdiv g).natAbs<2 ^ (e+2):=by have:=St.z3t (St.hd r) g0;omega
 have k2:((St.at0 left (St.z00 r)).fdiv g).natAbs<2 ^ (e+2):=by have:=St.z3t (St.at0 left (St.z00 r)) g0;omega
 have t1:=z8F (r:=r) (k:=St.z00 r) (by omega)
 have t2:=z8F (r:=left) (k:=St.z00 r) (by omega)
 have t1:atI (r.map Dt.int) (St.z00 r:Int)=some (.int (St.hd r)):=t1
 have e1:=z1T r x (z59 x1 s1 (by omega))
 have e2:=z1T left y (z59 y1 s2 (by omega))
 have e3:=z1T left ((St.hd r).fdiv g) (z59 k1 s2 (by omega))
 have e4:=z1T r ((St.at0 left (St.z00 r)).fdiv g) (z59 k2 s1 (by omega))
 have e5:=z8E (sclR x r) (sclR y left) (by rw[z0R,z0R];omega)
 have e6:=zc3 (sclR ((St.hd r).fdiv g) left) (sclR ((St.at0 left (St.z00 r)).fdiv g) r) (by rw[z0R,z0R];omega)
 rw[zmc]at e5
 rw[zj]at e6
 have hT:T [g,x,y] = .tup [.int g,.int x,.int y]:=rfl
 have nT:∀ f,nrm f (.tup [.int g,.int x,.int y])=(.nw,.tup [.int g,.int x,.int y]):=fun f=>nrm_T f [g,x,y]
 rw[hT]at eb
 unfold z2L z6W
 have eL:St.z19 r left g=St.lin ((St.hd r).fdiv g) left (-((St.at0 left (St.z00 r)).fdiv g)) r:=rfl
 simp[cOf,z0Q,t1,t2,eb,nT,dv1,dv2,e1,e2,e3,e4,e5,e6,St.z0z,eL]
theorem zb5{n q:Nat}(left:List Int)(hl:left.length=n)(hh:St.z00 left<n):z16 [L left]=some (L (if St.at0 left (St.z00 left)<0 then sclR (-1) left else left)):=by
 have t2:=z8F (r:=left) (k:=St.z00 left) (by omega)
 have e1:=z1T left (-1) (fun x _=>zaL (by decide))
 unfold z16 z4v
 by_cases h:St.at0 left (St.z00 left)<0
 · simp[cOf,z0Q,t2,h,e1]
 · simp[cOf,z0Q,t2,h,z2J]
def z1E(S:List (List Int)):List (List Int):=(z2o (S.map fun r=>((St.z00 r:Int),r))).map (·.2)
theorem z6b(S:List (List Int)):(z1E S).Perm S:=by
 have:=(z1L (S.map fun r=>((St.z00 r:Int),r))).map (·.2)
 rw[List.map_map]at this
 have e:S.map ((fun x:Int×List Int=>x.2)∘fun r=>((St.z00 r:Int),r))=S:=by
  have:((fun x:Int×List Int=>x.2)∘fun r:List Int=>((St.z00 r:Int),r))=id:=rfl
  rw[this,List.map_id]
 rw[e]at this
 exact this
theorem z8H(S:List (List Int))(hn:(S.map St.z00).Nodup):((z1E S).map St.z00).Pairwise (·<·):=by
 have h1:((z1E S).map St.z00).Pairwise (·≤·):=by
  have q:=z3O (S.map fun r=>((St.z00 r:Int),r))
  have mem:∀ p∈z2o (S.map fun r=>((St.z00 r:Int),r)),p.1=(St.z00 p.2:Int):=fun p hp=>by
   obtain⟨r,_,rfl⟩:=List.mem_map.mp ((z1L _).mem_iff.mp hp)
   rfl
  unfold z1E
  rw[List.map_map,List.pairwise_map]
  refine List.Pairwise.imp_of_mem (fun{a b} ha hb hab=>?_) q
  have e1:=mem a ha
  have e2:=mem b hb
  show St.z00 a.2≤St.z00 b.2
  have hab:a.1≤b.1:=hab
  omega
 have h2:((z1E S).map St.z00).Nodup:=((z6b S).map St.z00).nodup_iff.mpr hn
 exact(List.pairwise_and_iff.mpr ⟨h1,h2⟩).imp fun{a b} ⟨p,q⟩=>by omega
theorem z8I:∀ S:List (List Int),z2c z0g (S.map L)=some (S.map fun r=>(St.z00 r:Int))
 | []=>rfl
 | r::S=>by rw[List.map_cons,z2c,z0Q,z8I S];rfl
theorem zhw(S:List (List Int)):(z2o ((S.map fun r=>(St.z00 r:Int)).zip (S.map L))).map (·.2)=(z1E S).map L:=by
 have e:(S.map fun r=>(St.z00 r:Int)).zip (S.map L)=(S.map fun r=>((St.z00 r:Int),r)).map fun q=>(q.1,L q.2):=by
  rw[List.zip_map,List.map_map]
  have:S.zip S=S.map fun r=>(r,r):=by
   induction S with
   | nil=>rfl
   | cons r S ih=>rw[List.zip_cons_cons,ih];rfl
  rw[this,List.map_map]
  rfl
 rw[e,z4W]
 unfold z1E
 rw[List.map_map,List.map_map]
 rfl
def z1d:Nat→List (List Int)→List (Nat×List Int)
 | _,[]=>[]
 | j,r::S=>(j,r)::z1d (j+1) S
theorem z3z:∀(j:Nat) (S:List (List Int)),z2B j (S.map L)=(z1d j S).map fun p => .tup [.int p.1,L p.2]
 | j,[]=>rfl
 | j,r::S=>by rw[List.map_cons,z2B,z1d,List.map_cons,z3z (j+1) S]
theorem z5C(h:Nat):∀(j:Nat) (S:List (List Int)),(∀ r∈S,St.z00 r≠h)→(z1d j S).filter (fun p=>decide (St.z00 p.2=h))=[]
 | j,[],_=>rfl
 | j,r::S,q=>by
  rw[z1d,List.filter_cons,z5C h (j+1) S fun x hx=>q x (List.mem_cons_of_mem _ hx)]
  simp[q r List.mem_cons_self]
theorem za(h:Nat):∀(j:Nat) (S1:List (List Int)) (r:List Int) (S2:List (List Int)),St.z00 r=h→((S1++r::S2).map St.z00).Pairwise (·<·)→(z1d j (S1++r::S2)).filter (fun p=>decide (St.z00 p.2=h))=[(j+S1.length,r)]
 | j,[],r,S2,hr,pw=>by
  rw[List.nil_append]at pw ⊢
  rw[List.map_cons,List.pairwise_cons]at pw
  rw[z1d,List.filter_cons,z5C h (j+1) S2 fun x hx=>by have:=pw.1 _ (List.mem_map.mpr ⟨x,hx,rfl⟩);omega]
  simp[hr]
 | j,x::S1,r,S2,hr,pw=>by
  rw[List.cons_append]at pw ⊢
  rw[List.map_cons,List.pairwise_cons]at pw
  have hx:=pw.1 (St.z00 r) (List.mem_map.mpr ⟨r,by simp,rfl⟩)
  rw[z1d,List.filter_cons,za h (j+1) S1 r S2 hr pw.2]
  simp[show St.z00 x≠h by omega]
  omega
theorem za0(S:List (List Int))(left:List Int)(c0 c1 c4 c5:Cell)(f:Bool):z0d 2 [3] (z2V (fN 2)) (Tg.many [0,1]) (z0p (fOp opEq (z08 true z0g (z02 (fN 1) fNil)) (z08 true z0g (z02 (fN 2) fNil)))) (fN 0) [c0,c1,.ow f (S.map L),.sh true (L left),c4,c5] =
   some (.nw,.lst (((z1d 0 S).filter fun p=>decide (St.z00 p.2=St.z00 left)).map fun p => .int (p.1:Int))):=by
 refine z5Y (e:=fun p:Nat×List Int => .tup [.int p.1,L p.2]) (h:=fun p => .int (p.1:Int)) (p:=fun p=>decide (St.z00 p.2=St.z00 left)) (xs:=z1d 0 S) ?_ (fun x hx=>?_) (fun x hx _=>?_)
 · cases f<;>simp[cOf,z3z]
 · simp[cOf,z0Q,z0v]
   omega
 · simp[cOf]
abbrev WC:FT:=z0p (fOp opLt (z08 true z0g (z02 (fN 3) fNil)) (fBlt bLen (z02 (fN 3) fNil)))
abbrev WF:FS:=(sSeq (z2m 4 (z0d 2 [3] (z2V (fN 2)) (Tg.many [0,1]) (z0p (fOp opEq (z08 true z0g (z02 (fN 1) fNil)) (z08 true z0g (z02 (fN 2) fNil)))) (fN 0)))
 (sSeq (sIf (z0p (fOp opEq (fBlt bLen (z02 (fN 4) fNil)) (fC (.int 0)))) (sRet (z5t z0g (fOp z0u (fN 2) (fLst (z02 (z08 true z16 (z02 (fN 3) fNil)) fNil))))) z0M)
 (sSeq (z2m 5 (z08 true z2L (z02 (fAt (fN 2) (fAt (fN 4) (fC (.int 0)))) (z02 (fN 3) fNil))))
 (sSeq (sPut 2 (fAt (fN 4) (fC (.int 0))) (fAt (fN 5) (fC (.int 0))))
 (z2m 3 (z08 true z0S (z02 (fAt (fN 5) (fC (.int 1))) (z02 (fN 2) fNil))))))))
theorem zj0(S:List (List Int))(t:List Int)(h:S.length<60):z0u (.lst (S.map L)) (.lst [L t])=some (newL ((S++[t]).map L)):=by
 have:z0u (.lst (S.map L)) (.lst [L t])=z5R (.lst (S.map L)) (.lst [L t]):=rfl
 rw[this,z5R,if_pos (by simp;omega)]
 simp
theorem zj1(S:List (List Int))(left t:List Int)(c0 c1 c4 c5:Cell)(f:Bool)(hn:∀ r∈S,St.z00 r≠St.z00 left)(ht:z16 [L left]=some (L t))(hh:((S++[t]).map St.z00).Nodup)(h60:S.length<60):
  ∃ fl,WF [c0,c1,.ow f (S.map L),.sh true (L left),c4,c5]=some (.rt fl (LL (z1E (S++[t])))):=by
 have pl:=za0 S left c0 c1 c4 c5 f
 rw[z5C _ 0 S hn]at pl
 have st:z5t z0g (fOp z0u (fN 2) (fLst (z02 (z08 true z16 (z02 (fN 3) fNil)) fNil))) [c0,c1,.ow f (S.map L),.sh true (L left),.sh true (.lst []),c5]=some (newL ((z1E (S++[t])).map L)):=by
  have e1:fOp z0u (fN 2) (fLst (z02 (z08 true z16 (z02 (fN 3) fNil)) fNil)) [c0,c1,.ow f (S.map L),.sh true (L left),.sh true (.lst []),c5]=some (newL ((S++[t]).map L)):=by
   have:=zj0 S t h60
   simp[cOf,ht,this]
  unfold z5t
  rw[e1]
  have k1:=z8I (S++[t])
  have nd:((S++[t]).map fun r=>(St.z00 r:Int)).Nodup:=by
   have:((S++[t]).map fun r=>(St.z00 r:Int))=((S++[t]).map St.z00).map (fun n:Nat=>(n:Int)):=by rw[List.map_map];rfl
   rw[this]
   exact List.Pairwise.map _ (fun a b hab e=>hab (by omega)) hh
  show(z2c z0g ((S++[t]).map L)).bind _=_
  rw[k1,z0i,if_pos ⟨by simp;omega,nd⟩,zhw]
 refine⟨lfl ((z1E (S++[t])).map L),?_⟩
 have e1:z2m 4 (z0d 2 [3] (z2V (fN 2)) (Tg.many [0,1]) (z0p (fOp opEq (z08 true z0g (z02 (fN 1) fNil)) (z08 true z0g (z02 (fN 2) fNil)))) (fN 0)) [c0,c1,.ow f (S.map L),.sh true (L left),c4,c5]=some (.nx [c0,c1,.ow f (S.map L),.sh true (L left),.sh true (.lst []),c5]):=by
  unfold z2m
  rw[pl]
  rfl
 refine run e1 ?_
 have e2:sIf (z0p (fOp opEq (fBlt bLen (z02 (fN 4) fNil)) (fC (.int 0)))) (sRet (z5t z0g (fOp z0u (fN 2) (fLst (z02 (z08 true z16 (z02 (fN 3) fNil)) fNil))))) z0M [c0,c1,.ow f (S.map L),.sh true (L left),.sh true (.lst []),c5]=some (.rt (lfl ((z1E (S++[t])).map L)) (LL (z1E (S++[t])))):=by
  have c:z0p (fOp opEq (fBlt bLen (z02 (fN 4) fNil)) (fC (.int 0))) [c0,c1,.ow f (S.map L),.sh true (L left),.sh true (.lst []),c5]=some true:=by simp[cOf,z0v]
  unfold sIf
  rw[c,z0i,if_pos rfl,sRet,st]
  rfl
 unfold sSeq
 rw[e2]
 rfl
theorem zcY(S1 S2:List (List Int))(r left up lo:List Int)(c0 c1 c4 c5:Cell)(f:Bool)(hh:St.z00 r=St.z00 left)(pw:((S1++r::S2).map St.z00).Pairwise (·<·))(hc:z2L [L r,L left]=some (.tup [L up,L lo]))(res:List Int)(hl:z0S [L lo,LL (S1++up::S2)]=some (L res)):
   ∃ d4 d5,WF [c0,c1,.ow f ((S1++r::S2).map L),.sh true (L left),c4,c5]=some (.nx [c0,c1,.ow f ((S1++up::S2).map L),.sh true (L res),d4,d5]):=by
 have pl:=za0 (S1++r::S2) left c0 c1 c4 c5 f
 rw[za _ 0 S1 r S2 hh pw]at pl
 have pl:z0d 2 [3] (z2V (fN 2)) (Tg.many [0,1]) (z0p (fOp opEq (z08 true z0g (z02 (fN 1) fNil)) (z08 true z0g (z02 (fN 2) fNil)))) (fN 0) [c0,c1,.ow f ((S1++r::S2).map L),.sh true (L left),c4,c5]=some (.nw,.lst [.int (S1.length:Int)]):=by rw[pl];simp
 refine⟨.sh true (.lst [.int (S1.length:Int)]),.sh true (.tup [L up,L lo]),?_⟩
 have at1:atI ((S1++r::S2).map L) (S1.length:Int)=some (L r):=z37 (by simp)
 have ix:ixN ((S1++r::S2).map L).length (S1.length:Int)=some S1.length:=by
   unfold ixN
   rw[if_pos (by omega),if_pos (by simp;omega)];simp
 have set1:((S1++r::S2).map L).set S1.length (L up)=(S1++up::S2).map L:=by
   rw[List.map_append,List.map_append,List.set_append]
   simp
 have hl:z0S [L lo,.lst ((S1++up::S2).map L)]=some (L res):=hl
 generalize (S1++r::S2).map L=D at *
 generalize (S1++up::S2).map L=D' at *
 have e1:z2m 4 (z0d 2 [3] (z2V (fN 2)) (Tg.many [0,1]) (z0p (fOp opEq (z08 true z0g (z02 (fN 1) fNil)) (z08 true z0g (z02 (fN 2) fNil)))) (fN 0)) [c0,c1,.ow f D,.sh true (L left),c4,c5]=some (.nx [c0,c1,.ow f D,.sh true (L left),.sh true (.lst [.int (S1.length:Int)]),c5]):=by
   unfold z2m
   rw[pl]
   rfl
 refine run e1 (run (ρ':=[c0,c1,.ow f D,.sh true (L left),.sh true (.lst [.int (S1.length:Int)]),c5]) ?_ (run (ρ':=[c0,c1,.ow f D,.sh true (L left),.sh true (.lst [.int (S1.length:Int)]),.sh true (.tup [L up,L lo])]) ?_ (run (ρ':=[c0,c1,.ow f D',.sh true (L left),.sh true (.lst [.int (S1.length:Int)]),.sh true (.tup [L up,L lo])]) ?_ ?_)))
 · simp[cOf,z0v]
 · simp[cOf,at1,hc]
 · simp[cOf,ix,set1]
 · simp[cOf,hl]
theorem zhx(S:List (List Int))(h:Nat):(∀ r∈S,St.z00 r≠h)∨∃ S1 r S2,S=S1++r::S2∧St.z00 r=h:=by
 by_cases q:∃ r∈S,St.z00 r=h
 · obtain⟨r,hr,e⟩:=q
   obtain⟨S1,S2,rfl⟩:=List.append_of_mem hr
   exact .inr ⟨S1,r,S2,rfl,e⟩
 · exact .inl fun r hr e=>q ⟨r,hr,e⟩
theorem z8J{n e:Nat}{S:List (List Int)}(A:St.Asc n 0 S)(hd:∀ r∈S,St.hd r<2 ^ e)(he:e≤8990):∀ r∈S,r.length=n∧St.z00 r<n∧0<St.hd r∧St.hd r<2 ^ 9000:=fun r hr=>by
 have q:=A.mem hr
 refine⟨q.1,q.2.2.1,q.2.2.2,?_⟩
 have h1:=hd r hr
 have h9:(2:Nat) ^ e≤2 ^ 9000:=Nat.pow_le_pow_right (by decide) (by omega)
 have c1:((2 ^ 9000:Nat):Int)=(2:Int) ^ 9000:=by norm_cast
 have c2:((2 ^ e:Nat):Int)=(2:Int) ^ e:=by norm_cast
 omega
structure Sz(n e eh m0 kk:Nat):Prop where
 n20:n≤20
 e90:eh≤8990
 ehe:eh≤e
 e33:e≤33000
 m0e:m0=e+20*(e+1)
 kke:kk=2*e+3+20*(e+1)
theorem Sz.lim{n e eh m0 kk:Nat}(z:Sz n e eh m0 kk):m0+n*kk≤16000000:=by
 have h1:=z.n20
 have h2:=z.e33
 have h3:=z.m0e
 have h4:=z.kke
 have:n*kk≤20*kk:=Nat.mul_le_mul_right _ h1
 omega
theorem zmd{n e eh m0 kk:Nat}(z:Sz n e eh m0 kk)(S0:List (List Int))(v:List Int)(h20:S0.length≤20)(c0 c1:Cell)(f:Bool):∀(k:Nat) (S:List (List Int)) (left:List Int) (c4 c5:Cell),St.Wi n e eh m0 kk S0 v S left→n-St.z00 left≤k →
 (∃ S' left' c4' c5',z0Y WC WF (k+1) [c0,c1,.ow f (S.map L),.sh true (L left),c4,c5]=some (.nx [c0,c1,.ow f (S'.map L),.sh true (L left'),c4',c5'])∧St.Post n (e+3+(m0+n*kk)) S0 v S') ∨
 (∃ S' fl,z0Y WC WF (k+1) [c0,c1,.ow f (S.map L),.sh true (L left),c4,c5]=some (.rt fl (LL S'))∧St.Post n (e+3+(m0+n*kk)) S0 v S'):=by
 intro k
 induction k using Nat.strongRecOn with
 | _ k IH =>
 intro S left c4 c5 I hk
 have lim:=z.lim
 have hlen:S.length=S0.length:=by have:=congrArg List.length I.heads;simpa using this
 have hc:WC [c0,c1,.ow f (S.map L),.sh true (L left),c4,c5]=some (decide (St.z00 left<n)):=by
   have:(decide ((St.z00 left:Int)<(left.length:Int)))=decide (St.z00 left<n):=by
     have:=I.len
     by_cases h:St.z00 left<n
     · rw[decide_eq_true h,decide_eq_true (by omega)]
     · rw[decide_eq_false h,decide_eq_false (by omega)]
   simp[cOf,z0Q,this]
   have:=I.len
   omega
 rw[z0Y,hc,z0i]
 by_cases hn:St.z00 left<n
 · rw[decide_eq_true hn,if_pos rfl]
   rcases zhx S (St.z00 left)with no|⟨S1,r,S2,rfl,hr⟩
   · right
     have ht:=zb5 (n:=n) (q:=0) left I.len hn
     generalize et:(if St.at0 left (St.z00 left)<0 then sclR (-1) left else left)=t at ht
     have hne:St.at0 left (St.z00 left)≠0:=St.z60 left (by rw[I.len];exact hn)
     have tc:∃ c:Int,(c=1∨c = -1)∧(∀ k,St.at0 t k=c*St.at0 left k)∧0<St.at0 t (St.z00 left)∧t.length=n:=by
       by_cases h:St.at0 left (St.z00 left)<0
       · rw[if_pos h]at et
         subst et
         have e1:∀ k,St.at0 (sclR (-1) left) k = -1*St.at0 left k:=fun k=>by
          simp only[St.at0,sclR,List.getD,List.getElem?_map]
          cases left[k]?<;>simp
         exact⟨-1,.inr rfl,e1,by rw[e1];omega,by rw[z0R];exact I.len⟩
       · rw[if_neg h]at et
         subst et
         exact⟨1,.inl rfl,fun k=>by omega,by omega,I.len⟩
     obtain⟨c,hc1,hc2,hc3,hc4⟩:=tc
     have th:St.z00 t=St.z00 left:=St.z2d _ _ (fun k hk=>by rw[hc2,St.z0l left k hk];simp) (by omega)
     have nd:((S++[t]).map St.z00).Nodup:=by
       rw[List.map_append,List.nodup_append]
       refine⟨(St.Asc.iff.mp I.asc).2.imp fun{a b} h=>by omega,by simp,fun a ha b hb=>?_⟩
       obtain⟨x,hx,rfl⟩:=List.mem_map.mp ha
       have:=no x hx
       have hb:b=St.z00 t:=by simpa using hb
       omega
     obtain⟨fl,ew⟩:=zj1 S left t c0 c1 c4 c5 f no ht nd (by omega)
     refine⟨z1E (S++[t]),fl,by rw[ew];rfl,?_⟩
     refine I.new hn no hc4 c hc1 hc2 hc3 ?_ (z8H _ nd)
     exact(z6b _).trans (List.perm_append_comm)
   · have hm:r∈S1++r::S2:=by simp
     have q:=I.asc.mem hm
     have hcast:((2 ^ e:Nat):Int)=(2:Int) ^ e:=by norm_cast
     have hle:m0+St.z00 left*kk≤m0+n*kk:=by have:=Nat.mul_le_mul_right kk (Nat.le_of_lt hn);omega
     obtain⟨g,x,y,ec,hg,ga,gb,hxy,hx,hy⟩:=zcX (n:=n) (e:=eh) (q:=e+3+(m0+St.z00 left*kk)) r left q.1 I.len q.2.2.1 q.2.2.2 (I.hds r hm) (I.low r hm).1 (I.low r hm).2 z.e90 (I.all r hm) (I.size.mono (Nat.pow_le_pow_right (by decide) (by omega))) (by have:=z.e33;omega)
     have hl2:S1.length+S2.length+1≤20:=by simp at hlen;omega
     obtain⟨I',hlt,lb,hds'⟩:=I.step hr hn hg ga gb hxy (Nat.lt_of_lt_of_le hx (Nat.pow_le_pow_right (by decide) (by have:=z.ehe;omega))) (Nat.lt_of_lt_of_le hy (Nat.pow_le_pow_right (by decide) (by have:=z.ehe;omega))) (by have:=z.m0e;omega) (by
       have:=z.kke
       have:(S1.length+S2.length+1)*(e+1)≤20*(e+1):=Nat.mul_le_mul_right _ hl2
       omega)
     have el:=z5B (n:=n) (m:=m0+n*kk) (L (St.z19 r left g)) (St.z19 r left g) (S1++St.z0z r left x y::S2) (.inl rfl) (by omega) (z8J I'.asc hds' z.e90) (by
       unfold St.z19;rw[St.z7G (by rw[I.len,q.1])];exact I.len) lb (by simp;omega)
     obtain⟨d4,d5,ew⟩:=zcY S1 S2 r left _ _ c0 c1 c4 c5 f hr (St.Asc.iff.mp I.asc).2 ec _ el
     cases k with
     | zero=>omega
     | succ k =>
       rcases IH k (Nat.lt_succ_self k) _ _ d4 d5 I' (by omega) with⟨S',l',d4',d5',h1,h2⟩|⟨S',fl,h1,h2⟩
       · exact .inl ⟨S',l',d4',d5',by rw[ew];exact h1,h2⟩
       · exact .inr ⟨S',fl,by rw[ew];exact h1,h2⟩
 · rw[decide_eq_false hn]
   exact .inl ⟨S,left,c4,c5,rfl,I.done hn⟩
theorem zc7{n e eh m0 kk:Nat}(z:Sz n e eh m0 kk)(S:List (List Int))(d:Dt)(v:List Int)(hd:RowD d v)(A:St.Asc n 0 S)(hv:v.length=n)(h0:∀ r∈S,St.Lt (2 ^ e) r)(hh:∀ r∈S,St.hd r<2 ^ eh)(hs:St.Lt (2 ^ e) v)(h20:S.length≤20):
   ∃ S',z2g [LL S,d]=some (LL S')∧St.Post n (e+3+(m0+n*kk)) S v S':=by
 have lim:=z.lim
 have hm0:=z.m0e
 have hml:e+S.length*(e+1)≤m0:=by have:S.length*(e+1)≤20*(e+1):=Nat.mul_le_mul_right _ h20;omega
 obtain⟨I,lb⟩:=St.Wi.start (n:=n) (e:=e) (eh:=eh) (s:=e) (m0:=m0) (kk:=kk) A hv h0 hh hs hml (by omega)
 have el:=z5B (n:=n) (m:=m0) d v S hd (by omega) (z8J A I.hds z.e90) hv lb (by omega)
 have el:z0S [d,.lst (S.map L)]=some (L (St.z0h v S)):=el
 have fl:∃ f:Bool,∀ d0:Dt,sOwn 2 (fBlt bLst (z02 (fN 0) fNil)) [.sh false (LL S),.sh false d0,.no,.no,.no,.no]=some (.nx [.sh false (LL S),.sh false d0,.ow f (S.map L),.no,.no,.no]):=by
   cases S with
   | nil=>exact⟨true,fun d0=>by simp[cOf]⟩
   | cons r S=>exact⟨false,fun d0=>by simp[cOf,newL,lfl]⟩
 obtain⟨f,hf⟩:=fl
 have hb:∀ o,z3h WC WF [.sh false (LL S),.sh false d,.ow f (S.map L),.sh true (L (St.z0h v S)),.no,.no]=some o→(∃ S' fl,seqO (sRet (fN 2)) o=some (.rt fl (LL S'))∧St.Post n (e+3+(m0+n*kk)) S v S')→∃ S',z2g [LL S,d]=some (LL S')∧St.Post n (e+3+(m0+n*kk)) S v S':=by
   rintro o ho ⟨S',fl,h1,h2⟩
   refine⟨S',?_,h2⟩
   have e2:z2m 3 (z08 true z0S (z02 (fN 1) (z02 (fN 2) fNil))) [.sh false (LL S),.sh false d,.ow f (S.map L),.no,.no,.no]=some (.nx [.sh false (LL S),.sh false d,.ow f (S.map L),.sh true (L (St.z0h v S)),.no,.no]):=by
    rcases hd with rfl|rfl<;>simp[cOf,el]
   have q:z2Z [.sh false (LL S),.sh false d,.no,.no,.no,.no]=some (.rt fl (LL S')):=by
    unfold z2Z
    refine run (hf d) (run e2 ?_)
    show(z3h WC WF _).bind (seqO (sRet (fN 2)))=_
    rw[ho]
    exact h1
   unfold z2g cOf
   rw[if_pos (show[LL S,d].length=2 from rfl)]
   show(z2Z [.sh false (LL S),.sh false d,.no,.no,.no,.no]).bind _=_
   rw[q]
   rfl
 rcases zmd z S v h20 (.sh false (LL S)) (.sh false d) f (n-St.z00 (St.z0h v S)) S (St.z0h v S) .no .no I (Nat.le_refl _) with⟨S',l',d4',d5',h1,h2⟩|⟨S',fl,h1,h2⟩
 · exact hb _ (z4V h1) ⟨S',flOf f,rfl,h2⟩
 · exact hb _ (z4V h1) ⟨S',fl,rfl,h2⟩
theorem z7n:∀(A T:List (List Int)),∃ A',St.even (A++T)=A'++St.even T
 | [],T=>⟨[],rfl⟩
 | r::A,T=>by
  obtain⟨A',e⟩:=z7n A T
  exact⟨St.z0h r (St.even (A++T))::A',by rw[List.cons_append,St.even,e];rfl⟩
theorem z8K{n:Nat}:∀{f:Nat} {A T:List (List Int)},St.Asc n f (A++T)→St.Asc n 0 T
 | f,[],T,h=>h.weak (Nat.zero_le _)
 | f,r::A,T,h=>z8K (A:=A) h.2.2.2.2
abbrev EF:FS:=sWrA z8f 1 (z08 true z0S (z02 (fN 2) (z02 (fN 1) fNil)))
theorem zgw{n e eh u:Nat}(he:eh≤8990)(he3:e≤33000)(hu:u≤17000000)(c0:Cell)(S:List (List Int))(A:St.Asc n 0 S)(hs:∀ r∈S,St.Lt (2 ^ u) r)(hE:∀ r∈St.even S,St.Lt (2 ^ e) r)(hH:∀ r∈St.even S,St.hd r<2 ^ eh)(h20:S.length≤21)(heu:e≤u):
  ∀(R T:List (List Int)) (c2:Cell),S=R.reverse++T→∃ c2',forF (Tg.one 2) EF (R.map L) [c0,.ow true ((St.even T).map L),c2]=some (.nx [c0,.ow true ((St.even S).map L),c2'])
 | [],T,c2,h=>⟨c2,by rw[h];rfl⟩
 | r::R,T,c2,h=>by
  have h':S=R.reverse++(r::T):=by rw[h];simp
  obtain⟨c2',ih⟩:=zgw he he3 hu c0 S A hs hE hH h20 heu R (r::T) (.sh false (L r)) h'
  refine⟨c2',?_⟩
  rw[List.map_cons,z1t]
  have hlen:T.length+1≤21:=by have:=congrArg List.length h';simp at this;omega
  have rm:r∈S:=by rw[h'];simp
  have AT:St.Asc n 0 T:=z8K (A:=R.reverse++[r]) (by rw[List.append_assoc];show St.Asc n 0 (R.reverse++(r::T));rw[←h'];exact A)
  have AE:=(St.z2K AT).1
  obtain⟨A',ea⟩:=z7n (R.reverse++[r]) T
  have sub:∀ x∈St.even T,x∈St.even S:=fun x hx=>by
   rw[h',show R.reverse++(r::T)=(R.reverse++[r])++T by simp,ea]
   exact List.mem_append.mpr (.inr hx)
  have hE':∀ x∈St.even T,St.Lt (2 ^ e) x:=fun x hx=>hE x (sub x hx)
  have hel:(St.even T).length≤20:=by rw[St.z2W];omega
  have hmul:(St.even T).length*(e+1)≤20*(e+1):=Nat.mul_le_mul_right _ hel
  obtain⟨_,lb⟩:=St.z2q (n:=n) (t:=0) (s:=u) (e:=e) (m:=u+20*(e+1)) (S:=St.even T) (left:=r) (fun x hx=>⟨(AE.mem hx).1,(AE.mem hx).2.2.2⟩) (A.mem rm).1 (fun k hk=>by omega) (fun x hx _=>hE' x hx) (hs r rm) (by omega) (by omega)
  have el:=z5B (n:=n) (m:=u+20*(e+1)) (L r) r (St.even T) (.inl rfl) (by omega) (z8J AE (fun x hx=>hH x (sub x hx)) he) (A.mem rm).1 lb (by omega)
  have el:z0S [L r,.lst ((St.even T).map L)]=some (L (St.z0h r (St.even T))):=el
  have e1:(Tg.put (Tg.one 2) (L r) [c0,.ow true ((St.even T).map L),c2]).bind EF=some (.nx [c0,.ow true (L (St.z0h r (St.even T))::(St.even T).map L),.sh false (L r)]):=by
   simp[cOf,el,show(St.even T).length<1000000 by omega]
  rw[e1]
  exact ih
theorem zhy{n e eh u:Nat}(S:List (List Int))(he:eh≤8990)(he3:e≤33000)(hu:u≤17000000)(A:St.Asc n 0 S)(hs:∀ r∈S,St.Lt (2 ^ u) r)(hE:∀ r∈St.even S,St.Lt (2 ^ e) r)(hH:∀ r∈St.even S,St.hd r<2 ^ eh)(h20:S.length≤21)(heu:e≤u):z4w [LL S]=some (LL (St.even S)):=by
 obtain⟨c2,q⟩:=zgw he he3 hu (.sh false (LL S)) S A hs hE hH h20 heu S.reverse [] .no (by simp)
 have q:forF (Tg.one 2) EF (S.map L).reverse [.sh false (LL S),.ow true [],.no]=some (.nx [.sh false (LL S),.ow true ((St.even S).map L),c2]):=by rw[←List.map_reverse];exact q
 unfold z4w z8C
 simp[cOf,q]
abbrev CF:FS:=sSet [] 1 (z08 true z4w (z02 (z08 false z2g (z02 (fN 1) (z02 (fN 2) fNil))) fNil))
theorem z8L{n e eh B:Nat}(ed:List Int→Dt)(hed:∀ r,RowD (ed r) r)(hn:n≤20)(he:eh≤8990)(hee:eh≤e)(he3:e≤33000)(all:List (List Int))(hl:∀ r∈all,r.length=n)(hb:∀ r∈all,St.Lt B r)(hB:0<B)(hBe:B≤2 ^ e)(hbn:∀ k,k≤all.length→St.bnd k B+1≤2 ^ e)(hH:∀ k S,k≤all.length→St.Good n B (all.take k) S→∀ r∈S,St.hd r<2 ^ eh)(h20:all.length≤20)(c0:Cell):
  ∀(todo done:List (List Int)) (S:List (List Int)) (c2:Cell),all=done++todo→St.Good n B done S→∃ S' c2',forF (Tg.one 2) CF (todo.map ed) [c0,.sh true (LL S),c2]=some (.nx [c0,.sh true (LL S'),c2'])∧St.Good n B all S'
 | [],done,S,c2,h,G=>⟨S,c2,rfl,by rw[h,List.append_nil];exact G⟩
 | v::todo,done,S,c2,h,G=>by
  have z:Sz n e eh (e+20*(e+1)) (2*e+3+20*(e+1)):=⟨hn,he,hee,he3,rfl,rfl⟩
  have hdn:all.take done.length=done:=by rw[h];simp
  have hdv:all.take (done.length+1)=done++[v]:=by rw[h,List.take_append,List.take_of_length_le (by omega)];simp
  have hld:done.length+1+todo.length=all.length:=by rw[h];simp;omega
  have hv:v∈all:=by rw[h];simp
  have sub:∀ r∈done,r∈all:=fun r hr=>by rw[h];exact List.mem_append.mpr (.inl hr)
  have small:=G.small (fun r hr=>hb r (sub r hr)) hB
  have len:=G.len
  have small:∀ r∈S,St.Lt (2 ^ e) r:=fun r hr=>(small r hr).mono (hbn _ (by omega))
  obtain⟨S1,e1,P⟩:=zc7 z S (ed v) v (hed v) G.asc (hl v hv) small (hH done.length S (by omega) (by rw[hdn];exact G)) ((hb v hv).mono hBe) (by omega)
  have G':=G.step P
  have small':=G'.small (fun r hr=>by
   rcases List.mem_append.mp hr with hr|hr
   · exact hb r (sub r hr)
   · rw[List.mem_singleton.mp hr];exact hb v hv) hB
  have len':=G'.len
  have len2:(done++[v]).length=done.length+1:=by simp
  have small':∀ r∈St.even S1,St.Lt (2 ^ e) r:=fun r hr=>(small' r hr).mono (hbn _ (by omega))
  have lim:=z.lim
  have e2:=zhy (n:=n) (e:=e) (u:=e+3+(e+20*(e+1)+n*(2*e+3+20*(e+1)))) S1 he he3 (by omega) P.asc P.size small' (hH (done.length+1) _ (by omega) (by rw[hdv];exact G')) (by rw[←St.z2W];omega) (by omega)
  obtain⟨S',c2',ih,GG⟩:=z8L ed hed hn he hee he3 all hl hb hB hBe hbn hH h20 c0 todo (done++[v]) (St.even S1) (.sh false (ed v)) (by rw[h];simp) G'
  refine⟨S',c2',?_,GG⟩
  rw[List.map_cons,z1t]
  have st:(Tg.put (Tg.one 2) (ed v) [c0,.sh true (LL S),c2]).bind CF=some (.nx [c0,.sh true (LL (St.even S1)),.sh false (ed v)]):=by
   have sn:∀ f,(nrm f (ed v)).2=ed v:=fun f=>rfl
   simp[cOf,sn,e1,e2]
  rw[st]
  exact ih
theorem z4B{n e eh B:Nat}(ed:List Int→Dt)(hed:∀ r,RowD (ed r) r)(hn:n≤20)(he:eh≤8990)(hee:eh≤e)(he3:e≤33000)(rows:List (List Int))(d:Dt)(hd:d = .lst (rows.map ed)∨d = .tup (rows.map ed))(hl:∀ r∈rows,r.length=n)(hb:∀ r∈rows,St.Lt B r)(hB:0<B)(hBe:B≤2 ^ e)(hbn:∀ k,k≤rows.length→St.bnd k B+1≤2 ^ e)(hH:∀ k S,k≤rows.length→St.Good n B (rows.take k) S→∀ r∈S,St.hd r<2 ^ eh)(h20:rows.length≤20):
   ∃ S,z1S [d]=some (LL S)∧St.Good n B rows S:=by
 obtain⟨S,c2,q,G⟩:=z8L ed hed hn he hee he3 rows hl hb hB hBe hbn hH h20 (.sh false d) rows [] [] .no rfl St.Good.nil
 refine⟨S,?_,G⟩
 have q:forF (Tg.one 2) CF (rows.map ed) [.sh false d,.sh true (.lst []),.no]=some (.nx [.sh false d,.sh true (LL S),c2]):=q
 unfold z1S z6X
 rcases hd with rfl|rfl
 · simp[cOf,q]
 · simp[cOf,q]
theorem zcZ{n e B:Nat}(ed:List Int→Dt)(hed:∀ r,RowD (ed r) r)(hn:n≤20)(he:e≤8990)(rows:List (List Int))(d:Dt)(hd:d = .lst (rows.map ed)∨d = .tup (rows.map ed))(hl:∀ r∈rows,r.length=n)(hb:∀ r∈rows,St.Lt B r)(hB:0<B)(hBe:B≤2 ^ e)(hbn:∀ k,k≤rows.length→St.bnd k B+1≤2 ^ e)(h20:rows.length≤20):
 ∃ S,z1S [d]=some (LL S)∧St.Good n B rows S:=z4B (eh:=e) ed hed hn he (Nat.le_refl _) (by omega) rows d hd hl hb hB hBe hbn (fun k S hk G r hr=>by
 have q:=G.small (fun r hr=>hb r (List.mem_of_mem_take hr)) hB r hr (St.z00 r)
 have l:=G.len
 have b:=hbn S.length (by rw[List.length_take]at l;omega)
 have q:(St.hd r).natAbs<St.bnd S.length B+1:=q
 have c2:((2 ^ e:Nat):Int)=(2:Int) ^ e:=by norm_cast
 omega) h20
theorem zj2{n e B:Nat}(k:Int)(bills:List (List Int))(hn:n≤20)(he:e≤8990)(hl:∀ r∈bills,r.length=n)(hb:∀ r∈bills,St.Lt B r)(hB:0<B)(hBe:B≤2 ^ e)(hbn:∀ k,k≤bills.length→St.bnd k B+1≤2 ^ e)(h20:bills.length≤20):
  ∃ S,z57 [z0E k bills]=some (LL S)∧St.Good n B bills S:=by
 obtain⟨S,q,G⟩:=zcZ (n:=n) (e:=e) (B:=B) T (fun r => .inr rfl) hn he bills (TTu bills) (.inr rfl) hl hb hB hBe hbn h20
 refine⟨S,?_,G⟩
 unfold z57 zaY
 simp[cOf,q]
theorem zc8(m j:Nat)(hm:m≤1000):z2Y [.int m,.int j]=some (L (St.z2X m j)):=by
 unfold z2Y z5z
 have q:z0d 1 [1] (z0D (fN 0)) (Tg.one 0) fYes (fIf (z0p (fOp opEq (fN 0) (fN 1))) (fC (.int 1)) (fC (.int 0))) [.sh false (.int m),.sh false (.int j)]=some (.nw,L (St.z2X m j)):=by
  rw[z0j (e:=fun(k:Nat) => .int (0+(k:Int))) (h:=fun k => .int (if k=j then 1 else 0)) (xs:=List.range m) (by simp[cOf,y13 m (by omega),z1x]) (fun k _=>by
   by_cases h:k=j
   · simp[cOf,z0v,h]
   · simp[cOf,z0v,h,show ¬(k:Int)=(j:Int) by omega])]
  rw[L_map (fun k=>if k=j then 1 else 0)]
  rfl
 simp[cOf,q]
theorem zgx(m:Nat):∀(s:Nat) (bs:List (List Int)),(bs.zip ((List.range' s bs.length).map (St.z2X m))).map (fun p=>p.1++p.2)=St.tagF m s bs
 | s,[]=>rfl
 | s,b::bs=>by rw[List.length_cons,List.range'_succ,List.map_cons,List.zip_cons_cons,List.map_cons,zgx m (s+1) bs,St.tagF]
theorem z6c(S:List (List Int))(n:Nat):z0L [LL S,.int n]=some (LL (St.bots n S)):=by
 have q:z0d 1 [1] (iSeq (fN 0)) (Tg.one 0) (z0p (fOp opGe (z08 true z0g (z02 (fN 0) fNil)) (fN 1))) (fSl (fN 0) (z1H (fN 1)) z0I) [.sh false (LL S),.sh false (.int n)]=some (.nw,.lst ((S.filter fun r=>!decide (St.z00 r<n)).map fun r=>L (r.drop n))) :=
  z5Y (e:=L) (h:=fun r=>L (r.drop n)) (p:=fun r=>!decide (St.z00 r<n)) (xs:=S) (by simp[cOf]) (fun r hr=>by
   by_cases h:St.z00 r<n
   · simp[cOf,z0Q,h]
   · simp[cOf,z0Q,h];omega) (fun r hr _=>by
   simp[cOf,z5Z,z21])
 unfold z0L z2h
 simp[cOf,q,St.bots]
structure Hall(n:Nat)(bills:List (List Int)):Prop where
 n1:1≤n
 n6:n≤6
 m8:bills.length≤8
 wide:∀ r∈bills,r.length=n
 small:∀ r∈bills,∀ x∈r,x.natAbs<10 ^ 30
theorem Hall.lt{n:Nat}{bills:List (List Int)}(H:Hall n bills):∀ r∈bills,St.Lt (10 ^ 30) r:=fun r hr=>St.zhn (by decide) (H.small r hr)
theorem zd{n:Nat}{bills:List (List Int)}(H:Hall n bills):∃ S,z57 [z0E n bills]=some (LL S)∧St.Good n (10 ^ 30) bills S∧∀ r∈S,St.Lt (2 ^ 900) r:=by
 have m8:=H.m8
 have n6:=H.n6
 obtain⟨S,es,G⟩:=zj2 (n:=n) (e:=900) (B:=10 ^ 30) n bills (by omega) (by omega) H.wide H.lt (by decide) (by decide) (fun k hk=>St.bnd30 k (by omega)) (by omega)
 have:=G.len
 exact⟨S,es,G,fun r hr=>(G.small H.lt (by decide) r hr).mono (St.bnd30 _ (by omega))⟩
theorem hd_lt{n e:Nat}{S:List (List Int)}(A:St.Asc n 0 S)(h:∀ r∈S,St.Lt (2 ^ e) r):∀ r∈S,St.hd r<2 ^ e:=fun r hr=>by
 have h1:=h r hr (St.z00 r)
 have h3:(St.hd r).natAbs<2 ^ e:=h1
 have:((2 ^ e:Nat):Int)=(2:Int) ^ e:=by norm_cast
 omega
theorem copies(bills:List (List Int))(ρ:Rho)(F:FE)(f:Fl)(h:F ρ=some (f,LL bills)):z0d 1 [] (iSeq F) (Tg.one 0) fYes (fBlt bLst (z02 (fN 0) fNil)) ρ=some (.nw,LL bills) :=
 z0j (e:=L) (h:=L) (xs:=bills) (by unfold iSeq;rw[h];rfl) (fun x hx=>by simp[cOf])
theorem zd0(ns:List Int):Hall (z1a ns) (z20 ns):=⟨(z5v ns).1,(z5v ns).2,by rw[zbI];exact z9K ns,zaN ns,zcN ns⟩
theorem Hall.made{n:Nat}{bills:List (List Int)}(H:Hall n bills):z3u [.int n,LL bills]=some (z0E n bills):=zcW n bills H.n1 H.n6 H.m8 H.wide H.small
structure Bask(n:Nat)(bills:List (List Int))(one other:List Int)(b:Bool):Prop where
 l1:one.length=n
 l2:other.length=n
 s1:St.Lt (2 ^ 100) one
 s2:St.Lt (2 ^ 210) other
 sp:b=true→∃ uses:List Int,uses.length=bills.length∧(∀ x∈uses,x.natAbs<10 ^ 30)∧other=addR one (mixR n bills uses)
theorem Bask.span{n:Nat}{bills:List (List Int)}{one other:List Int}{b:Bool}(q:Bask n bills one other b)(H:Hall n bills)(hb:b=true):Lat.Span (St.vecs bills) (fun k=>St.at0 other k-St.at0 one k):=by
 obtain⟨uses,h1,_,h2⟩:=q.sp hb
 refine Lat.Span.congr (fun k=>?_) (St.zcQ (R:=bills) uses)
 have hml:(mixR n bills uses).length=n:=ziJ H.wide
 rw[h2,z6a (by rw[hml];exact q.l1),ziW H.wide]
 omega
theorem zgy(a p:Int)(hp:0<p):z3l [.int a,.int p]=some (.int (a.fmod p)):=by
 unfold z3l zaX
 simp[cOf,z0v,show ¬p=0 by omega,z2f hp]
def rstR(p:Int)(r:List Int):List Int:=r.map (·.fmod p)
theorem z6d(p:Int)(r:List Int):(rstR p r).length=r.length:=by simp[rstR]
theorem z7M(p:Int)(r:List Int)(k:Nat):St.at0 (rstR p r) k=St.at0 r k-p*(St.at0 r k).fdiv p:=by
 have e:St.at0 (rstR p r) k=(St.at0 r k).fmod p:=by
  unfold St.at0 rstR
  by_cases h:k<r.length
  · simp[List.getD,List.getElem?_eq_getElem h]
  · simp[List.getD,List.getElem?_eq_none (Nat.le_of_not_lt h)]
 rw[e,Int.fmod_def]
theorem zd1{p:Int}(hp:0<p){r:List Int}:∀ x∈rstR p r,0≤x∧x<p:=fun x hx=>by
 obtain⟨y,_,rfl⟩:=List.mem_map.mp hx
 exact⟨Int.fmod_nonneg_of_pos y hp,Int.fmod_lt_of_pos y hp⟩
theorem z6e(r:List Int)(p:Int)(hp:0<p):z2l [L r,.int p]=some (L (rstR p r)):=by
 unfold z2l zaZ
 have q:z0d 1 [1] (iSeq (fN 0)) (Tg.one 0) fYes (z08 true z3l (z02 (fN 0) (z02 (fN 1) fNil))) [.sh false (L r),.sh false (.int p)]=some (.nw,L (rstR p r)):=by
  rw[z0j (e:=Dt.int) (h:=fun x => .int (x.fmod p)) (xs:=r) (by simp[cOf]) (fun x _=>by
   have:=zgy x p hp
   simp[cOf,this])]
  simp[rstR,L]
 simp[cOf,q]
theorem z70(A:List (List Int))(m:Nat)(h:∀ r∈A,r.length=m)(hm:m≤1000):z2s [LL A,.int m]=some (LL (St.trn m A)):=by
 unfold z2s z8D
 have q:z0d 1 [0] (z0D (fN 1)) (Tg.one 0) fYes (z0d 1 [0] (iSeq (fN 1)) (Tg.one 0) fYes (fAt (fN 0) (fN 1))) [.sh false (LL A),.sh false (.int m)]=some (.nw,LL (St.trn m A)):=by
  rw[z0j (e:=fun(k:Nat) => .int (0+(k:Int))) (h:=fun k=>L (A.map fun r=>St.at0 r k)) (xs:=List.range m) (by simp[cOf,y13 m (by omega),z1x]) (fun k hk=>by
   have hk:=List.mem_range.mp hk
   have i:z0d 1 [0] (iSeq (fN 1)) (Tg.one 0) fYes (fAt (fN 0) (fN 1)) [.sh false (.int (k:Int)),.sh false (LL A)]=some (.nw,L (A.map fun r=>St.at0 r k)):=by
    rw[z0j (e:=L) (h:=fun r => .int (St.at0 r k)) (xs:=A) (by simp[cOf]) (fun r hr=>by
     have e:atI (r.map Dt.int) ((k:Nat):Int)=some (.int (St.at0 r k)):=by
      rw[z4j,z4k 0 (by rw[h r hr];exact hk)];rfl
     simp[cOf,e])]
    simp[L]
   simp[cOf,i])]
  simp[St.trn,LL]
 simp[cOf,q]
abbrev SF:FS:=(sIf (fOr (z0p (fOp opNe (z08 true z0g (z02 (fN 2) fNil)) (fN 1))) (fTru (fBlt bAny (z02 (z0d 1 [] (iSeq (fSl (fN 2) (z1H (fOp z0u (fN 1) (fC (.int 1)))) z0I)) (Tg.one 0) fYes (fOp opNe (fN 0) (fC (.int 0)))) fNil)))) (sRet (fC (.bl false))) z0M)
def z5k(p:Nat×List Int):Prop:=St.z00 p.2=p.1∧∀ x∈p.2.drop (p.1+1),x=0
theorem cut1{α:Type}(xs:List α)(j:Nat):cutD xs (some ((j:Int)+1)) none=xs.drop (j+1):=by
 have:=z5Z xs (j+1)
 rwa [show(((j+1:Nat)):Int)=(j:Int)+1 by omega]at this
theorem z8M(c0 c1 c2:Cell)(p:Nat×List Int):(¬z5k p→(Tg.put (Tg.many [1,2]) (.tup [.int p.1,L p.2]) [c0,c1,c2]).bind SF=some (.rt .nw (.bl false)))∧(z5k p→(Tg.put (Tg.many [1,2]) (.tup [.int p.1,L p.2]) [c0,c1,c2]).bind SF=some (.nx [c0,.sh false (.int p.1),.sh false (L p.2)])):=by
 obtain⟨j,r⟩:=p
 have cm:z0d 1 [] (iSeq (fSl (fN 2) (z1H (fOp z0u (fN 1) (fC (.int 1)))) z0I)) (Tg.one 0) fYes (fOp opNe (fN 0) (fC (.int 0))) [c0,.sh false (.int j),.sh false (L r)]=some (.nw,.lst ((r.drop (j+1)).map fun x => .bl (!decide (x=0)))):=by
   rw[z0j (e:=Dt.int) (h:=fun x => .bl (!decide (x=0))) (xs:=r.drop (j+1)) (by
    simp[cOf,cut1,z21,List.map_drop]) (fun x _=>by simp[cOf,z0W])]
 have e:=z3r (fun x:Int=>!decide (x=0)) (r.drop (j+1))
 have q:z5k (j,r)↔St.z00 r=j∧((r.drop (j+1)).map fun x=>!decide (x=0)).any id=false:=by
   unfold z5k
   refine and_congr_right fun _=>?_
   rw[List.any_map,List.any_eq_false]
   simp
 generalize (r.drop (j+1)).map (fun x=>Dt.bl (!decide (x=0)))=D at cm e
 generalize (r.drop (j+1)).map (fun x=>!decide (x=0))=bs at e q
 rw[q]
 by_cases hh:St.z00 r=j
 · cases hb:bs.any id with
   | true=>exact⟨fun _=>by simp[cOf,z0Q,z0W,hh,cm,bAny,e,hb],fun h=>by cases h.2⟩
   | false=>exact⟨fun h=>absurd ⟨hh,rfl⟩ h,fun _=>by simp[cOf,z0Q,z0W,hh,cm,bAny,e,hb]⟩
 · exact⟨fun _=>by simp[cOf,z0Q,z0W,show ¬((St.z00 r:Int)=(j:Int)) by omega],fun h=>absurd h.1 hh⟩
theorem z4C(A:List (List Int)):((∀ p∈z1d 0 A,z5k p)→z1O [LL A]=some (.bl true))∧((∃ p∈z1d 0 A,¬z5k p)→z1O [LL A]=some (.bl false)):=by
 have key:=z9W (g:=Tg.many [1,2]) (F:=SF) (fun p:Nat×List Int => .tup [.int p.1,L p.2]) (fun p=>¬z5k p) (fun j:Cell×Cell=>[.sh false (LL A),j.1,j.2]) .nw (.bl false) (z1d 0 A) (.no,.no)
   (fun p _ j hb=>(z8M _ _ _ p).1 hb) (fun p _ j hb=>⟨(.sh false (.int p.1),.sh false (L p.2)),(z8M _ _ _ p).2 (Classical.not_not.mp hb)⟩)
 rw[←z3z]at key
 constructor
 · intro h
   obtain⟨j,e⟩:=key.2 fun p hp (k:¬z5k p)=>k (h p hp)
   unfold z1O z3W
   simp[cOf,e]
 · intro h
   have e:=key.1 h
   unfold z1O z3W
   simp[cOf,e]
theorem z8N(A W:List (List Int)):St.pair A W=(A.zip W).map fun p=>p.1++p.2:=by
 unfold St.pair
 induction A generalizing W with
 | nil=>rfl
 | cons a A ih =>
  cases W with
  | nil=>rfl
  | cons b W=>rw[List.zipWith_cons_cons,List.zip_cons_cons,List.map_cons,ih]
theorem z8O{n e eh B:Nat}(hn:n≤20)(he:eh≤8990)(hee:eh≤e)(he3:e≤33000)(A W:List (List Int))(hlt:A.length=W.length)(hl:∀ x∈St.pair A W,x.length=n)(hb:∀ x∈St.pair A W,St.Lt B x)(hB:0<B)(hBe:B≤2 ^ e)(hbn:∀ k,k≤A.length→St.bnd k B+1≤2 ^ e)
  (hH:∀ k S,k≤A.length→St.Good n B ((St.pair A W).take k) S→∀ r∈S,St.hd r<2 ^ eh) (h20:A.length≤20):∃ S,z1c [LL A,LL W]=some (LL S)∧St.Good n B (St.pair A W) S:=by
 have hlz:(St.pair A W).length=A.length:=St.z25 hlt
 obtain⟨S,q,G⟩:=z4B (n:=n) (e:=e) (eh:=eh) (B:=B) L (fun r => .inl rfl) hn he hee he3 (St.pair A W) (LL (St.pair A W)) (.inl rfl) hl hb hB hBe (fun k hk=>hbn k (by omega)) (fun k S hk=>hH k S (by omega)) (by omega)
 refine⟨S,?_,G⟩
 unfold z1c z30
 have z:z0d 2 [] (iZip (fN 0) (fN 1)) (Tg.many [0,1]) fYes (fOp z0u (fBlt bLst (z02 (fN 0) fNil)) (fBlt bLst (z02 (fN 1) fNil))) [.sh false (LL A),.sh false (LL W)]=some (.nw,LL (St.pair A W)):=by
  rw[z0j (e:=fun p:List Int×List Int => .tup [L p.1,L p.2]) (h:=fun p=>L (p.1++p.2)) (xs:=A.zip W) (by simp[cOf,hlt,z4h]) (fun p hp=>by
   have h1:=hl (p.1++p.2) (by rw[z8N];exact List.mem_map.mpr ⟨p,hp,rfl⟩)
   have c:=zbJ p.1 p.2 (by simp at h1;omega)
   simp[cOf,c])]
  rw[z8N]
  simp[LL]
 simp[cOf,z,q]
theorem z2N:∀{j:Nat} {A:List (List Int)} {p:Nat×List Int},p∈z1d j A↔∃ i,i<A.length∧p=(j+i,A.getD i [])
 | j,[],p=>by simp[z1d]
 | j,r::A,p=>by
  rw[z1d,List.mem_cons,z2N]
  constructor
  · rintro(rfl|⟨i,hi,rfl⟩)
    · exact⟨0,by simp,rfl⟩
    · exact⟨i+1,by simpa using hi,by rw[show j+1+i=j+(i+1) by omega];rfl⟩
  · rintro⟨i,hi,rfl⟩
    cases i with
    | zero=>exact .inl rfl
    | succ i=>exact .inr ⟨i,by simpa using hi,by rw[show j+1+i=j+(i+1) by omega];rfl⟩
theorem z71{r:Nat}{A:List (List Int)}(q:St.Sq r A):(∀ p∈z1d 0 A,z5k p)↔St.Clean r A:=by
 constructor
 · intro h i hi k hn
   have:=(h (0+i,A.getD i []) (z2N.mpr ⟨i,by rw[q.len];exact hi,rfl⟩)).2
   rcases Nat.lt_or_gt_of_ne hn with x|x
   · exact q.low x
   · by_cases hk:k<r
     · have hl:(A.getD i []).length=r:=q.rows _ (St.z14 (by rw[q.len];exact hi))
       refine this (St.ent A i k) (List.mem_of_getElem? (i:=k-(0+i+1)) ?_)
       show((A.getD i []).drop (0+i+1))[k-(0+i+1)]?=_
       rw[List.getElem?_drop,show 0+i+1+(k-(0+i+1))=k by omega,List.getElem?_eq_getElem (show k<(A.getD i []).length by rw[hl];exact hk)]
       have e:St.ent A i k=(A.getD i []).getD k 0:=rfl
       rw[e]
       simp[List.getD,List.getElem?_eq_getElem (show k<((A[i]?).getD []).length by have:=hl;simp only[List.getD]at this;rw[this];exact hk)]
     · exact q.far (by omega)
 · intro c p hp
   obtain⟨i,hi,rfl⟩:=z2N.mp hp
   rw[q.len]at hi
   refine⟨by show St.z00 (A.getD i [])=0+i;rw[q.head hi];omega,fun x hx=>?_⟩
   obtain⟨j,hj,rfl⟩:=List.getElem_of_mem hx
   rw[List.getElem_drop]
   have:=c i hi (0+i+1+j) (by omega)
   unfold St.ent St.at0 at this
   rw[List.length_drop]at hj
   have hj:0+i+1+j<(A.getD i []).length:=by have hj:j<(A.getD i []).length-(0+i+1):=hj;omega
   rw[List.getD,List.getElem?_eq_getElem hj]at this
   exact this
theorem bnd6(k:Nat)(h:k≤6):St.bnd k (2 ^ 5461)+1≤2 ^ 32900:=by
 have h1:=St.z63 (r:=k) (s:=6) (B:=2 ^ 5461) h (Nat.two_pow_pos _) (by decide)
 have h2:St.bnd 6 (2 ^ 5461)≤2 ^ 32826:=by
  unfold St.bnd
  have a:2*6*2 ^ 5461≤2 ^ 5465:=by
   rw[show(5465:Nat)=4+5461 from rfl,Nat.pow_add]
   exact Nat.mul_le_mul_right _ (by decide)
  have b:=Nat.pow_le_pow_left a 6
  rw[←Nat.pow_mul]at b
  have c:(2:Nat) ^ 32826=2 ^ (5465*6)*2 ^ (6*6):=by rw[←Nat.pow_add]
  rw[c]
  exact Nat.mul_le_mul_right _ b
 have h3:(2:Nat) ^ 32826<2 ^ 32900:=Nat.pow_lt_pow_right (by decide) (by decide)
 omega
structure Mb(r n:Nat)(w:Int):Prop where
 r6:r≤6
 n6:n≤6
 wp:0<w
 wb:w<2 ^ 5400
theorem Mb.lt{r n:Nat}{w x:Int}(b:Mb r n w)(h0:0≤x)(h1:x≤w):x.natAbs<2 ^ 5461:=by
 have:=b.wb
 have h:(2:Nat) ^ 5400≤2 ^ 5461:=Nat.pow_le_pow_right (by decide) (by decide)
 have c:((2 ^ 5400:Nat):Int)=(2:Int) ^ 5400:=by norm_cast
 omega
theorem Mb.hd{r n:Nat}{w x:Int}(b:Mb r n w)(h:x∣w):x<2 ^ 5400:=by
 have:=Int.le_of_dvd b.wp h
 have:=b.wb
 omega
abbrev GC:FT:=fNot (fTru (z08 true z1O (z02 (fN 4) fNil)))
abbrev GF:FS:=(sSeq (sSet [] 6 (z08 true z2s (z02 (z08 true z1S (z02 (z08 true z2s (z02 (fN 4) (z02 (fN 3) fNil))) fNil)) (z02 (fN 3) fNil))))
 (sSeq (sSet [] 7 (z08 true z1c (z02 (fN 6) (z02 (fN 5) fNil))))
 (sSeq (sSet [] 4 (z0d 1 [3] (iSeq (fN 7)) (Tg.one 0) fYes (fSl (fN 0) z0I (z1H (fN 1)))))
 (sSet [] 5 (z0d 1 [3,2] (iSeq (fN 7)) (Tg.one 0) fYes (z08 true z2l (z02 (fSl (fN 0) (z1H (fN 1)) z0I) (z02 (fN 2) fNil))))))))
structure Mw(r n:Nat)(w:Int)(G K A W:List (List Int)):Prop where
 m:St.Mst r n w G K A W
 wb:∀ x∈W,St.Lt (2 ^ 5461) x
theorem zd2{r n:Nat}{w:Int}{G K A W:List (List Int)}(b:Mb r n w)(I:Mw r n w G K A W)(c0 c1 c6 c7:Cell)(f2 f3 f4 f5:Bool):
   ∃ T A' W' f4' f5' c6' c7',GF [c0,c1,.sh f2 (.int w),.sh f3 (.int r),.sh f4 (LL A),.sh f5 (LL W),c6,c7]=some (.nx [c0,c1,.sh f2 (.int w),.sh f3 (.int r),.sh f4' (LL A'),.sh f5' (LL W'),c6',c7'])∧Mw r n w G K A' W'∧St.Sq r T∧Lat.SameSpan (St.vecs T) (St.vecs (St.trn r A))∧Lat.SameSpan (St.vecs A') (St.vecs (St.trn r T)):=by
 have r6:=b.r6
 have n6:=b.n6
 have q:=I.m.sq
 have wC:=I.m.whole
 have eA:=fun i k=>q.entryC wC b.wp i k
 have tl:(St.trn r A).length=r:=St.z0N _ _
 have tr:∀ x∈St.trn r A,x.length=r:=fun x hx=>by rw[St.z2F hx,q.len]
 have B1:=q.below wC
 have mem_lt:∀{P:List (List Int)} {E:Nat},(∀ i k,(St.ent P i k).natAbs<E)→∀ x∈P,St.Lt E x:=fun{P E} h x hx k=>by
   obtain⟨i,hi,rfl⟩:=List.getElem_of_mem hx
   have:=h i k
   unfold St.ent at this
   rwa [show P.getD i []=P[i] by simp[List.getD,List.getElem?_eq_getElem hi]]at this
 have t1:=z70 A r q.rows (by omega)
 obtain⟨T,e1,G1⟩:=z4B (n:=r) (e:=32900) (eh:=5400) (B:=2 ^ 5461) L (fun r => .inl rfl) (by omega) (by decide) (by decide) (by decide) (St.trn r A) (LL (St.trn r A)) (.inl rfl) tr
   (mem_lt fun i k=>by rw[St.z1j q.rows];exact b.lt (eA k i).1 (eA k i).2) (Nat.two_pow_pos _) (Nat.pow_le_pow_right (by decide) (by decide)) (fun k hk=>bnd6 k (by omega))
   (fun k S hk G x hx=>b.hd (B1.heads (by omega) G.asc G.span hx).2) (by omega)
 obtain⟨l1,_⟩:=G1.sq B1
 have sT:St.Sq r T:=⟨G1.asc,G1.form,l1⟩
 have wT:St.z24 r w T:=fun i hi=>G1.span.iff.mpr (wC i hi)
 have eT:=fun i k=>sT.entry wT b.wp i k
 have t2:=z70 T r sT.rows (by omega)
 have wT2:=sT.comm wT
 have B2:=sT.below_pair wT2 I.m.wl I.m.wr
 obtain⟨S,e2,G2⟩:=z8O (n:=r+n) (e:=32900) (eh:=5400) (B:=2 ^ 5461) (by omega) (by decide) (by decide) (by decide) (St.trn r T) W (by rw[St.z0N,I.m.wl]) B2.rows
   (fun x hx k=>by
     obtain⟨i,hi,rfl⟩:=List.getElem_of_mem hx
     have hi':i<r:=by rw[B2.len]at hi;exact hi
     have e:St.at0 ((St.pair (St.trn r T) W)[i]) k=St.ent (St.pair (St.trn r T) W) i k:=by unfold St.ent;simp[List.getD,List.getElem?_eq_getElem hi]
     rw[e,St.z4p (n:=n) (r:=r) (fun x hx=>by rw[St.z2F hx,sT.len]) (by rw[St.z0N];exact hi') (by rw[I.m.wl];exact hi')]
     split
     · rw[St.z1j sT.rows];exact b.lt (eT k i).1 (eT k i).2
     · exact I.wb _ (St.z14 (by rw[I.m.wl];exact hi')) _)
   (Nat.two_pow_pos _) (Nat.pow_le_pow_right (by decide) (by decide)) (fun k hk=>bnd6 k (by rw[St.z0N]at hk;omega))
   (fun k S hk G x hx=>b.hd (B2.heads (by rw[St.z0N]at hk;omega) G.asc G.span hx).2) (by rw[St.z0N];omega)
 obtain⟨l2,h2⟩:=G2.sq B2
 have M':=I.m.step sT G1.span G2.asc G2.form l2 h2 G2.span
 have hs:=St.z4Z (r:=r) G2.span
 rw[St.z50 (fun x hx=>by rw[St.z2F hx,sT.len]) (by rw[St.z0N,I.m.wl])]at hs
 have len:∀ x∈S,x.length=r+n:=fun x hx=>(G2.asc.mem hx).1
 have k3:∀ d0 d1:Cell,z0d 1 [3] (iSeq (fN 7)) (Tg.one 0) fYes (fSl (fN 0) z0I (z1H (fN 1))) [d0,d1,.sh f2 (.int w),.sh f3 (.int r),.sh f4 (LL A),.sh f5 (LL W),.sh true (LL (St.trn r T)),.sh true (LL S)]=some (.nw,LL (S.map (·.take r))):=fun d0 d1=>by
   rw[z0j (e:=L) (h:=fun x=>L (x.take r)) (xs:=S) (by simp[cOf]) (fun x hx=>by simp[cOf,zaO,z4l])]
   simp[LL]
 have k4:∀ d0 d1:Cell,z0d 1 [3,2] (iSeq (fN 7)) (Tg.one 0) fYes (z08 true z2l (z02 (fSl (fN 0) (z1H (fN 1)) z0I) (z02 (fN 2) fNil))) [d0,d1,.sh f2 (.int w),.sh f3 (.int r),.sh true (LL (S.map (·.take r))),.sh f5 (LL W),.sh true (LL (St.trn r T)),.sh true (LL S)]=some (.nw,LL (S.map fun x=>rstR w (x.drop r))):=fun d0 d1=>by
   rw[z0j (e:=L) (h:=fun x=>L (rstR w (x.drop r))) (xs:=S) (by simp[cOf]) (fun x hx=>by
     have:=z6e (x.drop r) w b.wp
     simp[cOf,z5Z,z21,this])]
   simp[LL]
 refine⟨T,S.map (·.take r),S.map fun x=>rstR w (x.drop r),true,true,.sh true (LL (St.trn r T)),.sh true (LL S),?_,⟨?_,?_⟩,sT,G1.span,hs⟩
 · refine run (ρ':=[c0,c1,.sh f2 (.int w),.sh f3 (.int r),.sh f4 (LL A),.sh f5 (LL W),.sh true (LL (St.trn r T)),c7]) ?_ (run (ρ':=[c0,c1,.sh f2 (.int w),.sh f3 (.int r),.sh f4 (LL A),.sh f5 (LL W),.sh true (LL (St.trn r T)),.sh true (LL S)]) ?_ (run (ρ':=[c0,c1,.sh f2 (.int w),.sh f3 (.int r),.sh true (LL (S.map (·.take r))),.sh f5 (LL W),.sh true (LL (St.trn r T)),.sh true (LL S)]) ?_ ?_))
   · simp[cOf,t1,e1,t2]
   · simp[cOf,e2]
   · simp[cOf,k3]
   · simp[cOf,k4]
 · refine M'.rest (W':=S.map fun x=>rstR w (x.drop r)) (by rw[List.length_map,l2]) (fun x hx=>?_) (fun i k=>(St.ent (S.map (·.drop r)) i k).fdiv w) fun i k hi=>?_
   · obtain⟨y,hy,rfl⟩:=List.mem_map.mp hx
     rw[z6d,List.length_drop,len y hy];omega
   · have hi:i<S.length:=by omega
     have x1:St.ent (S.map fun x=>rstR w (x.drop r)) i k=St.at0 (rstR w ((S.getD i []).drop r)) k:=by unfold St.ent;simp[List.getD,List.getElem?_eq_getElem hi]
     have x2:St.ent (S.map (·.drop r)) i k=St.at0 ((S.getD i []).drop r) k:=by unfold St.ent;simp[List.getD,List.getElem?_eq_getElem hi]
     rw[x1,x2,z7M]
 · intro x hx k
   obtain⟨y,hy,rfl⟩:=List.mem_map.mp hx
   by_cases hk:k<(rstR w (y.drop r)).length
   · have:=zd1 b.wp (r:=y.drop r) (St.at0 (rstR w (y.drop r)) k) (by unfold St.at0;rw[List.getD,List.getElem?_eq_getElem hk];exact List.getElem_mem _)
     exact b.lt this.1 (by omega)
   · rw[St.z1i (by omega)];exact Nat.two_pow_pos _
theorem zd3{r n:Nat}{w:Int}{G K:List (List Int)}(b:Mb r n w)(c0 c1:Cell)(f2 f3:Bool):∀(d t:Nat),t+d=r→∀(a:Nat) (A W:List (List Int)) (f4 f5:Bool) (c6 c7:Cell),Mw r n w G K A W→St.Clean t A→(t<r→St.ent A t t=(a:Int)) →
  ∃ k A' W' f4' f5' c6' c7',z0Y GC GF k [c0,c1,.sh f2 (.int w),.sh f3 (.int r),.sh f4 (LL A),.sh f5 (LL W),c6,c7]=some (.nx [c0,c1,.sh f2 (.int w),.sh f3 (.int r),.sh f4' (LL A'),.sh f5' (LL W'),c6',c7'])∧Mw r n w G K A' W'∧St.Clean r A':=by
 intro d
 induction d with
 | zero =>
  intro t ht a A W f4 f5 c6 c7 I c _
  have hc:St.Clean r A:=by rw[←ht];exact c
  have:=(z4C A).1 ((z71 I.m.sq).mpr hc)
  refine⟨1,A,W,f4,f5,c6,c7,?_,I,hc⟩
  have hc:GC [c0,c1,.sh f2 (.int w),.sh f3 (.int r),.sh f4 (LL A),.sh f5 (LL W),c6,c7]=some false:=by simp[cOf,this]
  rw[z0Y,hc];rfl
 | succ d ihd =>
  intro t ht a
  induction a using Nat.strongRecOn with
  | ind a iha =>
   intro A W f4 f5 c6 c7 I c ha
   have htr:t<r:=by omega
   by_cases hc:St.Clean r A
   · have:=(z4C A).1 ((z71 I.m.sq).mpr hc)
     refine⟨1,A,W,f4,f5,c6,c7,?_,I,hc⟩
     have hc:GC [c0,c1,.sh f2 (.int w),.sh f3 (.int r),.sh f4 (LL A),.sh f5 (LL W),c6,c7]=some false:=by simp[cOf,this]
     rw[z0Y,hc];rfl
   · have no:∃ p∈z1d 0 A,¬z5k p:=Classical.byContradiction fun k=>hc ((z71 I.m.sq).mp fun p hp=>Classical.byContradiction fun q=>k ⟨p,hp,q⟩)
     have:=(z4C A).2 no
     have hl:GC [c0,c1,.sh f2 (.int w),.sh f3 (.int r),.sh f4 (LL A),.sh f5 (LL W),c6,c7]=some true:=by simp[cOf,this]
     obtain⟨T,A',W',f4',f5',c6',c7',e,I',sT,s1,s2⟩:=zd2 b I c0 c1 c6 c7 f2 f3 f4 f5
     obtain⟨cl,alt⟩:=St.zbS I.m.sq sT I'.m.sq s1 s2 c htr
     have fin:(∃ k A'' W'' f4'' f5'' c6'' c7'',z0Y GC GF k [c0,c1,.sh f2 (.int w),.sh f3 (.int r),.sh f4' (LL A'),.sh f5' (LL W'),c6',c7']=some (.nx [c0,c1,.sh f2 (.int w),.sh f3 (.int r),.sh f4'' (LL A''),.sh f5'' (LL W''),c6'',c7''])∧Mw r n w G K A'' W''∧St.Clean r A''):=by
      rcases alt with h|h
      · by_cases ht2:t+1<r
        · have p:=I'.m.sq.pos ht2
          exact ihd (t+1) (by omega) (St.ent A' (t+1) (t+1)).toNat A' W' f4' f5' c6' c7' I' h fun _=>by omega
        · exact ihd (t+1) (by omega) 0 A' W' f4' f5' c6' c7' I' h fun h=>absurd h ht2
      · have p:=I'.m.sq.pos htr
        have ha:=ha htr
        exact iha (St.ent A' t t).toNat (by omega) A' W' f4' f5' c6' c7' I' cl fun _=>by omega
     obtain⟨k,A2,W2,f42,f52,c62,c72,e2,I2,h2⟩:=fin
     refine⟨k+1,A2,W2,f42,f52,c62,c72,?_,I2,h2⟩
     rw[z0Y,hl,z0i,if_pos rfl,e]
     exact e2
def MD(M:St.Meas):Dt := .lst (M.map fun x => .tup [L x.1,.int x.2])
def z1K(A W:List (List Int)):St.Meas:=(z1d 0 W).map fun p=>(p.2,St.ent A p.1 p.1)
theorem z72:∀(j:Nat) (A:List (List Int)),(z1d j A).length=A.length
 | j,[]=>rfl
 | j,r::A=>by rw[z1d,List.length_cons,List.length_cons,z72]
theorem z73:∀(j:Nat) (A:List (List Int)) (i:Nat),i<A.length→(z1d j A)[i]?=some (j+i,A.getD i [])
 | j,r::A,0,_=>rfl
 | j,r::A,i+1,h=>by
  rw[z1d,List.getElem?_cons_succ,z73 (j+1) A i (by simpa using h),show j+1+i=j+(i+1) by omega];rfl
theorem z8P(A W:List (List Int)){i:Nat}(h:i<W.length):St.mw (z1K A W) i=W.getD i []∧St.mp (z1K A W) i=St.ent A i i:=by
 unfold St.mw St.mp z1K
 rw[List.getD,List.getElem?_map,z73 0 W i h,Nat.zero_add]
 exact⟨rfl,rfl⟩
theorem zj3{r:List Int}{k:Nat}(h:k<r.length):atI (r.map Dt.int) (k:Int)=some (.int (St.at0 r k)):=by
 rw[z4j,z4k 0 h];rfl
theorem zd4{r n:Nat}{w:Int}{G K A W:List (List Int)}(b:Mb r n w)(I:Mw r n w G K A W):∃ A' W',z58 [LL A,LL W,.int w]=some (MD (z1K A' W'))∧Mw r n w G K A' W'∧St.Clean r A':=by
 have al:=I.m.sq.len
 obtain⟨k,A',W',f4,f5,c6,c7,e,I',hc⟩:=zd3 b (.sh false (LL A)) (.sh false (LL W)) false true r 0 (by omega) (St.ent A 0 0).toNat A W false false .no .no I (fun i hi=>by omega) fun h=>by have:=I.m.sq.pos h;omega
 have e:=z4V e
 refine⟨A',W',?_,I',hc⟩
 have cm:∀ d0 d1 d2 d3 d6 d7:Cell,∃ f,z0d 2 [4] (z2V (fN 5)) (Tg.many [0,1]) fYes (fTup (z02 (fN 1) (z02 (fAt (fAt (fN 2) (fN 0)) (fN 0)) fNil))) [d0,d1,d2,d3,.sh f4 (LL A'),.sh f5 (LL W'),d6,d7]=some (f,MD (z1K A' W')):=fun d0 d1 d2 d3 d6 d7=>by
  have key:=z8k (nt:=2) (js:=[4]) (Fi:=z2V (fN 5)) (g:=Tg.many [0,1]) (Fe:=fTup (z02 (fN 1) (z02 (fAt (fAt (fN 2) (fN 0)) (fN 0)) fNil))) (ρ:=[d0,d1,d2,d3,.sh f4 (LL A'),.sh f5 (LL W'),d6,d7]) (e:=fun p:Nat×List Int => .tup [.int p.1,L p.2]) (h:=fun p=>(.sh,.tup [L p.2,.int (St.ent A' p.1 p.1)])) (xs:=z1d 0 W') (by simp[cOf,z3z]) (fun p hp=>by
   obtain⟨i,hi,rfl⟩:=z2N.mp hp
   rw[I'.m.wl]at hi
   rw[Nat.zero_add]
   have h1:=getD_L A' (k:=i) (by rw[I'.m.sq.len];omega)
   have h2:=zj3 (r:=A'.getD i []) (k:=i) (by rw[I'.m.sq.rows _ (St.z14 (by rw[I'.m.sq.len];omega))];omega)
   have x:St.ent A' i i=St.at0 (A'.getD i []) i:=rfl
   rw[x]
   generalize A'.getD i []=ra at h1 h2 ⊢
   generalize W'.getD i []=rb
   simp[cOf,h1,h2]
   rfl)
  have x:MD (z1K A' W') = .lst ((z1d 0 W').map fun p => .tup [L p.2,.int (St.ent A' p.1 p.1)]):=by
   unfold MD z1K
   rw[List.map_map]
   rfl
  rw[x]
  exact⟨_,key⟩
 obtain⟨f,cm⟩:=cm (.sh false (LL A)) (.sh false (LL W)) (.sh false (.int w)) (.sh true (.int r)) c6 c7
 have q:z3v [.sh false (LL A),.sh false (LL W),.sh false (.int w),.no,.no,.no,.no,.no]=some (.rt f (MD (z1K A' W'))):=by
  unfold z3v
  refine run (ρ':=[.sh false (LL A),.sh false (LL W),.sh false (.int w),.sh true (.int r),.no,.no,.no,.no]) (by simp[cOf,al]) (run (ρ':=[.sh false (LL A),.sh false (LL W),.sh false (.int w),.sh true (.int r),.sh false (LL A),.no,.no,.no]) (by simp[cOf];rfl) (run (ρ':=[.sh false (LL A),.sh false (LL W),.sh false (.int w),.sh true (.int r),.sh false (LL A),.sh false (LL W),.no,.no]) (by simp[cOf];rfl) (run e ?_)))
  unfold sRet
  rw[cm]
  rfl
 unfold z58 cOf
 rw[if_pos (show[LL A,LL W,Dt.int w].length=3 from rfl)]
 show(z3v [.sh false (LL A),.sh false (LL W),.sh false (.int w),.no,.no,.no,.no,.no]).bind _=_
 rw[q]
 rfl
theorem zhz{n:Nat}(w1 w2:List Int)(a b:Int)(h1:w1.length=n)(h2:w2.length=n)(ha:0<a)(hb:0<b)(ba:a<2 ^ 5400)(bb:b<2 ^ 5400)(l1:St.Lt (2 ^ 5461) w1)(l2:St.Lt (2 ^ 5461) w2):
  ∃ g x y a' b' lc,z31 [.tup [L w1,.int a],.tup [L w2,.int b]]=some (.tup [.tup [L (rstR g (addR w1 w2)),.int g],.tup [L (rstR lc (addR (sclR (-y*b') w1) (sclR (x*a') w2))),.int lc]])∧St.Bz g x y a b a' b'∧lc=a'*b∧0<lc∧g∣a:=by
 have cast:((2 ^ 5400:Nat):Int)=(2:Int) ^ 5400:=by norm_cast
 have a1:a.natAbs<2 ^ 5400:=by omega
 have a2:b.natAbs<2 ^ 5400:=by omega
 obtain⟨x,y,eb,exy,bx,bY⟩:=z9Z a b 5400 (by decide) a1 a2
 have g0:0<Int.gcd a b:=Int.gcd_pos_of_ne_zero_left _ (by omega)
 have d1:(Int.gcd a b:Int)∣a:=Int.gcd_dvd_left _ _
 have d2:(Int.gcd a b:Int)∣b:=Int.gcd_dvd_right _ _
 generalize eg:(Int.gcd a b:Int)=g at *
 have g0:0<g:=by omega
 have z:=St.Bz.of (f1:=x) (f2:=y) g0 d1 d2 (by rw[Int.mul_comm x,Int.mul_comm y];exact exy)
 have p2:2 ^ 5403=8*2 ^ 5400:=by rw[show(5403:Nat)=3+5400 from rfl,Nat.pow_add]
 have x1:x.natAbs<2 ^ 5403:=by omega
 have y1:y.natAbs<2 ^ 5403:=by omega
 have gle:g≤a:=Int.le_of_dvd ha d1
 have g9:g<2 ^ 9000:=by
  have h9:(2:Nat) ^ 5400≤2 ^ 9000:=Nat.pow_le_pow_right (by decide) (by decide)
  have:((2 ^ 9000:Nat):Int)=(2:Int) ^ 9000:=by norm_cast
  omega
 have dv1:z1G a g=true:=z3y g0 g9
 have dv2:z1G b g=true:=z3y g0 g9
 have f1:a.fdiv g=a / g:=Int.fdiv_eq_ediv_of_nonneg _ (by omega)
 have f2:b.fdiv g=b / g:=Int.fdiv_eq_ediv_of_nonneg _ (by omega)
 have k1:(a / g).natAbs<2 ^ 5400:=by rw[←f1];have:=St.z3t a g0;omega
 have k2:(b / g).natAbs<2 ^ 5400:=by rw[←f2];have:=St.z3t b g0;omega
 have ap:0<a / g:=Int.ediv_pos_of_pos_of_dvd ha (by omega) d1
 have lp:0<a / g*b:=Int.mul_pos ap hb
 refine⟨g,x,y,a / g,b / g,a / g*b,?_,z,rfl,lp,d1⟩
 have m1:z1v (a / g) b=true:=z3P k1 a2 (by decide)
 have m2:z1v (-y) (b / g)=true:=z3P (by rw[Int.natAbs_neg];exact y1) k2 (by decide)
 have m3:z1v x (a / g)=true:=z3P x1 k1 (by decide)
 have s1:(-y*(b / g)).natAbs<2 ^ (5403+5400):=by
  rw[Int.natAbs_mul,Nat.pow_add,Int.natAbs_neg]
  exact Nat.mul_lt_mul'' y1 k2
 have s2:(x*(a / g)).natAbs<2 ^ (5403+5400):=by
  rw[Int.natAbs_mul,Nat.pow_add]
  exact Nat.mul_lt_mul'' x1 k1
 have e1:=z1T w1 (-y*(b / g)) (z59 s1 l1 (by decide))
 have e2:=z1T w2 (x*(a / g)) (z59 s2 l2 (by decide))
 have e3:=z8E (sclR (-y*(b / g)) w1) (sclR (x*(a / g)) w2) (by rw[z0R,z0R,h1,h2])
 have e4:=z8E w1 w2 (by rw[h1,h2])
 have e5:=z6e (addR w1 w2) g g0
 have e6:=z6e (addR (sclR (-y*(b / g)) w1) (sclR (x*(a / g)) w2)) (a / g*b) lp
 have eb:z4u [.int a,.int b]=some (.tup [.int g,.int x,.int y]):=eb
 generalize addR (sclR (-y*(b / g)) w1) (sclR (x*(a / g)) w2)=u at *
 generalize sclR (-y*(b / g)) w1=u1 at *
 generalize sclR (x*(a / g)) w2=u2 at *
 generalize addR w1 w2=u3 at *
 have q:z4x [.sh false (.tup [L w1,.int a]),.sh false (.tup [L w2,.int b]),.no,.no,.no,.no,.no]=some (.rt .nw (.tup [.tup [L (rstR g u3),.int g],.tup [L (rstR (a / g*b) u),.int (a / g*b)]])):=by
  unfold z4x
  refine run (ρ':=[.sh false (.tup [L w1,.int a]),.sh false (.tup [L w2,.int b]),.sh true (.tup [.int g,.int x,.int y]),.no,.no,.no,.no]) (by simp[cOf,eb]) ?_
  refine run (ρ':=[.sh false (.tup [L w1,.int a]),.sh false (.tup [L w2,.int b]),.sh true (.tup [.int g,.int x,.int y]),.sh true (.int g),.no,.no,.no]) (by simp[cOf]) ?_
  refine run (ρ':=[.sh false (.tup [L w1,.int a]),.sh false (.tup [L w2,.int b]),.sh true (.tup [.int g,.int x,.int y]),.sh true (.int g),.sh true (.int (a / g*b)),.no,.no]) (by simp[cOf,dv1,f1,m1]) ?_
  refine run (ρ':=[.sh false (.tup [L w1,.int a]),.sh false (.tup [L w2,.int b]),.sh true (.tup [.int g,.int x,.int y]),.sh true (.int g),.sh true (.int (a / g*b)),.sh true (L u3),.no]) (by simp[cOf,e4]) ?_
  refine run (ρ':=[.sh false (.tup [L w1,.int a]),.sh false (.tup [L w2,.int b]),.sh true (.tup [.int g,.int x,.int y]),.sh true (.int g),.sh true (.int (a / g*b)),.sh true (L u3),.sh true (L u)]) (by simp[cOf,dv1,dv2,f1,f2,m2,m3,e1,e2,e3]) ?_
  simp[cOf,e5,e6]
 unfold z31 cOf
 rw[if_pos (show[Dt.tup [L w1,.int a],.tup [L w2,.int b]].length=2 from rfl)]
 show(z4x [.sh false (.tup [L w1,.int a]),.sh false (.tup [L w2,.int b]),.no,.no,.no,.no,.no]).bind _=_
 rw[q]
 rfl
theorem z4D{γ:Type}{g:Tg}{F:FS}(R:γ→Rho)(P:Nat→γ→Prop):∀(n k:Nat) (j:γ),P k j→(∀ i j,k≤i→i<k+n→P i j→∃ j',(g.put (.int (i:Int)) (R j)).bind F=some (.nx (R j'))∧P (i+1) j')→∃ j',forF g F (z2a (k:Int) n) (R j)=some (.nx (R j'))∧P (k+n) j'
 | 0,k,j,p,_=>⟨j,rfl,p⟩
 | n+1,k,j,p,h=>by
  obtain⟨j1,h1,p1⟩:=h k j (Nat.le_refl _) (by omega) p
  obtain⟨j2,h2,p2⟩:=z4D R P n (k+1) j1 p1 fun i j hi hl=>h i j (by omega) (by omega)
  refine⟨j2,?_,by rw[show k+(n+1)=k+1+n by omega];exact p2⟩
  rw[z1x,List.range_succ_eq_map,List.map_cons,z1t,show Dt.int ((k:Int)+((0:Nat):Int)) = .int (k:Int) by simp,h1,List.map_map]
  rw[←h2,z1x]
  show forF g F _ (R j1)=forF g F _ (R j1)
  congr 1
  apply List.map_congr_left
  intro i _
  show Dt.int ((k:Int)+((i+1:Nat):Int))=Dt.int (((k+1:Nat):Int)+(i:Int))
  congr 1
  omega
structure Cs(n r:Nat)(w:Int)(G:List (List Int))(K0:St.Meas)(t s:Nat)(M:St.Meas):Prop where
 ms:St.Ms n G (M++K0)
 ch:St.Chn w t s M
 len:M.length=r
 lt:∀ x∈M,St.Lt (2 ^ 5461) x.1
theorem zd5{p:Int}(hp:0<p)(hb:p<2 ^ 5400)(r:List Int):St.Lt (2 ^ 5461) (rstR p r):=fun k=>by
 have c:((2 ^ 5400:Nat):Int)=(2:Int) ^ 5400:=by norm_cast
 have h:(2:Nat) ^ 5400≤2 ^ 5461:=Nat.pow_le_pow_right (by decide) (by decide)
 by_cases hk:k<(rstR p r).length
 · have:=zd1 hp (r:=r) (St.at0 (rstR p r) k) (by unfold St.at0;rw[List.getD,List.getElem?_eq_getElem hk];exact List.getElem_mem _)
   omega
 · rw[St.z1i (by omega)];exact Nat.two_pow_pos _
abbrev KF:FS:=(sSeq (z2m 4 (z08 true z31 (z02 (fAt (fN 1) (fN 2)) (z02 (fAt (fN 1) (fN 3)) fNil))))
 (sSeq (sPut 1 (fN 2) (fAt (fN 4) (fC (.int 0))))
 (sPut 1 (fN 3) (fAt (fN 4) (fC (.int 1))))))
abbrev tD(x:List Int×Int):Dt := .tup [L x.1,.int x.2]
theorem zhA{n r:Nat}{w:Int}{G:List (List Int)}{K0:St.Meas}{t s:Nat}{M:St.Meas}(b:Mb r n w)(I:Cs n r w G K0 t s M)(hts:t<s)(hs:s<r)(c0 c4:Cell)(f:Bool):
   ∃ M' c4' f',KF [c0,.ow f (M.map tD),.sh false (.int t),.sh false (.int s),c4]=some (.nx [c0,.ow f' (M'.map tD),.sh false (.int t),.sh false (.int s),c4'])∧Cs n r w G K0 t (s+1) M':=by
 have lM:=I.len
 have get:∀ i,i<r→M[i]?=some (St.mw M i,St.mp M i):=fun i hi=>by
   unfold St.mw St.mp
   rw[List.getD,List.getElem?_eq_getElem (show i<M.length by omega)];rfl
 have mem:∀ i,i<r→(St.mw M i,St.mp M i)∈M:=fun i hi=>List.mem_of_getElem? (get i hi)
 have rows:∀ i,i<r→(St.mw M i).length=n:=fun i hi=>I.ms.rows _ (List.mem_append.mpr (.inl (mem i hi)))
 have bd:∀ i,i<r→St.mp M i<2 ^ 5400:=fun i hi=>b.hd (I.ch.whole i (by omega))
 obtain⟨g,x,y,a',b',lc,e,z,hlc,lp,gd⟩:=zhz (n:=n) (St.mw M t) (St.mw M s) (St.mp M t) (St.mp M s) (rows t (by omega)) (rows s hs) (I.ch.pos t (by omega)) (I.ch.pos s (by omega)) (bd t (by omega)) (bd s hs) (I.lt _ (mem t (by omega))) (I.lt _ (mem s hs))
 have ch':=I.ch.link (u:=rstR g (addR (St.mw M t) (St.mw M s))) (l:=rstR lc (addR (sclR (-y*b') (St.mw M t)) (sclR (x*a') (St.mw M s)))) hts (by omega) z hlc
 have lu:(rstR g (addR (St.mw M t) (St.mw M s))).length=n:=by rw[z6d,z4i (by rw[rows t (by omega),rows s hs]),rows t (by omega)]
 have ll:(rstR lc (addR (sclR (-y*b') (St.mw M t)) (sclR (x*a') (St.mw M s)))).length=n:=by rw[z6d,z4i (by rw[z0R,z0R,rows t (by omega),rows s hs]),z0R,rows t (by omega)]
 have ms':=St.zma (u:=rstR g (addR (St.mw M t) (St.mw M s))) (l:=rstR lc (addR (sclR (-y*b') (St.mw M t)) (sclR (x*a') (St.mw M s)))) I.ms hlc (by omega) (by omega) (by omega) z lu ll
   (fun k=>by rw[z7M,z6a (by rw[rows t (by omega),rows s hs])]) (fun k=>by rw[z7M,z6a (by rw[z0R,z0R,rows t (by omega),rows s hs]),zaT,zaT,Int.neg_mul])
 have gb:g<2 ^ 5400:=by have:=Int.le_of_dvd (I.ch.pos t (by omega)) gd;have:=bd t (by omega);omega
 have lb:lc<2 ^ 5400:=b.hd (by
   have:=ch'.whole s (by simp;omega)
   unfold St.mp at this
   rw[St.z8z (by omega) (by omega) (by omega),if_pos rfl]at this
   exact this)
 have u2:=zd5 z.gp gb (addR (St.mw M t) (St.mw M s))
 have l2:=zd5 lp lb (addR (sclR (-y*b') (St.mw M t)) (sclR (x*a') (St.mw M s)))
 generalize rstR g (addR (St.mw M t) (St.mw M s))=u at *
 generalize rstR lc (addR (sclR (-y*b') (St.mw M t)) (sclR (x*a') (St.mw M s)))=l at *
 have at1:atI (M.map tD) (t:Int)=some (tD (St.mw M t,St.mp M t)):=z37 (by rw[List.getElem?_map,get t (by omega)];rfl)
 have at2:atI (M.map tD) (s:Int)=some (tD (St.mw M s,St.mp M s)):=z37 (by rw[List.getElem?_map,get s hs];rfl)
 have mlen:(M.map tD).length=r:=by rw[List.length_map,lM]
 have st:((M.set t (u,g)).set s (l,lc)).map tD=((M.map tD).set t (tD (u,g))).set s (tD (l,lc)):=by rw[List.map_set,List.map_set]
 generalize M.map tD=D at *
 have x1:ixN D.length (t:Int)=some t:=zaU (by omega)
 have x2:ixN D.length (s:Int)=some s:=zaU (by omega)
 have e1:z2m 4 (z08 true z31 (z02 (fAt (fN 1) (fN 2)) (z02 (fAt (fN 1) (fN 3)) fNil))) [c0,.ow f D,.sh false (.int t),.sh false (.int s),c4]=some (.nx [c0,.ow f D,.sh false (.int t),.sh false (.int s),.sh true (.tup [tD (u,g),tD (l,lc)])]):=by
   have e:z31 [tD (St.mw M t,St.mp M t),tD (St.mw M s,St.mp M s)]=some (.tup [tD (u,g),tD (l,lc)]):=e
   generalize tD (St.mw M t,St.mp M t)=y1 at *
   generalize tD (St.mw M s,St.mp M s)=y2 at *
   have sn:∀(f:Fl) (d:Dt),(nrm f d).2=d:=fun _ _=>rfl
   simp[cOf,at1,at2,sn,e]
 have e2:∃ f1,sPut 1 (fN 2) (fAt (fN 4) (fC (.int 0))) [c0,.ow f D,.sh false (.int t),.sh false (.int s),.sh true (.tup [tD (u,g),tD (l,lc)])]=some (.nx [c0,.ow f1 (D.set t (tD (u,g))),.sh false (.int t),.sh false (.int s),.sh true (.tup [tD (u,g),tD (l,lc)])]):=by
   generalize tD (u,g)=y1
   generalize tD (l,lc)=y2
   have sn:∀(f:Fl) (d:Dt),(nrm f d).2=d:=fun _ _=>rfl
   refine⟨f&&(nrm (if y1.flat=true∧y2.flat=true then Fl.nw else Fl.fr).item y1).1.isFr,?_⟩
   simp[cOf,x1,sn]
 obtain⟨f1,e2⟩:=e2
 have e3:∃ f2,sPut 1 (fN 3) (fAt (fN 4) (fC (.int 1))) [c0,.ow f1 (D.set t (tD (u,g))),.sh false (.int t),.sh false (.int s),.sh true (.tup [tD (u,g),tD (l,lc)])]=some (.nx [c0,.ow f2 ((D.set t (tD (u,g))).set s (tD (l,lc))),.sh false (.int t),.sh false (.int s),.sh true (.tup [tD (u,g),tD (l,lc)])]):=by
   have x2:ixN (D.set t (tD (u,g))).length (s:Int)=some s:=by rw[List.length_set];exact x2
   generalize D.set t (tD (u,g))=E at *
   generalize tD (u,g)=y1
   generalize tD (l,lc)=y2
   have sn:∀(f:Fl) (d:Dt),(nrm f d).2=d:=fun _ _=>rfl
   refine⟨f1&&(nrm (if y1.flat=true∧y2.flat=true then Fl.nw else Fl.fr).item y2).1.isFr,?_⟩
   simp[cOf,x2,sn]
 obtain⟨f2,e3⟩:=e3
 refine⟨(M.set t (u,g)).set s (l,lc),.sh true (.tup [tD (u,g),tD (l,lc)]),f2,run e1 (run e2 (by rw[st];exact e3)),⟨ms',ch',by simp[lM],fun x hx=>?_⟩⟩
 rcases List.mem_or_eq_of_mem_set hx with hx|rfl
 · rcases List.mem_or_eq_of_mem_set hx with hx|rfl
   · exact I.lt x hx
   · exact u2
 · exact l2
theorem zd6{n r:Nat}{w:Int}{G:List (List Int)}{K0:St.Meas}{t:Nat}{M:St.Meas}(b:Mb r n w)(I:Cs n r w G K0 t (t+1) M)(ht:t<r)(c0 c3 c4:Cell)(f:Bool):
  ∃ M' c3' c4' f',forF (Tg.one 3) KF (z2a ((t+1:Nat):Int) (r-(t+1))) [c0,.ow f (M.map tD),.sh false (.int t),c3,c4]=some (.nx [c0,.ow f' (M'.map tD),.sh false (.int t),c3',c4'])∧Cs n r w G K0 (t+1) (t+2) M':=by
 obtain⟨j,e,p⟩:=z4D (g:=Tg.one 3) (F:=KF) (fun j:St.Meas×Cell×Cell×Bool=>[c0,.ow j.2.2.2 (j.1.map tD),.sh false (.int t),j.2.1,j.2.2.1]) (fun s j=>Cs n r w G K0 t s j.1) (r-(t+1)) (t+1) (M,c3,c4,f) I fun s j h1 h2 p=>by
  obtain⟨M',c4',f',e,p'⟩:=zhA b p (by omega) (by omega) c0 j.2.2.1 j.2.2.2
  exact⟨(M',.sh false (.int s),c4',f'),e,p'⟩
 exact⟨j.1,j.2.1,j.2.2.1,j.2.2.2,e,⟨p.ms,p.ch.next (by rw[p.len];omega),p.len,p.lt⟩⟩
theorem ch_own(M:St.Meas):∃ f,sOwn 1 (fBlt bLst (z02 (fN 0) fNil)) [.sh false (MD M),.no,.no,.no,.no]=some (.nx [.sh false (MD M),.ow f (M.map tD),.no,.no,.no]):=by
 cases M with
 | nil=>exact⟨true,by simp[cOf,MD]⟩
 | cons x M=>exact⟨false,by simp[cOf,MD,newL,lfl,Dt.flat,z1f]⟩
abbrev RA:FI:=z0D (fBlt bLen (z02 (fN 1) fNil))
abbrev RB:FI:=z7F (fOp z0u (fN 2) (fC (.int 1))) (fBlt bLen (z02 (fN 1) fNil))
theorem ch_ra(c0:Cell)(D:List Dt)(f:Bool)(h:D.length≤1000):RA [c0,.ow f D,.no,.no,.no]=some (z2a 0 D.length):=by
 have ok2:z2S (D.length:Int)=true:=z8m (by omega)
 cases f<;>simp[cOf,ok2]
theorem ch_rb(c0 d3 d4:Cell)(D:List Dt)(f:Bool)(t:Nat)(h:D.length≤1000)(ht:t≤1000):RB [c0,.ow f D,.sh false (.int t),d3,d4]=some (z2a ((t+1:Nat):Int) (D.length-(t+1))):=by
 have ok1:z2S ((t:Int)+1)=true:=by have:=z8m (n:=t+1) (by omega);rwa [show((t+1:Nat):Int)=(t:Int)+1 by omega]at this
 have ok2:z2S (D.length:Int)=true:=z8m (by omega)
 have rg:((D.length:Int)-((t:Int)+1)).toNat=D.length-(t+1):=by omega
 have h1:fOp z0u (fN 2) (fC (.int 1)) [c0,.ow f D,.sh false (.int t),d3,d4]=some (.nw,.int ((t:Int)+1)):=by simp[cOf]
 have h2:fBlt bLen (z02 (fN 1) fNil) [c0,.ow f D,.sh false (.int t),d3,d4]=some (.nw,.int (D.length:Int)):=by cases f<;>simp[cOf]
 rw[show((t+1:Nat):Int)=(t:Int)+1 by omega]
 unfold RB z7F
 rw[h1,z0i,h2,z0i]
 have i1:intD ((Fl.nw,Dt.int ((t:Int)+1)):Dv).2=some ((t:Int)+1):=rfl
 have i2:intD ((Fl.nw,Dt.int (D.length:Int)):Dv).2=some (D.length:Int):=rfl
 rw[i1,z0i,i2,z0i,ok1,ok2,rg]
 rfl
theorem zme{n r:Nat}{w:Int}{G:List (List Int)}{K0:St.Meas}{M:St.Meas}{t:Nat}(b:Mb r n w)(I:Cs n r w G K0 t (t+1) M)(ht:t<r)(c0 d2 d3 d4:Cell)(f:Bool):
  ∃ M' c3' c4' f',(Tg.put (Tg.one 2) (.int t) [c0,.ow f (M.map tD),d2,d3,d4]).bind (z7h RB (Tg.one 3) KF)=some (.nx [c0,.ow f' (M'.map tD),.sh false (.int t),c3',c4'])∧Cs n r w G K0 (t+1) (t+2) M':=by
 have r6:=b.r6
 obtain⟨M',c3',c4',f',e,p'⟩:=zd6 b I ht c0 d3 d4 f
 refine⟨M',c3',c4',f',?_,p'⟩
 have pl:(M.map tD).length=r:=by rw[List.length_map,I.len]
 have it:=ch_rb c0 d3 d4 (M.map tD) f t (by omega) (by omega)
 rw[pl]at it
 have pt:Tg.put (Tg.one 2) (.int t) [c0,.ow f (M.map tD),d2,d3,d4]=some [c0,.ow f (M.map tD),.sh false (.int t),d3,d4]:=rfl
 rw[pt,z0i,ziw,it,z0i]
 exact e
theorem zmf{n r:Nat}{w:Int}{G:List (List Int)}{K0:St.Meas}{M:St.Meas}(b:Mb r n w)(I:Cs n r w G K0 0 1 M)(c0:Cell)(f:Bool):∃ M' f' c2 c3 c4,z7h RA (Tg.one 2) (z7h RB (Tg.one 3) KF) [c0,.ow f (M.map tD),.no,.no,.no]=some (.nx [c0,.ow f' (M'.map tD),c2,c3,c4])∧Cs n r w G K0 r (r+1) M':=by
 have r6:=b.r6
 generalize hF:z7h RB (Tg.one 3) KF=F
 obtain⟨j,e,p⟩:=z4D (g:=Tg.one 2) (F:=F) (fun j:St.Meas×Cell×Cell×Cell×Bool=>[c0,.ow j.2.2.2.2 (j.1.map tD),j.2.1,j.2.2.1,j.2.2.2.1]) (fun s j=>Cs n r w G K0 s (s+1) j.1) r 0 (M,.no,.no,.no,f) I fun t j h1 h2 p=>by
  obtain⟨M',c3',c4',f',e,p'⟩:=zme b p (by omega) c0 j.2.1 j.2.2.1 j.2.2.2.1 j.2.2.2.2
  rw[hF]at e
  exact⟨(M',.sh false (.int t),c3',c4',f'),e,p'⟩
 have pl:(M.map tD).length=r:=by rw[List.length_map,I.len]
 have it:=ch_ra c0 (M.map tD) f (by omega)
 rw[pl]at it
 refine⟨j.1,j.2.2.2.2,j.2.1,j.2.2.1,j.2.2.2.1,?_,by rw[Nat.zero_add]at p;exact p⟩
 rw[ziw,it,z0i]
 exact e
theorem zmg(M1:St.Meas)(pos:∀ x∈M1,0<x.2)(c0 c2 c3 c4:Cell)(f1:Bool):z0d 2 [] (iSeq (fN 1)) (Tg.many [0,1]) fYes (fTup (z02 (z08 true z2l (z02 (fN 0) (z02 (fN 1) fNil))) (z02 (fN 1) fNil))) [c0,.ow f1 (M1.map tD),c2,c3,c4]=some (.nw,MD (M1.map fun x=>(rstR x.2 x.1,x.2))):=by
 rw[z0j (e:=tD) (h:=fun x=>tD (rstR x.2 x.1,x.2)) (xs:=M1) (by cases f1<;>simp[cOf]) (fun x hx=>by
  have:=z6e x.1 x.2 (pos x hx)
  simp[cOf,tD,this])]
 unfold MD
 rw[List.map_map];rfl
theorem zmh{n r:Nat}{w:Int}{G:List (List Int)}{K0 M1:St.Meas}(b:Mb r n w)(p:Cs n r w G K0 r (r+1) M1)(pos:∀ x∈M1,0<x.2):Cs n r w G K0 r (r+1) (M1.map fun x=>(rstR x.2 x.1,x.2)):=by
 have get:∀ i,i<r→M1[i]?=some (St.mw M1 i,St.mp M1 i):=fun i hi=>by
   have hi:i<M1.length:=by rw[p.len];exact hi
   unfold St.mw St.mp
   rw[List.getD,List.getElem?_eq_getElem hi];rfl
 have gm:∀ i,i<r→St.mp (M1.map fun x=>(rstR x.2 x.1,x.2)) i=St.mp M1 i∧St.mw (M1.map fun x=>(rstR x.2 x.1,x.2)) i=rstR (St.mp M1 i) (St.mw M1 i):=fun i hi=>by
   have e:=get i hi
   unfold St.mp St.mw at e ⊢
   rw[List.getD,List.getElem?_map,e]
   exact⟨rfl,rfl⟩
 have lm:(M1.map fun x=>(rstR x.2 x.1,x.2)).length=r:=by rw[List.length_map,p.len]
 have pl:=p.len
 refine⟨p.ms.rest (fun x hx=>?_) (by rw[List.length_append,List.length_append,lm,pl]) (fun i hi=>?_) (fun i hi v=>?_),⟨fun i hi=>?_,fun i hi=>?_,fun i j h1 h2 h3=>?_,fun j h1 h2 h3=>?_⟩,lm,fun x hx=>?_⟩
 · rcases List.mem_append.mp hx with hx|hx
   · obtain⟨y,hy,rfl⟩:=List.mem_map.mp hx
     show(rstR y.2 y.1).length=n
     rw[z6d];exact p.ms.rows y (List.mem_append.mpr (.inl hy))
   · exact p.ms.rows x (List.mem_append.mpr (.inr hx))
 · by_cases h:i<r
   · rw[(St.z2v (by omega)).1,(St.z2v (by omega)).1,(gm i h).1]
   · unfold St.mp
     rw[St.z3a,St.z3a,lm,pl,if_neg h,if_neg h]
 · by_cases h:i<r
   · rw[(St.z2v (by omega)).1,(St.z2v (by omega)).2,(St.z2v (by omega)).2,(gm i h).2]
     exact St.zm9 (q:=fun k=>(St.at0 (St.mw M1 i) k).fdiv (St.mp M1 i)) (fun k=>z7M _ _ k) v
   · unfold St.mw
     rw[St.z3a,St.z3a,lm,pl,if_neg h,if_neg h]
     exact⟨0,by omega⟩
 · rw[(gm i (by omega)).1];exact p.ch.pos i (by omega)
 · rw[(gm i (by omega)).1];exact p.ch.whole i (by omega)
 · rw[(gm i (by omega)).1,(gm j (by omega)).1];exact p.ch.all i j h1 h2 (by omega)
 · omega
 · obtain⟨y,hy,rfl⟩:=List.mem_map.mp hx
   obtain⟨i,hi,rfl⟩:=List.getElem_of_mem hy
   have w1:=p.ch.whole i hi
   unfold St.mp at w1
   rw[List.getD,List.getElem?_eq_getElem hi]at w1
   exact zd5 (pos _ hy) (b.hd w1) _
theorem zd7{n r:Nat}{w:Int}{G:List (List Int)}{K0:St.Meas}{M:St.Meas}(b:Mb r n w)(I:Cs n r w G K0 0 1 M):
   ∃ M',z2M [MD M]=some (MD M')∧Cs n r w G K0 r (r+1) M'∧∀ x∈M',∀ y∈x.1,0≤y∧y<x.2:=by
 obtain⟨f,own⟩:=ch_own M
 obtain⟨M1,f1,c2,c3,c4,e1,p⟩:=zmf b I (.sh false (MD M)) f
 have pos:∀ x∈M1,0<x.2:=fun x hx=>by
   obtain⟨i,hi,rfl⟩:=List.getElem_of_mem hx
   have:=p.ch.pos i hi
   unfold St.mp at this
   rw[List.getD,List.getElem?_eq_getElem hi]at this
   exact this
 have cm:=zmg M1 pos (.sh false (MD M)) c2 c3 c4 f1
 have cr:=zmh b p pos
 refine⟨M1.map fun x=>(rstR x.2 x.1,x.2),?_,cr,fun x hx=>?_⟩
 · generalize M1.map (fun x=>(rstR x.2 x.1,x.2))=M2 at *
   generalize M1.map tD=D1 at *
   generalize M.map tD=D at *
   have q:z3w [.sh false (MD M),.no,.no,.no,.no]=some (.rt .nw (MD M2)):=by
    unfold z3w
    refine run own (run e1 ?_)
    unfold sRet
    rw[cm]
    rfl
   unfold z2M cOf
   rw[if_pos (show[MD M].length=1 from rfl)]
   show(z3w [.sh false (MD M),.no,.no,.no,.no]).bind _=_
   rw[q]
   rfl
 · obtain⟨y,hy,rfl⟩:=List.mem_map.mp hx
   exact zd1 (pos y hy)
theorem bnd899(k:Nat)(h:k≤8):St.bnd k (10 ^ 30)+1≤2 ^ 899:=by
 have:=St.z63 (B:=10 ^ 30) h (by decide) (by decide)
 have e:St.bnd 8 (10 ^ 30)+1≤2 ^ 899:=by unfold St.bnd;decide
 omega
theorem zb6(k:Nat)(h:k≤6):St.bnd k (2 ^ 900)+1≤2 ^ 5461:=by
 have h1:=St.z63 (r:=k) (s:=6) (B:=2 ^ 900) h (Nat.two_pow_pos _) (by decide)
 have h2:St.bnd 6 (2 ^ 900)≤2 ^ 5460:=by
  unfold St.bnd
  have a:2*6*2 ^ 900≤2 ^ 904:=by
   rw[show(904:Nat)=4+900 from rfl,Nat.pow_add]
   exact Nat.mul_le_mul_right _ (by decide)
  have b:=Nat.pow_le_pow_left a 6
  rw[←Nat.pow_mul]at b
  have c:(2:Nat) ^ 5460=2 ^ (904*6)*2 ^ (6*6):=by rw[←Nat.pow_add]
  rw[c]
  exact Nat.mul_le_mul_right _ b
 have h3:(2:Nat) ^ 5460<2 ^ 5461:=Nat.pow_lt_pow_right (by decide) (by decide)
 omega
def zgz(xs:List Int):Int:=xs.foldl (fun t x=>t*x) 1
theorem zd8{e:Nat}(xs:List Int)(h:∀ x∈xs,x.natAbs<2 ^ e)(he:e*(xs.length+1)≤1000000):z56 [L xs]=some (.int (zgz xs)):=by
 have key:∀(ys:List Int) (t:Int) (k:Nat) (c0 c2:Cell) (f:Bool),(∀ x∈ys,x.natAbs<2 ^ e)→t.natAbs<2 ^ k→k+e*(ys.length+1)≤2000000→∃ f' c2',forF (Tg.one 2) (sSet [] 1 (fOp z1X (fN 1) (fN 2))) (ys.map Dt.int) [c0,.sh f (.int t),c2]=some (.nx [c0,.sh f' (.int (ys.foldl (fun t x=>t*x) t)),c2']):=by
  intro ys
  induction ys with
  | nil=>intro t k c0 c2 f _ _ _;exact⟨f,c2,rfl⟩
  | cons y ys ih =>
   intro t k c0 c2 f hy ht hk
   have e1:e*(ys.length+1+1)=e*(ys.length+1)+e:=Nat.mul_succ _ _
   rw[List.length_cons,e1]at hk
   have m:z1v t y=true:=z3P ht (hy y List.mem_cons_self) (by omega)
   have b:(t*y).natAbs<2 ^ (k+e):=by rw[Int.natAbs_mul,Nat.pow_add];exact Nat.mul_lt_mul'' ht (hy y List.mem_cons_self)
   obtain⟨f',c2',q⟩:=ih (t*y) (k+e) c0 (.sh false (.int y)) true (fun x hx=>hy x (List.mem_cons_of_mem _ hx)) b (by omega)
   refine⟨f',c2',?_⟩
   rw[List.map_cons,z1t,List.foldl_cons,←q]
   have s:(Tg.put (Tg.one 2) (.int y) [c0,.sh f (.int t),c2]).bind (sSet [] 1 (fOp z1X (fN 1) (fN 2)))=some (.nx [c0,.sh true (.int (t*y)),.sh false (.int y)]):=by
    simp[cOf,m]
   rw[s];rfl
 obtain⟨f',c2',q⟩:=key xs 1 1 (.sh false (L xs)) .no true h (by decide) (by omega)
 unfold z56 z6U
 have q:forF (Tg.one 2) (sSet [] 1 (fOp z1X (fN 1) (fN 2))) (xs.map Dt.int) [.sh false (L xs),.sh true (.int 1),.no]=some (.nx [.sh false (L xs),.sh f' (.int (zgz xs)),c2']):=q
 simp[cOf,q]
theorem zj4(A:List (List Int))(r:Nat):zgz ((List.range r).map fun i=>St.ent A i i)=St.pr A r:=by
 unfold zgz
 induction r with
 | zero=>rfl
 | succ r ih=>rw[List.range_succ,List.map_append,List.foldl_append,ih];rfl
theorem zd9(P:List (List Int)){n:Nat}(h:P.length=n):St.pair P (St.units n)=St.z6K P:=by
 have e0:=zgx P.length 0 P
 rw[←List.range_eq_range']at e0
 rw[z8N]
 unfold St.units
 rw[←h]
 exact e0
structure Mz(n r:Nat)(G:List (List Int))(M:St.Meas):Prop where
 ms:St.Ms n G M
 len:M.length=n
 rn:r≤n
 pos:∀ i,i<r→0<St.mp M i
 dvd:∀ i j,i<j→j<r→St.mp M i∣St.mp M j
 zero:∀ i,r≤i→i<n→St.mp M i=0
 big:∀ x∈M,x.2<2 ^ 5400∧∀ y∈x.1,y.natAbs<2 ^ 5461
theorem zc9{n:Nat}{bills G:List (List Int)}(H:Hall n bills)(es:z57 [z0E n bills]=some (LL G))(Gd:St.Good n (10 ^ 30) bills G):∃ M,z1k [z0E n bills]=some (MD M)∧Mz n G.length G M:=by
 have n6:=H.n6
 have gl:=St.z64 Gd.asc (Nat.zero_le _)
 generalize hr:G.length=r at *
 have rn:r≤n:=by omega
 have g899:∀ x∈G,St.Lt (2 ^ 899) x:=fun x hx=>(Gd.small H.lt (by decide) x hx).mono (bnd899 _ (by omega))
 have gr:∀ x∈G,x.length=n:=fun x hx=>(Gd.asc.mem hx).1
 have t1:=z70 G n gr (by omega)
 have pl:(St.trn n G).length=n:=St.z0N _ _
 have tr:∀ x∈St.trn n G,x.length=r:=fun x hx=>by rw[St.z2F hx,hr]
 have ent_lt:∀ i k,(St.ent G i k).natAbs<2 ^ 899:=fun i k=>by
   by_cases hi:i<G.length
   · exact g899 _ (St.z14 hi) k
   · rw[St.z0K (by omega)];exact Nat.two_pow_pos _
 have p899:(2:Nat) ^ 899≤2 ^ 900:=Nat.pow_le_pow_right (by decide) (by decide)
 have plt:∀ x∈St.pair (St.trn n G) (St.units n),St.Lt (2 ^ 900) x:=fun x hx k=>by
   obtain⟨i,hi,rfl⟩:=List.getElem_of_mem hx
   have hi':i<n:=by rw[St.z25 (by rw[pl,St.z1Q]),pl]at hi;exact hi
   have e:St.at0 ((St.pair (St.trn n G) (St.units n))[i]) k=St.ent (St.pair (St.trn n G) (St.units n)) i k:=by unfold St.ent;simp[List.getD,List.getElem?_eq_getElem hi]
   rw[e,St.z4p (n:=n) (r:=r) tr (by rw[pl];exact hi') (by rw[St.z1Q];exact hi')]
   split
   · rw[St.z1j gr];have:=ent_lt k i;omega
   · rw[St.z6P hi']
     have:(1:Nat)<2 ^ 900:=Nat.one_lt_two_pow (by decide)
     split<;>simp<;>omega
 obtain⟨S,e2,G2⟩:=z8O (n:=r+n) (e:=5461) (eh:=5461) (B:=2 ^ 900) (by omega) (by decide) (Nat.le_refl _) (by decide) (St.trn n G) (St.units n) (by rw[pl,St.z1Q]) (St.z9U tr (St.zhs n)) plt (Nat.two_pow_pos _) (Nat.pow_le_pow_right (by decide) (by decide)) (fun k hk=>zb6 k (by omega))
   (fun k S hk G0 x hx=>by
     have q:=G0.small (fun r hr=>plt r (List.mem_of_mem_take hr)) (Nat.two_pow_pos _) x hx (St.z00 x)
     have l:=G0.len
     have b:=zb6 S.length (by rw[List.length_take]at l;omega)
     have q:(St.hd x).natAbs<St.bnd S.length (2 ^ 900)+1:=q
     have c2:((2 ^ 5461:Nat):Int)=(2:Int) ^ 5461:=by norm_cast
     omega) (by omega)
 have sl:S.length=n:=by
   have:=G2.full (by rw[zd9 _ pl];exact St.z8v tr)
   rw[this,St.z25 (by rw[pl,St.z1Q]),pl]
 have s5461:∀ x∈S,St.Lt (2 ^ 5461) x:=fun x hx=>(G2.small plt (Nat.two_pow_pos _) x hx).mono (zb6 _ (by omega))
 obtain⟨W,tk,eW,bl,m0,te,_⟩:=St.start Gd.asc hr G2.asc G2.form sl G2.span
 have sq:=m0.sq
 have wp:0<St.pr (St.tops r S) r:=St.zcS fun i hi=>sq.pos hi
 have hs:=St.z4Z (r:=r) G2.span
 rw[St.z50 tr (by rw[pl,St.z1Q])]at hs
 have wb:St.pr (St.tops r S) r≤2 ^ (899*r):=St.zbZ Gd.asc hr sq (fun x hx=>by
   have:=hs.iff.mpr (St.z0e hx)
   refine Lat.Span.trans (fun v hv=>?_) this
   obtain⟨y,hy,rfl⟩:=List.mem_map.mp hv
   obtain⟨z,hz,rfl⟩:=List.mem_map.mp hy
   exact Lat.Span.congr (fun k=>by simp only[St.vec];rw[St.z1y]) (St.z6N (n:=r) G2.asc (St.z0e hz))) (hd_lt Gd.asc g899)
 have b:Mb r n (St.pr (St.tops r S) r):=⟨by omega,n6,wp,by
   have h1:(2:Nat) ^ (899*r)≤2 ^ 5394:=Nat.pow_le_pow_right (by decide) (by omega)
   have h2:(2:Nat) ^ 5394<2 ^ 5400:=Nat.pow_lt_pow_right (by decide) (by decide)
   have c1:((2 ^ (899*r):Nat):Int)=(2:Int) ^ (899*r):=by norm_cast
   have c2:((2 ^ 5400:Nat):Int)=(2:Int) ^ 5400:=by norm_cast
   omega⟩
 generalize hw:St.pr (St.tops r S) r=w at *
 have wl:=m0.wl
 have mw0:Mw r n w G (St.bots r S) (St.tops r S) W:=⟨m0,fun x hx k=>by
   rw[eW]at hx
   obtain⟨y,hy,rfl⟩:=List.mem_map.mp hx
   rw[St.z4n]
   exact s5461 y (List.mem_of_mem_take hy) _⟩
 obtain⟨A',W',e3,I',hc⟩:=zd4 b mw0
 have br:∀ x∈St.bots r S,x.length=n:=fun x hx=>by
   unfold St.bots at hx
   obtain⟨y,hy,rfl⟩:=List.mem_map.mp hx
   rw[List.length_drop,(G2.asc.mem (List.mem_filter.mp hy).1).1];omega
 have dl:(z1K A' W').length=r:=by unfold z1K;rw[List.length_map,z72,I'.m.wl]
 have kl:((St.bots r S).map fun x=>(x,(0:Int))).length=n-r:=by rw[List.length_map,bl]
 have k0:∀ j,j<n-r→((St.bots r S).map fun x=>(x,(0:Int))).getD j ([],0)=((St.bots r S).getD j [],0):=fun j hj=>by
   simp[List.getD,List.getElem?_map,List.getElem?_eq_getElem (show j<(St.bots r S).length by omega)]
 have ms0:St.Ms n G (z1K A' W'++(St.bots r S).map fun x=>(x,(0:Int))):=I'.m.meas hc br _ (by rw[List.length_append,dl,kl,bl])
   (fun i hi=>by
     have:=z8P A' W' (i:=i) (by rw[I'.m.wl];exact hi)
     rw[(St.z2v (by omega)).1,(St.z2v (by omega)).2]
     exact this)
   (fun j hj=>by
     unfold St.mw St.mp
     rw[St.z3a,dl,if_neg (by omega),show r+j-r=j by omega,k0 j (by omega)]
     exact⟨rfl,rfl⟩)
 have cs:Cs n r w G ((St.bots r S).map fun x=>(x,(0:Int))) 0 1 (z1K A' W'):=⟨ms0,St.Chn.first (fun i hi=>by
     rw[(z8P A' W' (i:=i) (by rw[I'.m.wl];omega)).2];exact I'.m.sq.pos (by omega)) (fun i hi=>by
     rw[(z8P A' W' (i:=i) (by rw[I'.m.wl];omega)).2];exact I'.m.sq.whole_col I'.m.whole (by omega)),dl,fun x hx=>by
     unfold z1K at hx
     obtain⟨q,hq,rfl⟩:=List.mem_map.mp hx
     obtain⟨i,hi,rfl⟩:=z2N.mp hq
     exact I'.wb _ (St.z14 hi)⟩
 obtain⟨M',e4,c',lt'⟩:=zd7 b cs
 have e5:=z6c S r
 refine⟨M'++(St.bots r S).map fun x=>(x,(0:Int)),?_,⟨c'.ms,by rw[List.length_append,c'.len,kl];omega,rn,fun i hi=>?_,fun i j h1 h2=>?_,fun i h1 h2=>?_,fun x hx=>?_⟩⟩
 · have u1:∀ d0 d2 d3 d4 d5 d6 d7:Cell,∀ f1,z0d 1 [1] (z0D (fN 1)) (Tg.one 0) fYes (z08 true z2Y (z02 (fN 1) (z02 (fN 0) fNil))) [d0,.sh f1 (.int n),d2,d3,d4,d5,d6,d7]=some (.nw,LL (St.units n)):=fun d0 d2 d3 d4 d5 d6 d7 f1=>by
     rw[z0j (e:=fun(k:Nat) => .int (0+(k:Int))) (h:=fun k=>L (St.z2X n k)) (xs:=List.range n) (by simp[cOf,y13 n (by omega),z1x]) (fun j _=>by
      have u:=zc8 n j (by omega)
      simp[cOf,u])]
     simp[LL,St.units]
   have ntk:newL ((S.map L).take r)=newL ((S.take r).map L):=by rw[List.map_take]
   have c1:∀ d0 d1 d2 d5 d6 d7:Cell,∀ f3 f4,z0d 1 [3] (iSeq (fSl (fN 4) z0I (z1H (fN 3)))) (Tg.one 0) fYes (fSl (fN 0) z0I (z1H (fN 1))) [d0,d1,d2,.sh f3 (.int r),.sh f4 (LL S),d5,d6,d7]=some (.nw,LL (St.tops r S)):=fun d0 d1 d2 d5 d6 d7 f3 f4=>by
     rw[te,z0j (e:=L) (h:=fun x=>L (x.take r)) (xs:=S.take r) (by cases f4<;>simp[cOf,zaO,newL,List.map_take]) (fun x hx=>by simp[cOf,zaO,z4l])]
     unfold LL;rw[List.map_map];rfl
   have c2:∀ d0 d1 d2 d5 d6 d7:Cell,∀ f3 f4,z0d 1 [3] (iSeq (fSl (fN 4) z0I (z1H (fN 3)))) (Tg.one 0) fYes (fSl (fN 0) (z1H (fN 1)) z0I) [d0,d1,d2,.sh f3 (.int r),.sh f4 (LL S),d5,d6,d7]=some (.nw,LL W):=fun d0 d1 d2 d5 d6 d7 f3 f4=>by
     rw[eW,z0j (e:=L) (h:=fun x=>L (x.drop r)) (xs:=S.take r) (by cases f4<;>simp[cOf,zaO,newL,List.map_take]) (fun x hx=>by simp[cOf,z5Z,z21])]
     unfold LL;rw[List.map_map];rfl
   have tl:=sq.len
   have c3:∀ d0 d1 d2 d3 d4 d6 d7:Cell,∀ f5,z0d 2 [] (z2V (fN 5)) (Tg.many [0,1]) fYes (fAt (fN 1) (fN 0)) [d0,d1,d2,d3,d4,.sh f5 (LL (St.tops r S)),d6,d7]=some (.nw,L ((List.range r).map fun i=>St.ent (St.tops r S) i i)):=fun d0 d1 d2 d3 d4 d6 d7 f5=>by
     rw[z0j (e:=fun p:Nat×List Int => .tup [.int p.1,L p.2]) (h:=fun p => .int (St.ent (St.tops r S) p.1 p.1)) (xs:=z1d 0 (St.tops r S)) (by simp[cOf,z3z]) (fun p hp=>by
      obtain⟨i,hi,rfl⟩:=z2N.mp hp
      rw[Nat.zero_add]
      have h2:=zj3 (r:=(St.tops r S).getD i []) (k:=i) (by rw[sq.rows _ (St.z14 hi)];omega)
      have x:St.ent (St.tops r S) i i=St.at0 ((St.tops r S).getD i []) i:=rfl
      rw[x]
      generalize (St.tops r S).getD i []=ra at h2 ⊢
      simp[cOf,h2])]
     have x:(z1d 0 (St.tops r S)).map (fun p=>Dt.int (St.ent (St.tops r S) p.1 p.1))=((List.range r).map fun i=>St.ent (St.tops r S) i i).map Dt.int:=by
      refine List.ext_getElem? fun i=>?_
      rw[List.getElem?_map,List.getElem?_map,List.getElem?_map]
      by_cases hi:i<r
      · rw[z73 0 _ i (by omega),List.getElem?_range hi,Nat.zero_add];rfl
      · rw[List.getElem?_eq_none (by rw[z72];omega),List.getElem?_eq_none (by simp;omega)];rfl
     rw[x]
   have pe:=zd8 (e:=5400) ((List.range r).map fun i=>St.ent (St.tops r S) i i) (fun x hx=>by
     obtain⟨i,hi,rfl⟩:=List.mem_map.mp hx
     have hi:=List.mem_range.mp hi
     have h1:=b.hd (sq.whole_col m0.whole hi)
     have h2:=sq.pos hi
     have c2:((2 ^ 5400:Nat):Int)=(2:Int) ^ 5400:=by norm_cast
     omega) (by rw[List.length_map,List.length_range];have:=b.r6;omega)
   rw[zj4,hw]at pe
   have k1:∀ d0 d1 d2 d5 d6 d7:Cell,∀ f3 f4,∃ fl,z0d 1 [] (iSeq (z08 true z0L (z02 (fN 4) (z02 (fN 3) fNil)))) (Tg.one 0) fYes (fTup (z02 (fN 0) (z02 (fC (.int 0)) fNil))) [d0,d1,d2,.sh f3 (.int r),.sh f4 (LL S),d5,d6,d7]=some (fl,MD ((St.bots r S).map fun x=>(x,(0:Int)))):=fun d0 d1 d2 d5 d6 d7 f3 f4=>by
     have key:=z8k (nt:=1) (js:=[]) (Fi:=iSeq (z08 true z0L (z02 (fN 4) (z02 (fN 3) fNil)))) (g:=Tg.one 0) (Fe:=fTup (z02 (fN 0) (z02 (fC (.int 0)) fNil))) (ρ:=[d0,d1,d2,.sh f3 (.int r),.sh f4 (LL S),d5,d6,d7]) (e:=L) (h:=fun x=>(.sh,.tup [L x,.int 0])) (xs:=St.bots r S) (by simp[cOf,e5]) (fun x hx=>by simp[cOf];rfl)
     have x:MD ((St.bots r S).map fun x=>(x,(0:Int))) = .lst ((St.bots r S).map fun x => .tup [L x,.int 0]):=by
      unfold MD;rw[List.map_map];rfl
     rw[x]
     exact⟨_,key⟩
   have cat:∀ fa fb,∃ fl,fOp z0u (fun _=>some (fa,MD M')) (fun _=>some (fb,MD ((St.bots r S).map fun x=>(x,(0:Int))))) []=some (fl,MD (M'++(St.bots r S).map fun x=>(x,(0:Int)))):=fun fa fb=>by
     have l1:(M'.map fun x=>Dt.tup [L x.1,.int x.2]).length≤6:=by rw[List.length_map,c'.len];exact b.r6
     have l2:(((St.bots r S).map fun x=>(x,(0:Int))).map fun x=>Dt.tup [L x.1,.int x.2]).length≤6:=by rw[List.length_map,kl];omega
     have x:MD (M'++(St.bots r S).map fun x=>(x,(0:Int))) = .lst ((M'.map fun x=>Dt.tup [L x.1,.int x.2])++(((St.bots r S).map fun x=>(x,(0:Int))).map fun x=>Dt.tup [L x.1,.int x.2])):=by unfold MD;rw[List.map_append]
     rw[x]
     unfold MD
     generalize M'.map (fun x=>Dt.tup [L x.1,.int x.2])=D1 at *
     generalize ((St.bots r S).map fun x=>(x,(0:Int))).map (fun x=>Dt.tup [L x.1,.int x.2])=D2 at *
     have y:z0u (.lst D1) (.lst D2)=z5R (.lst D1) (.lst D2):=rfl
     refine⟨lfl (D1++D2),?_⟩
     show z0u (.lst D1) (.lst D2)=_
     rw[y,z5R,if_pos (by omega)]
     rfl
   have fin:∀ d0 d1 d2 d5 d6:Cell,∀ f3 f4 f7,∃ fl,fOp z0u (z08 true z2M (z02 (fN 7) fNil)) (z0d 1 [] (iSeq (z08 true z0L (z02 (fN 4) (z02 (fN 3) fNil)))) (Tg.one 0) fYes (fTup (z02 (fN 0) (z02 (fC (.int 0)) fNil)))) [d0,d1,d2,.sh f3 (.int r),.sh f4 (LL S),d5,d6,.sh f7 (MD (z1K A' W'))]=some (fl,MD (M'++(St.bots r S).map fun x=>(x,(0:Int)))):=fun d0 d1 d2 d5 d6 f3 f4 f7=>by
     obtain⟨fb,k1⟩:=k1 d0 d1 d2 d5 d6 (.sh f7 (MD (z1K A' W'))) f3 f4
     have k2:∃ fa,z08 true z2M (z02 (fN 7) fNil) [d0,d1,d2,.sh f3 (.int r),.sh f4 (LL S),d5,d6,.sh f7 (MD (z1K A' W'))]=some (fa,MD M'):=by
      generalize MD (z1K A' W')=Y at *
      generalize MD M'=Z at *
      have sn:∀(f:Fl) (d:Dt),(nrm f d).2=d:=fun _ _=>rfl
      refine⟨(nrm .nw Z).1,?_⟩
      simp[cOf,sn,e4]
     obtain⟨fa,k2⟩:=k2
     obtain⟨fl,q⟩:=cat fa fb
     refine⟨fl,?_⟩
     unfold fOp at q ⊢
     rw[k1,k2]
     exact q
   obtain⟨fl,fin⟩:=fin (.sh false (z0E n bills)) (.sh true (.int n)) (.sh true (LL G)) (.sh true (LL (St.tops r S))) (.sh true (.int w)) true true false
   have q:z32 [.sh false (z0E n bills),.no,.no,.no,.no,.no,.no,.no]=some (.rt fl (MD (M'++(St.bots r S).map fun x=>(x,(0:Int))))):=by
     unfold z32
     refine run (ρ':=[.sh false (z0E n bills),.sh true (.int n),.no,.no,.no,.no,.no,.no]) (by simp[cOf]) ?_
     refine run (ρ':=[.sh false (z0E n bills),.sh true (.int n),.sh true (LL G),.no,.no,.no,.no,.no]) (by simp[cOf,es]) ?_
     refine run (ρ':=[.sh false (z0E n bills),.sh true (.int n),.sh true (LL G),.sh true (.int r),.no,.no,.no,.no]) (by simp[cOf,hr]) ?_
     refine run (ρ':=[.sh false (z0E n bills),.sh true (.int n),.sh true (LL G),.sh true (.int r),.sh true (LL S),.no,.no,.no]) (by
      have:=u1 (.sh false (z0E n bills)) (.sh true (LL G)) (.sh true (.int r)) .no .no .no .no true
      simp[cOf,t1,this,e2]) ?_
     refine run (ρ':=[.sh false (z0E n bills),.sh true (.int n),.sh true (LL G),.sh true (.int r),.sh true (LL S),.sh true (LL (St.tops r S)),.no,.no]) (by
      have:=c1 (.sh false (z0E n bills)) (.sh true (.int n)) (.sh true (LL G)) .no .no .no true true
      simp[cOf,this]) ?_
     refine run (ρ':=[.sh false (z0E n bills),.sh true (.int n),.sh true (LL G),.sh true (.int r),.sh true (LL S),.sh true (LL (St.tops r S)),.sh true (.int w),.no]) (by
      have:=c3 (.sh false (z0E n bills)) (.sh true (.int n)) (.sh true (LL G)) (.sh true (.int r)) (.sh true (LL S)) .no .no true
      generalize (List.range r).map (fun i=>St.ent (St.tops r S) i i)=xs at *
      simp[cOf,this,pe]) ?_
     refine run (ρ':=[.sh false (z0E n bills),.sh true (.int n),.sh true (LL G),.sh true (.int r),.sh true (LL S),.sh true (LL (St.tops r S)),.sh true (.int w),.sh false (MD (z1K A' W'))]) (by
      have:=c2 (.sh false (z0E n bills)) (.sh true (.int n)) (.sh true (LL G)) (.sh true (LL (St.tops r S))) (.sh true (.int w)) .no true true
      have nf:∀ f,nrm f (MD (z1K A' W'))=(f,MD (z1K A' W')):=fun f=>rfl
      generalize MD (z1K A' W')=Y at *
      simp[cOf,this,e3,nf]
      try rfl) ?_
     unfold sRet
     rw[fin]
     rfl
   unfold z1k cOf
   rw[if_pos (show[z0E n bills].length=1 from rfl)]
   show(z32 [.sh false (z0E n bills),.no,.no,.no,.no,.no,.no,.no]).bind _=_
   rw[q]
   rfl
 · rw[(St.z2v (by rw[c'.len];exact hi)).1];exact c'.ch.pos i (by rw[c'.len];exact hi)
 · rw[(St.z2v (by rw[c'.len];omega)).1,(St.z2v (by rw[c'.len];omega)).1];exact c'.ch.all i j (by omega) h1 (by rw[c'.len];omega)
 · unfold St.mp
   rw[St.z3a,c'.len,if_neg (by omega),k0 _ (by omega)]
 · rcases List.mem_append.mp hx with hx|hx
   · obtain⟨i,hi,rfl⟩:=List.getElem_of_mem hx
     have w1:=c'.ch.whole i hi
     unfold St.mp at w1
     rw[List.getD,List.getElem?_eq_getElem hi]at w1
     have h1:=b.hd w1
     refine⟨h1,fun y hy=>?_⟩
     have h2:=lt' _ hx y hy
     have h3:(2:Nat) ^ 5400≤2 ^ 5461:=Nat.pow_le_pow_right (by decide) (by decide)
     have c2:((2 ^ 5400:Nat):Int)=(2:Int) ^ 5400:=by norm_cast
     have h1:M'[i].2<2 ^ 5400:=h1
     omega
   · obtain⟨z,hz,rfl⟩:=List.mem_map.mp hx
     refine⟨Int.pow_pos (by decide),fun y hy=>?_⟩
     unfold St.bots at hz
     obtain⟨u,hu,rfl⟩:=List.mem_map.mp hz
     obtain⟨k,hk⟩:=ziX hy
     rw[←hk]
     show(St.at0 (u.drop r) k).natAbs<_
     rw[St.z4n]
     exact s5461 u (List.mem_filter.mp hu).1 _
theorem zj5{n:Nat}{bills:List (List Int)}{M:St.Meas}(h:z1k [z0E n bills]=some (MD M)):z7L [z0E n bills]=some (L (M.map (·.2))):=by
 have it:iSeq (z08 false z1k (z02 (fN 0) fNil)) [.sh false (z0E n bills)]=some (M.map tD):=by
  have nf:nrm .sh (MD M)=(.sh,MD M):=rfl
  have e:seqD (MD M)=some (M.map tD):=rfl
  generalize MD M=Y at *
  simp[cOf,h,nf,e]
 have key:z0d 2 [] (iSeq (z08 false z1k (z02 (fN 0) fNil))) (Tg.many [0,1]) fYes (fN 1) [.sh false (z0E n bills)]=some (.nw,L (M.map (·.2))):=by
  rw[z0j (e:=tD) (h:=fun x => .int x.2) (xs:=M) it (fun x _=>by simp[cOf,tD])]
  simp[L]
 unfold z7L zb0
 simp[cOf,key]
theorem zda(d:Dt)(n:Int)(h:(tyN d == "list")=false):z1J [d,.int n]=some (.bl false):=by
 have h':¬tyN d = "list" := by simpa using h
 have sn:∀ f:Fl,(nrm f d).2=d:=fun _=>rfl
 unfold z1J z4r
 simp[cOf,sn,h']
theorem z8Q(ds:List Dt)(n:Int):z1J [.lst ds,.int n]=some (.bl (decide ((ds.length:Int)=n)&&ds.all isWh)):=by
 unfold z1J z4r
 have q:z0d 1 [] (iSeq (fN 0)) (Tg.one 0) fYes (z08 true z1N (z02 (fN 0) fNil)) [.sh false (.lst ds),.sh false (.int n)]=some (.nw,.lst (ds.map fun d => .bl (isWh d))) :=
   z0j (e:=id) (h:=fun d => .bl (isWh d)) (xs:=ds) (by simp[cOf]) (fun x _=>by
    have e:=z4A x
    have sn:∀ f:Fl,(nrm f x).2=x:=fun _=>rfl
    simp[cOf,Tg.put,sigD,sn,e])
 by_cases h:(ds.length:Int)=n
 · simp[cOf,z0W,h,q,bAll,z3r isWh ds]
 · simp[cOf,z0W,h]
theorem zj6{np nn m:Nat}{fr:Bool}{F:FS}{ds:List Dt}(hl:ds.length=np)(h:F (rho0 nn ds)=some (.ex m)):xOf np nn fr F ds=some (.inr m):=by
 unfold xOf
 rw[if_pos hl,h];rfl
theorem zj7{F G:FS}{ρ:Rho}{m:Nat}(h:F ρ=some (.ex m)):sSeq F G ρ=some (.ex m):=by
 unfold sSeq
 rw[h];rfl
theorem zj8{c:FX}{Fs:FA}{ρ:Rho}{xs:List Dv}{m:Nat}(h:Fs ρ=some xs)(q:c (sndL xs)=some (.inr m)):zaJ c Fs ρ=some (.ex m):=by
 unfold zaJ
 rw[h,z0i,q];rfl
theorem try_ex{c:FX}{Fs:FA}{ρ ρ':Rho}{xs:List Dv}{m:Nat}{hits:Nat→Bool}{G:FS}(h:Fs ρ=some xs)(q:c (sndL xs)=some (.inr m))(hm:hits m=true)(g:G ρ=some (.nx ρ')):sTry c Fs hits G ρ=some (.nx ρ'):=by
 unfold sTry
 rw[h,z0i,q,z0i]
 show(if hits m=true then _ else _)=_
 rw[if_pos hm,g];rfl
theorem zj9{c:FX}{Fs:FA}{ρ ρ':Rho}{xs:List Dv}{m i:Nat}{hits:Nat→Bool}{G:FS}(h:Fs ρ=some xs)(q:c (sndL xs)=some (.inr m))(hm:hits m=true)(g:G (ρ.set i .ex)=some (.nx ρ')):zaK c Fs hits i G ρ=some (.nx (ρ'.set i .no)):=by
 unfold zaK
 rw[h,z0i,q,z0i]
 show(if hits m=true then _ else _)=_
 rw[if_pos hm,g];rfl
theorem zhB(a:Int):z3l [.int a,.int 0]=some (.int a):=by
 unfold z3l zaX
 simp[cOf,z0v]
abbrev NpF:FS:=(sIf (z0p (fOp opNe (z08 true z3l (z02 (fN 2) (z02 (fAt (fN 3) (fC (.int 1))) fNil))) (fN 2))) (z6C 3) z0M)
def plB(p:Int×(List Int×Int)):Int:=if p.2.2=0 then p.1 else p.1.fmod p.2.2
theorem zgA(d0 d1:Cell):∀(ps:List (Int×(List Int×Int))) (c2 c3:Cell),(∀ p∈ps,0≤p.2.2)→(∃ p∈ps,plB p≠p.1)→forF (Tg.many [2,3]) NpF (ps.map fun p => .tup [.int p.1,tD p.2]) [d0,d1,c2,c3]=some (.ex 3)
 | [],c2,c3,_,⟨p,hp,_⟩=>by cases hp
 | p::ps,c2,c3,h,hb=>by
  have h0:=h p List.mem_cons_self
  have er:z3l [.int p.1,.int p.2.2]=some (.int (plB p)):=by
    unfold plB
    by_cases z:p.2.2=0
    · rw[z,if_pos rfl];exact zhB _
    · rw[if_neg z];exact zgy _ _ (by omega)
  rw[List.map_cons,z1t]
  by_cases z:plB p=p.1
  · obtain⟨q,hq,hne⟩:=hb
    have ih:=zgA d0 d1 ps (.sh false (.int p.1)) (.sh false (tD p.2)) (fun q hq=>h q (List.mem_cons_of_mem _ hq)) (by
      rcases List.mem_cons.mp hq with rfl|hq
      · exact absurd z hne
      · exact⟨q,hq,hne⟩)
    have e:(Tg.put (Tg.many [2,3]) (.tup [.int p.1,tD p.2]) [d0,d1,c2,c3]).bind NpF=some (.nx [d0,d1,.sh false (.int p.1),.sh false (tD p.2)]):=by
      rw[z]at er
      simp[cOf,tD,er,z0W]
    rw[e]
    exact ih
  · have e:(Tg.put (Tg.many [2,3]) (.tup [.int p.1,tD p.2]) [d0,d1,c2,c3]).bind NpF=some (.ex 3):=by
      simp[cOf,tD,er,z0W,z,z6C]
    rw[e]
    rfl
theorem k19_nn{n r:Nat}{G:List (List Int)}{M:St.Meas}(Z:Mz n r G M):∀ x∈M,0≤x.2:=fun x hx=>by
 obtain⟨i,hi,rfl⟩:=List.getElem_of_mem hx
 have e:M[i].2=St.mp M i:=by unfold St.mp;rw[List.getD,List.getElem?_eq_getElem hi];rfl
 rw[e]
 by_cases q:i<r
 · have:=Z.pos i q;omega
 · rw[Z.zero i (by omega) (by rw[←Z.len];exact hi)];exact Int.le_refl 0
inductive Bad (M:St.Meas):Dt→Prop
 | form (d:Dt):z1J [d,.int (M.length:Int)]=some (.bl false)→Bad M d
 | num (xs:List Int):xs.length=M.length→(∃ p∈xs.zip M,plB p≠p.1)→Bad M (L xs)
theorem z9l{M:St.Meas}{d:Dt}(h0:∀ x∈M,0≤x.2)(h:Bad M d):z3Y [MD M,d]=some (.inr 3):=by
 have nf:nrm .sh (MD M)=(.sh,MD M):=rfl
 have ln:bLen [MD M]=some (.nw,.int (M.length:Int)):=by unfold MD bLen;simp
 refine zj6 rfl ?_
 unfold z3X
 cases h with
 | form d q =>
  have sn:∀(f:Fl) (d:Dt),(nrm f d).2=d:=fun _ _=>rfl
  refine zj7 ?_
  show(sIf _ _ _) [.sh false (MD M),.sh false d,.no,.no]=_
  generalize MD M=Y at *
  simp[cOf,nf,ln,q,sn,z6C]
 | num xs hl hb =>
  have e:=z6Z xs (M.length:Int)
  rw[hl,decide_eq_true rfl]at e
  have lp:=zgA (.sh false (MD M)) (.sh false (L xs)) (xs.zip M) .no .no (fun p hp=>h0 _ (List.of_mem_zip hp).2) hb
  have sq:seqD (MD M)=some (M.map tD):=rfl
  have zz:zipD (xs.map Dt.int) (M.map tD)=(xs.zip M).map fun p => .tup [.int p.1,tD p.2]:=z4h Dt.int tD xs M
  refine run (ρ':=[.sh false (MD M),.sh false (L xs),.no,.no]) ?_ ?_
  · show(sIf _ _ _) [.sh false (MD M),.sh false (L xs),.no,.no]=_
    generalize MD M=Y at *
    simp[cOf,nf,ln,e]
  · unfold NpF at lp
    generalize MD M=Y at *
    simp[cOf,nf,sq,iZip,hl,zz,lp]
theorem zb7{n:Nat}{bills:List (List Int)}{M:St.Meas}{d:Dt}(h:z1k [z0E n bills]=some (MD M))(h0:∀ x∈M,0≤x.2)(hb:Bad M d):z3c [z0E n bills,d]=some (.inr 3):=by
 have np:=z9l h0 hb
 have nf:nrm .sh (MD M)=(.sh,MD M):=rfl
 have sn:∀(f:Fl) (d:Dt),(nrm f d).2=d:=fun _ _=>rfl
 refine zj6 rfl ?_
 unfold z4y
 refine run (ρ':=[.sh false (z0E n bills),.sh false d,.sh false (MD M)]) ?_ ?_
 · show(sSet _ _ _) [.sh false (z0E n bills),.sh false d,.no]=_
   generalize MD M=Y at *
   simp[cOf,h,nf]
   rfl
 · refine zj7 (zj8 (xs:=[(.sh,MD M),nrm .sh d]) ?_ ?_)
   · generalize MD M=Y at *
     simp[cOf,nf]
   · exact np
theorem z6f{x:Int}{n:Nat}(h:0<n):∃ k:Nat,k<n∧x.fmod (n:Int)=(k:Int):=by
 have a:=Int.fmod_nonneg_of_pos x (show(0:Int)<n by omega)
 have b:=Int.fmod_lt_of_pos x (show(0:Int)<n by omega)
 obtain⟨k,hk⟩:=Int.eq_ofNat_of_zero_le a
 exact⟨k,by omega,hk⟩
abbrev SpZ:FE:=(z0d 1 [] (iSeq (fN 0)) (Tg.one 0) fYes (fC (.int 0)))
theorem zmi{n a:Nat}{v:Dt}(ha:a<n)(hv:isWh v=false)(M:St.Meas)(hl:M.length=n):Bad M (.lst (((List.replicate n (0:Int)).map Dt.int).set a v)):=by
 refine .form _ ?_
 rw[z8Q]
 have e:(((List.replicate n (0:Int)).map Dt.int).set a v).all isWh=false:=by
  rw[List.all_eq_false]
  refine⟨v,List.mem_iff_getElem.mpr ⟨a,by simpa using ha,by simp⟩,by rw[hv];exact Bool.false_ne_true⟩
 rw[e,Bool.and_false]
theorem zmj{n a:Nat}{v:Int}{x:List Int×Int}(ha:a<n)(M:St.Meas)(hl:M.length=n)(hx:M[a]?=some x)(hv:0<x.2)(hn:v.fmod x.2≠v):Bad M (L ((List.replicate n (0:Int)).set a v)):=by
 obtain⟨h1,h2⟩:=List.getElem?_eq_some_iff.mp hx
 refine .num _ (by rw[List.length_set,List.length_replicate,hl]) ⟨(v,x),?_,?_⟩
 · refine List.mem_iff_getElem.mpr ⟨a,by rw[List.length_zip,List.length_set,List.length_replicate];omega,?_⟩
   rw[List.getElem_zip,List.getElem_set_self,h2]
 · unfold plB
   rw[if_neg (show ¬x.2=0 by omega)]
   exact hn
theorem zdb{M:St.Meas}{n:Nat}(hl:M.length=n)(h1:1≤n)(h6:n≤6)(h0:∀ x∈M,0≤x.2)(w:Nat)(hw:w<6)(c:Int):∃ d,z1z [L (M.map (·.2)),.int w,.int c]=some d∧Bad M d:=by
 obtain⟨a,ha,ea⟩:=z6f (x:=c.fdiv 3) (show 0<n by omega)
 obtain⟨c3,hc3,e3⟩:=z6f (x:=c) (n:=3) (by decide)
 obtain⟨c5,hc5,e5⟩:=z6f (x:=c) (n:=5) (by decide)
 obtain⟨c9,hc9,e9⟩:=z6f (x:=c) (n:=10 ^ 9) (by decide)
 have e3:c.fmod 3=(c3:Int):=e3
 have e5:c.fmod 5=(c5:Int):=e5
 have e9:c.fmod 1000000000=(c9:Int):=e9
 have d3:z1G c 3=true:=zc1 (by decide) (by decide)
 have m3:z2w c 3=true:=z2f (by decide)
 have m5:z2w c 5=true:=z2f (by decide)
 have m9:z2w c 1000000000=true:=z2f (by decide)
 have p9:z5O 10 9=true:=by unfold z5O;decide
 have ma:z2w (c.fdiv 3) (n:Int)=true:=z2f (by omega)
 have mw:z2w (w:Int) 2=true:=z2f (by decide)
 have sl:(M.map (·.2)).length=n:=by rw[List.length_map,hl]
 have hz:SpZ [.sh false (L (M.map (·.2))),.sh false (.int w),.sh false (.int c),.no,.no]=some (.nw,.lst ((List.replicate n (0:Int)).map Dt.int)):=by
   unfold SpZ
   rw[z0j (e:=Dt.int) (h:=fun _ => .int 0) (xs:=M.map (·.2)) (by simp[cOf]) (fun x _=>by simp[cOf])]
   rw[List.map_const',sl,List.map_replicate]
 obtain⟨x,hx⟩:∃ x,M[a]?=some x:=⟨_,List.getElem?_eq_getElem (by omega)⟩
 have hxm:x∈M:=List.mem_of_getElem? hx
 have at_:atI ((M.map (·.2)).map Dt.int) (a:Int)=some (.int x.2):=z37 (by rw[List.getElem?_map,List.getElem?_map,hx];rfl)
 have ix:ixN n (a:Int)=some a:=zaU ha
 have zl:((List.replicate n (0:Int)).map Dt.int).length=n:=by simp
 have st:∀ v,setD ((List.replicate n (0:Int)).map Dt.int) (a:Int) v=some (((List.replicate n (0:Int)).map Dt.int).set a v):=fun v=>by
   unfold setD
   rw[zl,ix];rfl
 have low:∀(k:Nat) (hk:k<6),w=k→∃ d,(sSeq (sIf (z0p (fOp opEq (fN 1) (fC (.int 1)))) (sRet (fOp z0u (fN 3) (fLst (z02 (fC (.int 0)) fNil)))) z0M) z0M) []=d:=fun _ _ _=>⟨_,rfl⟩
 clear low
 have oth:∀ v,(atI [Dt.tup ((List.replicate n (0:Int)).map Dt.int),.non,.int 7,.str "0",.dic] (c5:Int)=some v)→Bad M v∧v.flat=true:=fun v hv=>by
   have q:c5=0∨c5=1∨c5=2∨c5=3∨c5=4:=by omega
   rcases q with rfl|rfl|rfl|rfl|rfl<;>cases hv<;>refine⟨.form _ (zda _ _ rfl),?_⟩<;>first|rfl|(rw[y11];exact z1M _)
 have o5:∃ v,atI [Dt.tup ((List.replicate n (0:Int)).map Dt.int),.non,.int 7,.str "0",.dic] (c5:Int)=some v:=by
   rw[zcM (by simpa using hc5)]
   exact⟨_,rfl⟩
 obtain⟨vo,ho⟩:=o5
 obtain⟨bo,fo⟩:=oth vo ho
 have bt:bTup [.lst ((List.replicate n (0:Int)).map Dt.int)]=some (.nw,.tup ((List.replicate n (0:Int)).map Dt.int)):=by show some (if z1f _ then _ else _,_)=_;rw[if_pos (z1M _)]
 have cat:=zbJ (List.replicate n (0:Int)) [0] (by simp;omega)
 have cat:z0u (.lst ((List.replicate n (0:Int)).map Dt.int)) (.lst [Dt.int 0])=some (.nw,L (List.replicate n (0:Int)++[0])):=cat
 have c1:=cut1 ((List.replicate n (0:Int)).map Dt.int) 0
 have c1:cutD ((List.replicate n (0:Int)).map Dt.int) (some 1) none=((List.replicate n (0:Int)).map Dt.int).drop 1:=c1
 have b1:Bad M (L (List.replicate n (0:Int)++[0])) := .form _ (by rw[z6Z];congr;simp;omega)
 have b2:Bad M (.lst (((List.replicate n (0:Int)).map Dt.int).drop 1)) := .form _ (by rw[z8Q];simp;omega)
 have tl:newL ((List.replicate n (0:Int)).map Dt.int).tail=(.nw,.lst ((List.replicate n (0:Int)).map Dt.int).tail):=by rw[←List.map_tail];exact z2J _
 have b3:∀ v,isWh v=false→Bad M (.lst (((List.replicate n (0:Int)).map Dt.int).set a v)):=fun v hv=>zmi ha hv M hl
 have b4:0<x.2→∀ v:Int,v.fmod x.2≠v→Bad M (.lst (((List.replicate n (0:Int)).map Dt.int).set a (.int v))):=fun h v hv=>by
   have:=zmj ha M hl hx h hv
   unfold L at this
   rwa [List.map_set]at this
 generalize hZ:(List.replicate n (0:Int)).map Dt.int=Z at *
 generalize List.replicate n (0:Int)++[0]=Z1 at *
 have s0:0≤x.2:=h0 _ hxm
 generalize x.2=sz at *
 generalize M.map (·.2)=S at *
 have ln:bLen [L S]=some (.nw,.int (n:Int)):=by unfold L bLen;simp[sl]
 have mods:∀ v:Int,0<sz→(v<0∨sz≤v)→v.fmod sz≠v:=fun v h1 h2 h3=>by
   have a:=Int.fmod_nonneg_of_pos v h1
   have b:=Int.fmod_lt_of_pos v h1
   omega
 have hi:∀(k:Nat),(k=4∨k=5)→w=k→(∀{d:Dt} {f:Fl},(f.isFr=true∨d.flat=true)→z40 [.sh false (L S),.sh false (.int w),.sh false (.int c),.no,.no]=some (.rt f d)→z1z [L S,.int w,.int c]=some d)→(∀{G:FS} {d:Dt} {f:Fl},(f.isFr=true∨d.flat=true)→G [.sh false (L S),.sh false (.int w),.sh false (.int c),.ow true Z,.sh true (.int a)]=some (.rt f d)→(sSeq (sOwn 3 SpZ) (sSeq (sSet [] 4 (fOp z1p (fOp z2x (fN 2) (fC (.int 3))) (fBlt bLen (z02 (fN 0) fNil)))) G)) [.sh false (L S),.sh false (.int w),.sh false (.int c),.no,.no]=some (.rt f d))→∃ d,z1z [L S,.int w,.int c]=some d∧Bad M d:=fun k hk ew fin start=>by
   by_cases hs:0<sz
   · have hi4:∃ j:Nat,j<4∧((w:Int).fmod 2+(c3:Int))=(j:Int):=by
       rcases hk with rfl|rfl
       · rw[ew];exact⟨c3,by omega,by show(0:Int)+_=_;omega⟩
       · rw[ew];exact⟨c3+1,by omega,by show(1:Int)+_=_;omega⟩
     obtain⟨j,hj,ej⟩:=hi4
     have w3:3<w:=by omega
     have go:∀ v:Int,(v<0∨sz≤v)→atI [Dt.int (-1),.int sz,.int (sz+(c9:Int)),.int (-1-(c9:Int))] (j:Int)=some (.int v)→∃ d,z1z [L S,.int w,.int c]=some d∧Bad M d:=fun v h1 h2=>by
       refine⟨_,fin (f := .fr) (.inl rfl) (start (.inl rfl) ?_),b4 hs v (mods v hs h1)⟩
       have w1:¬((w:Int)=1):=by omega
       have w2:¬((w:Int)=2):=by omega
       have w3':¬((w:Int)=3):=by omega
       have w4:(3:Int)<(w:Int):=by omega
       simp[cOf,z0v,w1,w2,w3',w4,at_,hs,p9,m9,e9,mw,m3,e3,ej,h2,zl,ix]
     have q:j=0∨j=1∨j=2∨j=3:=by omega
     rcases q with rfl|rfl|rfl|rfl
     · exact go (-1) (by omega) rfl
     · exact go sz (by omega) rfl
     · exact go (sz+(c9:Int)) (by omega) rfl
     · exact go (-1-(c9:Int)) (by omega) rfl
   · refine⟨vo,fin (f := .nw) (.inl rfl) (start (.inl rfl) ?_),bo⟩
     have w4:(3:Int)<(w:Int):=by omega
     simp[cOf,z0v,show ¬((w:Int)=1) by omega,show ¬((w:Int)=2) by omega,show ¬((w:Int)=3) by omega,w4,at_,hs,bt,m5,e5,ho,fo]
 have hw':w=0∨w=1∨w=2∨w=3∨w=4∨w=5:=by omega
 have start:∀{G:FS} {d:Dt} {f:Fl},(f.isFr=true∨d.flat=true)→G [.sh false (L S),.sh false (.int w),.sh false (.int c),.ow true Z,.sh true (.int a)]=some (.rt f d)→(sSeq (sOwn 3 SpZ) (sSeq (sSet [] 4 (fOp z1p (fOp z2x (fN 2) (fC (.int 3))) (fBlt bLen (z02 (fN 0) fNil)))) G)) [.sh false (L S),.sh false (.int w),.sh false (.int c),.no,.no]=some (.rt f d):=fun{G d f} _ hG=>by
   refine run (ρ':=[.sh false (L S),.sh false (.int w),.sh false (.int c),.ow true Z,.no]) (by
     generalize SpZ=F at *
     simp[cOf,hz]) ?_
   refine run (ρ':=[.sh false (L S),.sh false (.int w),.sh false (.int c),.ow true Z,.sh true (.int a)]) (by simp[cOf,sl,d3,ma,ea]) ?_
   exact hG
 have fin:∀{d:Dt} {f:Fl},(f.isFr=true∨d.flat=true)→z40 [.sh false (L S),.sh false (.int w),.sh false (.int c),.no,.no]=some (.rt f d)→z1z [L S,.int w,.int c]=some d:=fun{d f} hf hB=>by
   refine z3Q (f:=f) rfl hB ?_
   rcases hf with h|h<;>rw[h]<;>simp
 rcases hw' with rfl|rfl|rfl|rfl|rfl|rfl
 · refine⟨vo,fin (f := .nw) (.inl rfl) (start (.inl rfl) ?_),bo⟩
   simp[cOf,z0v,bt,m5,e5,ho,fo]
 · refine⟨_,fin (f := .nw) (.inl rfl) (start (.inl rfl) ?_),b1⟩
   simp[cOf,z0v,cat]
 · refine⟨_,fin (f := .nw) (.inl rfl) (start (.inl rfl) ?_),b2⟩
   simp[cOf,z0v,c1,tl]
 · have q:c3=0∨c3=1∨c3=2:=by omega
   have go:∀ v,isWh v=false→atI [Dt.bl true,.str "0",.non] (c3:Int)=some v→nrm .sh v=(.nw,v)→∃ d,z1z [L S,.int (3:Nat),.int c]=some d∧Bad M d:=fun v h1 h2 h3=>by
     refine⟨_,fin (f := .fr) (.inl rfl) (start (.inl rfl) ?_),b3 v h1⟩
     simp[cOf,z0v,m3,e3,h2,h3,zl,ix]
   rcases q with rfl|rfl|rfl
   · exact go (.bl true) rfl rfl rfl
   · exact go (.str "0") rfl rfl rfl
   · exact go .non rfl rfl rfl
 · exact hi 4 (by decide) rfl fin start
 · exact hi 5 (by decide) rfl fin start
theorem zja(ns:List Int)(h:ns.length≤63):zgt [.scr ns]=some (.bl true):=by
 have H:=zd0 ns
 have eb:=zcT ns
 generalize z20 ns=bills at *
 generalize z1a ns=n at *
 have n1:=H.n1
 have n6:=H.n6
 have eh:=H.made
 obtain⟨S,es,G,sS⟩:=zd H
 obtain⟨M,em,Z⟩:=zc9 H es G
 have ep:=zj5 em
 have c4:=z1l ns 4 (by decide)
 have c5:=z1l ns 5 (by decide)
 have m6:z2w (z0q ns 4) 6=true:=z2f (by decide)
 obtain⟨w,hw,ew⟩:=z6f (x:=z0q ns 4) (n:=6) (by decide)
 have ew:(z0q ns 4).fmod 6=(w:Int):=ew
 have nn:∀ x∈M,0≤x.2:=k19_nn Z
 obtain⟨d,ed,bd⟩:=zdb Z.len n1 n6 nn w hw (z0q ns 5)
 have xb:=zb7 em nn bd
 have cp:=copies bills [.sh false (.scr ns),.sh true (.tup [.int n,LL bills]),.no,.no,.no,.no] (fAt (fN 1) (fC (.int 1))) .fr (by simp[cOf])
 generalize z0q ns 4=x4 at *
 generalize z0q ns 5=x5 at *
 generalize M.map (·.2)=Ps at *
 have dn:∀ f:Fl,∃ g,nrm f d=(g,d):=fun f=>⟨_,rfl⟩
 refine z3Q (f := .nw) rfl ?_ rfl
 unfold ziY
 refine run (ρ':=[.sh false (.scr ns),.sh true (.tup [.int n,LL bills]),.no,.no,.no,.no]) (by simp[cOf,eb]) ?_
 refine run (ρ':=[.sh false (.scr ns),.sh true (.tup [.int n,LL bills]),.sh true (z0E n bills),.no,.no,.no]) (by simp[cOf,cp,eh]) ?_
 refine run (ρ':=[.sh false (.scr ns),.sh true (.tup [.int n,LL bills]),.sh true (z0E n bills),.sh true d,.no,.no]) ?_ ?_
 · obtain⟨g,hg⟩:=dn .nw
   have gf:g.isFr=true:=by
    unfold nrm at hg
    have:=congrArg Prod.fst hg
    dsimp only at this
    rw[←this]
    split<;>rfl
   simp[cOf,c4,m6,ew,c5,ep,ed,hg,gf]
 refine run (ρ':=[.sh false (.scr ns),.sh true (.tup [.int n,LL bills]),.sh true (z0E n bills),.sh true d,.sh true (.int 0),.no]) (by simp[cOf]) ?_
 refine run (ρ':=[.sh false (.scr ns),.sh true (.tup [.int n,LL bills]),.sh true (z0E n bills),.sh true d,.sh true (.int 1),.no]) (try_ex (xs:=[(.nw,z0E n bills),nrm .fr d]) (by simp[cOf,z4X]) xb rfl (by simp[cOf])) ?_
 refine run (ρ':=[.sh false (.scr ns),.sh true (.tup [.int n,LL bills]),.sh true (z0E n bills),.sh true d,.sh true (.int 2),.no]) (zj9 (ρ':=[.sh false (.scr ns),.sh true (.tup [.int n,LL bills]),.sh true (z0E n bills),.sh true d,.sh true (.int 2),.ex]) (xs:=[(.nw,z0E n bills),nrm .fr d]) (by simp[cOf,z4X]) xb rfl (by simp[cOf,fIsx,bInt])) ?_
 simp[cOf,z0v]
end
def top(i:Nat):Stmt:=PySem.Challenge.pw_changehall_k19_places_refused.main.body.getD i (.Pass ⟨0,0,0,0⟩)
abbrev z5D:Stmt:=top 5
theorem zca:FnScope ["value"] ["value"] (z05 z5D):=scm
abbrev z6g:Stmt:=top 6
theorem zhC:FnScope ["value", "length"] ["value", "length"] (z05 z6g):=scm
abbrev z41:Stmt:=top 8
theorem zcb:FnScope ["length", "one_at"] ["length", "one_at"] (z05 z41):=scm
abbrev z7N:Stmt:=top 9
theorem zjb:FnScope ["one", "other"] ["one", "other"] (z05 z7N):=scm
abbrev z7O:Stmt:=top 10
theorem zjc:FnScope ["one", "other"] ["one", "other"] (z05 z7O):=scm
abbrev z6h:Stmt:=top 11
theorem zhD:FnScope ["row", "often"] ["row", "often"] (z05 z6h):=scm
abbrev z74:Stmt:=top 14
theorem z5E:FnScope ["row", "spot", "number"] ["row"] (z05 z74):=scm
abbrev z4E:Stmt:=top 18
theorem zb8:FnScope ["value"] ["value"] (z05 z4E):=scm
abbrev z5a:Stmt:=top 19
theorem zdc:FnScope ["value", "kinds"] ["value", "kinds"] (z05 z5a):=scm
abbrev z42:Stmt:=top 20
theorem z9m:FnScope ["kinds"] ["kinds"] (z05 z42):=scm
abbrev z4F:Stmt:=top 21
theorem zb9:FnScope ["bill", "kinds"] ["bill", "kinds"] (z05 z4F):=scm
abbrev z5b:Stmt:=top 23
theorem zdd:FnScope ["kinds", "rows"] ["kinds", "rows"] (z05 z5b):=scm
abbrev z75:Stmt:=top 22
theorem z8R:FnScope ["kinds", "bills", "bill"] ["kinds", "bills"] (z05 z75):=scm
abbrev z4G:Stmt:=top 25
theorem z1U:FnScope ["a", "b", "upper", "lower", "often", "left"] ["a", "b"] (z05 z4G):=scm
abbrev zde:Stmt:=top 26
theorem zmk:FnScope ["a", "part"] ["a", "part"] (z05 zde):=scm
abbrev z76:Stmt:=top 27
theorem z43:FnScope ["numbers", "found", "number"] ["numbers"] (z05 z76):=scm
abbrev z5F:Stmt:=top 29
theorem z1A:FnScope ["row", "rungs", "left", "counts", "rung", "spot", "often"] ["row", "rungs"] (z05 z5F):=scm
abbrev z77:Stmt:=top 30
theorem zdf:FnScope ["row", "rungs"] ["row", "rungs"] (z05 z77):=scm
abbrev z78:Stmt:=top 31
theorem z34:FnScope ["rung", "row", "spot", "found", "upper", "lower"] ["rung", "row"] (z05 z78):=scm
abbrev z4H:Stmt:=top 32
theorem zba:FnScope ["row"] ["row"] (z05 z4H):=scm
abbrev z44:Stmt:=top 33
theorem z1V:FnScope ["rungs", "row", "found", "left", "places", "pair"] ["rungs", "row"] (z05 z44):=scm
abbrev z8S:Stmt:=top 34
theorem z79:FnScope ["rungs", "found", "rung"] ["rungs"] (z05 z8S):=scm
abbrev z7a:Stmt:=top 35
theorem z45:FnScope ["rows", "rungs", "row"] ["rows"] (z05 z7a):=scm
abbrev z26:Stmt:=top 36
theorem z7E:FnScope ["rows", "tags"] ["rows", "tags"] (z05 z26):=scm
abbrev z1F:Stmt:=top 38
theorem z6i:FnScope ["rungs", "width"] ["rungs", "width"] (z05 z1F):=scm
abbrev zbb:Stmt:=top 39
theorem zjd:FnScope ["hall"] ["hall"] (z05 zbb):=scm
abbrev z6j:Stmt:=top 41
theorem zhE:FnScope ["rows", "width"] ["rows", "width"] (z05 z6j):=scm
abbrev z46:Stmt:=top 42
theorem z4I:FnScope ["rows", "place", "row"] ["rows"] (z05 z46):=scm
abbrev z7P:Stmt:=top 43
theorem zje:FnScope ["row", "part"] ["row", "part"] (z05 z7P):=scm
abbrev z2O:Stmt:=top 44
theorem z1B:FnScope ["rows", "tags", "whole", "many", "square", "weights", "other", "both"] ["rows", "tags", "whole"] (z05 z2O):=scm
abbrev z8T:Stmt:=top 45
theorem z2P:FnScope ["one", "other", "found", "common", "least", "upper", "lower"] ["one", "other"] (z05 z8T):=scm
abbrev z5c:Stmt:=top 46
theorem z35:FnScope ["measured", "found", "first", "second", "pair"] ["measured"] (z05 z5c):=scm
abbrev z1C:Stmt:=top 47
theorem z1g:FnScope ["hall", "kinds", "rungs", "many", "both", "square", "whole", "bound"] ["hall"] (z05 z1C):=scm
abbrev z7Q:Stmt:=top 49
theorem zjf:FnScope ["hall"] ["hall"] (z05 z7Q):=scm
abbrev z47:Stmt:=top 51
theorem z3m:FnScope ["measured", "numbers", "number", "measure"] ["measured", "numbers"] (z05 z47):=scm
abbrev z4J:Stmt:=top 53
theorem z6k:FnScope ["hall", "numbers", "measured"] ["hall", "numbers"] (z05 z4J):=scm
abbrev z4K:Stmt:=top 55
theorem zbc:FnScope ["_law_script", "_law_k"] ["_law_script", "_law_k"] (z05 z4K):=scm
abbrev z5G:Stmt:=top 56
theorem z3d:FnScope ["_law_cell", "_law_mode", "_law_number_here", "_law_wide"] ["_law_cell", "_law_mode"] (z05 z5G):=scm
abbrev z7R:Stmt:=top 57
theorem zjg:FnScope ["_law_script", "_law_at", "_law_size", "_law_mode"] ["_law_script", "_law_at", "_law_size", "_law_mode"] (z05 z7R):=scm
abbrev z5d:Stmt:=top 58
theorem z1m:FnScope ["_law_script", "_law_mode", "_law_kinds", "_law_many"] ["_law_script"] (z05 z5d):=scm
abbrev z48:Stmt:=top 59
theorem z4L:FnScope ["_law_sizes", "_law_way", "_law_cell", "_law_made", "_law_at"] ["_law_sizes", "_law_way", "_law_cell"] (z05 z48):=scm
abbrev zgB:Stmt:=top 60
theorem z4M:FnScope ["_law_script", "_law_drawn", "_law_hall", "_law_bad", "_law_refused", "e"] ["_law_script"] (z05 zgB):=scm
set_option genInjectivity false in
structure Adr where
 z8W:Addr
 z8X:FuncData
 zcj:Addr
 zck:FuncData
 z8Y:Addr
 z8Z:FuncData
 zgD:Addr
 zgE:FuncData
 zgF:Addr
 zgG:FuncData
 zcl:Addr
 zcm:FuncData
 za3:Addr
 za4:FuncData
 z7q:Addr
 z7r:FuncData
 za5:Addr
 za6:FuncData
 z6n:Addr
 z6o:FuncData
 z7s:Addr
 z7t:FuncData
 za7:Addr
 za8:FuncData
 za9:Addr
 zaa:FuncData
 zcn:Addr
 zco:FuncData
 zlo:Addr
 zlp:FuncData
 zab:Addr
 zac:FuncData
 z9:Addr
 z90:FuncData
 zad:Addr
 zae:FuncData
 zaf:Addr
 zag:FuncData
 z7u:Addr
 z7v:FuncData
 z91:Addr
 z92:FuncData
 zcp:Addr
 zcq:FuncData
 zah:Addr
 zai:FuncData
 z4N:Addr
 z4O:FuncData
 z3A:Addr
 z3B:FuncData
 zgH:Addr
 zgI:FuncData
 zcr:Addr
 zcs:FuncData
 z93:Addr
 z94:FuncData
 zgJ:Addr
 zgK:FuncData
 zaj:Addr
 zak:FuncData
 zct:Addr
 zcu:FuncData
 zal:Addr
 zam:FuncData
 z95:Addr
 z96:FuncData
 zgL:Addr
 zgM:FuncData
 z6p:Addr
 z6q:FuncData
 z7w:Addr
 z7x:FuncData
 z7y:Addr
 z7z:FuncData
 z97:Addr
 z98:FuncData
 zgN:Addr
 zgO:FuncData
 zan:Addr
 zao:FuncData
 z99:Addr
 z9a:FuncData
 a_law:Addr
 zgP:FuncData
 z2H:Tok
 z2I:Tok
 x_HallError:Addr
 x_NoPlace:Addr
structure Facts(K:PySem.W.Frag)(mg:Str→Option Value)(A:Adr):Prop where
 zbg:mg "ValueError" = none
 n_abs:mg "abs" = none
 n_all:mg "all" = none
 n_any:mg "any" = none
 n_bool:mg "bool" = none
 z2t:mg "enumerate" = none
 n_int:mg "int" = none
 z27:mg "isinstance" = none
 z3C:mg "len" = none
 z49:mg "list" = none
 z3e:mg "range" = none
 zfS:mg "reversed" = none
 zlq:mg "sorted" = none
 z7S:mg "tuple" = none
 zgQ:mg "zip" = none
 zbh:mg "MOST_BILLS" = some (.int 8 A.z2H)
 zbi:mg "MOST_KINDS" = some (.int 6 A.z2I)
 z5J:Df K mg "is_whole" z5D ["value"] A.z8W A.z8X
 z9b:Df K mg "is_row" z6g ["value", "length"] A.zcj A.zck
 z9c:Df K mg "unit_row" z41 ["length", "one_at"] A.z8Y A.z8Z
 z7T:Df K mg "added" z7N ["one", "other"] A.zgD A.zgE
 zbj:Df K mg "taken" z7O ["one", "other"] A.zgF A.zgG
 z28:Df K mg "scaled" z6h ["row", "often"] A.zcl A.zcm
 z1e:Df K mg "head_at" z74 ["row"] A.za3 A.za4
 z7A:Df K mg "are_kinds" z4E ["value"] A.z7q A.z7r
 zap:Df K mg "is_bill" z5a ["value", "kinds"] A.za5 A.za6
 z6r:Df K mg "need_kinds" z42 ["kinds"] A.z6n A.z6o
 z7B:Df K mg "need_bill" z4F ["bill", "kinds"] A.z7s A.z7t
 zaq:Df K mg "hall_by" z5b ["kinds", "rows"] A.za7 A.za8
 zar:Df K mg "hall_of" z75 ["kinds", "bills"] A.za9 A.zaa
 z9d:Df K mg "bridge" z4G ["a", "b"] A.zcn A.zco
 zfT:Df K mg "rest" zde ["a", "part"] A.zlo A.zlp
 zas:Df K mg "product" z76 ["numbers"] A.zab A.zac
 z9e:Df K mg "lowering" z5F ["row", "rungs"] A.z9 A.z90
 z5e:Df K mg "lowered" z77 ["row", "rungs"] A.zad A.zae
 zat:Df K mg "crossed" z78 ["rung", "row"] A.zaf A.zag
 z7C:Df K mg "turned_up" z4H ["row"] A.z7u A.z7v
 z9f:Df K mg "with_row" z44 ["rungs", "row"] A.z91 A.z92
 zcv:Df K mg "evened" z8S ["rungs"] A.zcp A.zcq
 z5f:Df K mg "climbed" z7a ["rows"] A.zah A.zai
 z36:Df K mg "tagged_stair" z26 ["rows", "tags"] A.z4N A.z4O
 z3D:Df K mg "tags_at_nought" z1F ["rungs", "width"] A.z3A A.z3B
 zgR:Df K mg "stair" zbb ["hall"] A.zgH A.zgI
 z6s:Df K mg "turned" z6j ["rows", "width"] A.zcr A.zcs
 z9g:Df K mg "is_slant" z46 ["rows"] A.z93 A.z94
 z6t:Df K mg "rests" z7P ["row", "part"] A.zgJ A.zgK
 zau:Df K mg "slanted" z2O ["rows", "tags", "whole"] A.zaj A.zak
 zcw:Df K mg "linked" z8T ["one", "other"] A.zct A.zcu
 zav:Df K mg "chained" z5c ["measured"] A.zal A.zam
 z5K:Df K mg "measures" z1C ["hall"] A.z95 A.z96
 zgS:Df K mg "parts" z7Q ["hall"] A.zgL A.zgM
 z6u:Df K mg "need_place" z47 ["measured", "numbers"] A.z6p A.z6q
 z4P:Df K mg "basket_at" z4J ["hall", "numbers"] A.z7w A.z7x
 z1h:Df K mg "_law_cell_at" z4K ["_law_script", "_law_k"] A.z7y A.z7z
 z9h:Df K mg "_law_number" z5G ["_law_cell", "_law_mode"] A.z97 A.z98
 zgT:Df K mg "_law_row" z7R ["_law_script", "_law_at", "_law_size", "_law_mode"] A.zgN A.zgO
 zaw:Df K mg "_law_bills" z5d ["_law_script"] A.zan A.zao
 z9i:Df K mg "_law_spoilt" z48 ["_law_sizes", "_law_way", "_law_cell"] A.z99 A.z9a
 f_law:Df K mg "law" zgB ["_law_script"] A.a_law A.zgP
 x_NoPlace:Xc K mg 3 A.x_NoPlace
 h_HallError:Hit K mg h_HallError "HallError" A.x_HallError
 h_NoPlace:Hit K mg h_NoPlace "NoPlace" A.x_NoPlace
section
variable {K:PySem.W.Frag}{mg:Str→Option Value}{P:Program}{w:World}{base:Heap}{A:Adr}
theorem z7o(T:Facts K mg A):FnOk P w K mg base CX0 1 A.z8W A.z8X ["value"] (spc K true z1N) :=
 Fun.dat (k:=0) (F:=z5y) T.z5J.fn zca rfl rfl (fun cdv A outer s H E hr=>have hu:=hr.units
  (z0b (z0s (zia (zg6 (T := "int") rfl rfl T.z27 rfl T.n_int (by decide +kernel) (z01 0)) (zi9 (p_not (zg6 (T := "bool") rfl rfl T.z27 rfl T.n_bool (by decide +kernel) (z01 0))))))))
theorem za1(T:Facts K mg A):FnOk P w K mg base CX0 2 A.zcj A.zck ["value", "length"] (spc K true z1J) :=
 Fun.dat (k:=1) (F:=z4r) T.z9b.fn zhC rfl rfl (fun cdv A outer s H E hr=>have hu:=hr.units
  (z06 (s_if (PFW.pt (w_or (z9A (z84 (zg6 (T := "list") rfl rfl T.z27 rfl T.z49 (by decide +kernel) (z01 0)) (fun _=>rfl))) (zi8 (z1b (o_ne hu) (z12 z3p rfl T.z3C (by decide +kernel) (z03 (z01 0) z07)) (z01 1) (z0y _))))) (z0b (z0s p_bl)) z0V)
   (z0b (z0s (z12 (c_all rfl) rfl T.n_all (by decide +kernel) (z03 (z0O (g:=(Tg.one 0)) (z0c (N:=["number"]) (nt:=1) (js:=[]) ["value", "length"] (z05 z6g).names rfl rfl rfl (by decide +kernel)) rfl (z1I (z01 0)) (fun _ _ _ _ _=>z13 (ndp ["number"]) rfl (Or.inl rfl) (Or.inr rfl)) (show 0<1 by decide) (fun _ _ _ _ _=>z0H) (fun _ _ _ _ _=>(z0f (z7o T) T.z5J hr rfl (z03 (z01 0) z07))) (jlt [] 2)) z07))))))
theorem zcc(T:Facts K mg A):FnOk P w K mg base CX0 1 A.z8Y A.z8Z ["length", "one_at"] (spc K true z2Y) :=
 Fun.dat (k:=0) (F:=z5z) T.z9c.fn zcb rfl rfl (fun cdv A outer s H E hr=>have hu:=hr.units
  (z0b (z0s (z0O (g:=(Tg.one 0)) (z0c (N:=["spot", "one_at"]) (nt:=1) (js:=[1]) ["length", "one_at"] (z05 z41).names rfl rfl rfl (by decide +kernel)) rfl (z3q rfl T.z3e (z01 0)) (fun _ _ _ _ _=>z13 (ndp ["spot", "one_at"]) rfl (Or.inl rfl) (Or.inr rfl)) (show 0<1 by decide) (fun _ _ _ _ _=>z0H) (fun _ _ _ _ _=>(p_if (z1b (o_eq hu) (z01 0) (z01 1) (z0y _)) z0a z0a)) (jlt [1] 2)))))
theorem z8U(T:Facts K mg A):FnOk P w K mg base CX0 1 A.zgD A.zgE ["one", "other"] (spc K true z52) :=
 Fun.dat (k:=0) (F:=zaV) T.z7T.fn zjb rfl rfl (fun cdv A outer s H E hr=>have hu:=hr.units
  (z0b (z0s (z0O (g:=(Tg.many [0,1])) (z0c (N:=["a", "b"]) (nt:=2) (js:=[]) ["one", "other"] (z05 z7N).names rfl rfl rfl (by decide +kernel)) rfl (zgb rfl T.zgQ (z01 0) (z01 1)) (fun _ _ _ _ _=>z2U rfl (z0J (z0B (ndp ["a", "b"]) rfl (Or.inl rfl) (Or.inr rfl)) (z0J (z0B (ndp ["a", "b"]) rfl (Or.inl rfl) (Or.inr rfl)) z2T))) (jlt [0,1] 2) (fun _ _ _ _ _=>z0H) (fun _ _ _ _ _=>(p_op z2y (z01 0) (z01 1))) (jlt [] 2)))))
theorem zcd(T:Facts K mg A):FnOk P w K mg base CX0 1 A.zgF A.zgG ["one", "other"] (spc K true z53) :=
 Fun.dat (k:=0) (F:=zaW) T.zbj.fn zjc rfl rfl (fun cdv A outer s H E hr=>have hu:=hr.units
  (z0b (z0s (z0O (g:=(Tg.many [0,1])) (z0c (N:=["a", "b"]) (nt:=2) (js:=[]) ["one", "other"] (z05 z7O).names rfl rfl rfl (by decide +kernel)) rfl (zgb rfl T.zgQ (z01 0) (z01 1)) (fun _ _ _ _ _=>z2U rfl (z0J (z0B (ndp ["a", "b"]) rfl (Or.inl rfl) (Or.inr rfl)) (z0J (z0B (ndp ["a", "b"]) rfl (Or.inl rfl) (Or.inr rfl)) z2T))) (jlt [0,1] 2) (fun _ _ _ _ _=>z0H) (fun _ _ _ _ _=>(p_op zg0 (z01 0) (z01 1))) (jlt [] 2)))))
theorem z1W(T:Facts K mg A):FnOk P w K mg base CX0 1 A.zcl A.zcm ["row", "often"] (spc K true z1s) :=
 Fun.dat (k:=0) (F:=z8A) T.z28.fn zhD rfl rfl (fun cdv A outer s H E hr=>have hu:=hr.units
  (z0b (z0s (z0O (g:=(Tg.one 0)) (z0c (N:=["number", "often"]) (nt:=1) (js:=[1]) ["row", "often"] (z05 z6h).names rfl rfl rfl (by decide +kernel)) rfl (z1I (z01 0)) (fun _ _ _ _ _=>z13 (ndp ["number", "often"]) rfl (Or.inl rfl) (Or.inr rfl)) (show 0<1 by decide) (fun _ _ _ _ _=>z0H) (fun _ _ _ _ _=>(p_op z7d (z01 1) (z01 0))) (jlt [1] 2)))))
theorem z1n(T:Facts K mg A):FnOk P w K mg base CX0 1 A.za3 A.za4 ["row"] (spc K true z0g) :=
 Fun.dat (k:=0) (F:=z6Q) T.z1e.fn z5E rfl rfl (fun cdv A outer s H E hr=>have hu:=hr.units
  (z06 (z7g (rels:=[]) (g:=(Tg.many [1,2])) PassesOwn.never rfl (z8e rfl T.z2t (z01 0)) (z2U rfl (z0J (z0B (i:=1) z5E.nd rfl (Or.inl rfl) (Or.inl rfl)) (z0J (z0B (i:=2) z5E.nd rfl (Or.inl rfl) (Or.inl rfl)) z2T))) (z0b (s_if (z1b (o_ne hu) (z01 2) z0a (z0y _)) (z0b (z0s (z01 1))) z0V)))
   (z0b (z0s (z12 z3p rfl T.z3C (by decide +kernel) (z03 (z01 0) z07))))))
theorem zbd(T:Facts K mg A):FnOk P w K mg base CX0 2 A.z7q A.z7r ["value"] (spc K true z3b) :=
 Fun.dat (k:=1) (F:=z4s) T.z7A.fn zb8 rfl rfl (fun cdv A outer s H E hr=>have hu:=hr.units
  (z0b (z0s (zia (z0f (z7o T) T.z5J hr rfl (z03 (z01 0) z07)) (zi9 (zlP o_le o_le z0a (z01 0) (zi5 rfl T.zbi)))))))
theorem zdg(T:Facts K mg A):FnOk P w K mg base CX0 3 A.za5 A.za6 ["value", "kinds"] (spc K true z54) :=
 Fun.dat (k:=2) (F:=z6R) T.zap.fn zdc rfl rfl (fun cdv A outer s H E hr=>have hu:=hr.units
  (z0b (z0s (zia (z0f (za1 T) T.z9b hr rfl (z03 (z01 0) (z03 (z01 1) z07))) (zi9 (z12 (c_all rfl) rfl T.n_all (by decide +kernel) (z03 (z0O (g:=(Tg.one 0)) (z0c (N:=["number"]) (nt:=1) (js:=[]) ["value", "kinds"] (z05 z5a).names rfl rfl rfl (by decide +kernel)) rfl (z1I (z01 0)) (fun _ _ _ _ _=>z13 (ndp ["number"]) rfl (Or.inl rfl) (Or.inr rfl)) (show 0<1 by decide) (fun _ _ _ _ _=>z0H) (fun _ _ _ _ _=>(zi6 o_lt (z12 c_abs rfl T.n_abs (by decide +kernel) (z03 (z01 0) z07)) (p_op zbr z0a z0a) (z0y _))) (jlt [] 2)) z07)))))))
theorem z9n(T:Facts K mg A):FnOk P w K mg base CX0 3 A.z6n A.z6o ["kinds"] (spc K true z2G) :=
 Fun.dat (k:=2) (F:=z3U) T.z6r.fn z9m rfl rfl (fun cdv A outer s H E hr=>have hu:=hr.units
  (z0b (s_if (z9A (z84 (z0f (zbd T) T.z7A hr rfl (z03 (z01 0) z07)) (fun _=>rfl))) (z0b zaH) z0V)))
theorem zbe(T:Facts K mg A):FnOk P w K mg base CX0 4 A.z7s A.z7t ["bill", "kinds"] (spc K true z1R) :=
 Fun.dat (k:=3) (F:=z4t) T.z7B.fn zb9 rfl rfl (fun cdv A outer s H E hr=>have hu:=hr.units
  (z0b (s_if (z9A (z84 (z0f (zdg T) T.zap hr rfl (z03 (z01 0) (z03 (z01 1) z07))) (fun _=>rfl))) (z0b zaH) z0V)))
theorem zdh(T:Facts K mg A):FnOk P w K mg base CX0 1 A.za7 A.za8 ["kinds", "rows"] (spc K true z55) :=
 Fun.dat (k:=0) (F:=z6S) T.zaq.fn zdd rfl rfl (fun cdv A outer s H E hr=>have hu:=hr.units
  (z0b (z0s (z5h (z03 (z01 0) (z03 (z1q zg4 rfl T.z7S (by decide +kernel) (z03 (z0O (g:=(Tg.one 0)) (z0c (N:=["row"]) (nt:=1) (js:=[]) ["kinds", "rows"] (z05 z5b).names rfl rfl rfl (by decide +kernel)) rfl (z1I (z01 1)) (fun _ _ _ _ _=>z13 (ndp ["row"]) rfl (Or.inl rfl) (Or.inr rfl)) (show 0<1 by decide) (fun _ _ _ _ _=>z0H) (fun _ _ _ _ _=>(z1q zg4 rfl T.z7S (by decide +kernel) (z03 (z01 0) z07))) (jlt [] 2)) z07)) z07))))))
theorem zdi(T:Facts K mg A):FnOk P w K mg base CX0 5 A.za9 A.zaa ["kinds", "bills"] (spc K true z3u) :=
 Fun.dat (k:=4) (F:=z6T) T.zar.fn z8R rfl rfl (fun cdv A outer s H E hr=>have hu:=hr.units
  (z06 (zih (z0f (z9n T) T.z6r hr rfl (z03 (z01 0) z07)))
   (z06 (s_if (PFW.pt (w_or (z9A (z84 (zg6 (T := "list") rfl rfl T.z27 rfl T.z49 (by decide +kernel) (z01 1)) (fun _=>rfl))) (zi8 (z1b o_gt (z12 z3p rfl T.z3C (by decide +kernel) (z03 (z01 1) z07)) (zi5 rfl T.zbh) (z0y _))))) (z0b zaH) z0V)
   (z06 (z7g (rels:=[]) (g:=(Tg.one 2)) PassesOwn.never rfl (z1I (z01 1)) (z13 z8R.nd rfl (Or.inl rfl) (Or.inl rfl)) (z0b (zih (z0f (zbe T) T.z7B hr rfl (z03 (z01 2) (z03 (z01 0) z07))))))
   (z0b (z0s (z0f (zdh T) T.zaq hr rfl (z03 (z01 0) (z03 (z01 1) z07)))))))))
theorem za2(T:Facts K mg A):FnOk P w K mg base CX0 1 A.zcn A.zco ["a", "b"] (spc K true z4u) :=
 Fun.dat (k:=0) (F:=z8B) T.z9d.fn z1U rfl rfl (fun cdv A outer s H E hr=>have hu:=hr.units
  (z06 (z0o (rels:=[]) (z09 (i:=2) (z3o (z03 (z01 0) (z03 z0a (z03 z0a z07)))) z1U.nd rfl (Or.inr rfl) rfl (Or.inl rfl)))
   (z06 (z0o (rels:=[]) (z09 (i:=3) (z3o (z03 (z01 1) (z03 z0a (z03 z0a z07)))) z1U.nd rfl (Or.inr rfl) rfl (Or.inl rfl)))
   (z06 (zaI PassesOwn.never (z1b (o_ne hu) (p_ix (z01 3) z0a (fun _ _=>rfl)) z0a (z0y _)) (z06 (z0o (rels:=[]) (z09 (i:=4) (p_op z3g (p_ix (z01 2) z0a (fun _ _=>rfl)) (p_ix (z01 3) z0a (fun _ _=>rfl))) z1U.nd rfl (Or.inr rfl) rfl (Or.inl rfl)))
   (z06 (z0o (rels:=[]) (z4g (i:=5) (g:=(Tg.one 0)) z1U.nd rfl rfl rfl (z0c (N:=["k", "upper", "often", "lower"]) (nt:=1) (js:=[2,4,3]) ["a", "b", "upper", "lower", "often", "left"] (z05 z4G).names rfl rfl rfl (by decide +kernel)) rfl (z3q rfl T.z3e z0a) (fun _ _ _ _ _=>z13 (ndp ["k", "upper", "often", "lower"]) rfl (Or.inl rfl) (Or.inr rfl)) (show 0<1 by decide) (fun _ _ _ _ _=>z0H) (fun _ _ _ _ _=>(p_op zg0 (p_ix (z01 1) (z01 0) (fun _ _=>rfl)) (p_op z7d (z01 2) (p_ix (z01 3) (z01 0) (fun _ _=>rfl))))) (jlt [2,4,3] 6)))
   (z06 (z0o (rels:=[]) (z09 (i:=2) (z01 3) z1U.nd rfl (Or.inr rfl) rfl (Or.inl rfl)))
   (z0b (z0o (rels:=[]) (z09 (i:=3) (z01 5) z1U.nd rfl (Or.inr rfl) rfl (Or.inl rfl))))))))
   (z06 (s_if (z1b o_lt (p_ix (z01 2) z0a (fun _ _=>rfl)) z0a (z0y _)) (z0b (z0o (rels:=[]) (z09 (i:=2) (z0O (g:=(Tg.one 0)) (z0c (N:=["number"]) (nt:=1) (js:=[]) ["a", "b", "upper", "lower", "often", "left"] (z05 z4G).names rfl rfl rfl (by decide +kernel)) rfl (z1I (z01 2)) (fun _ _ _ _ _=>z13 (ndp ["number"]) rfl (Or.inl rfl) (Or.inr rfl)) (show 0<1 by decide) (fun _ _ _ _ _=>z0H) (fun _ _ _ _ _=>(z9B (z01 0))) (jlt [] 6)) z1U.nd rfl (Or.inr rfl) rfl (Or.inl rfl)))) z0V)
   (z0b (z0s (z1q zg4 rfl T.z7S (by decide +kernel) (z03 (z01 2) z07)))))))))
theorem zgC(T:Facts K mg A):FnOk P w K mg base CX0 1 A.zlo A.zlp ["a", "part"] (spc K true z3l) :=
 Fun.dat (k:=0) (F:=zaX) T.zfT.fn zmk rfl rfl (fun cdv A outer s H E hr=>have hu:=hr.units
  (z06 (s_if (z1b (o_eq hu) (z01 1) z0a (z0y _)) (z0b (z0s (z01 0))) z0V)
   (z0b (z0s (p_op z1Y (z01 0) (z01 1))))))
theorem zdj(T:Facts K mg A):FnOk P w K mg base CX0 1 A.zab A.zac ["numbers"] (spc K true z56) :=
 Fun.dat (k:=0) (F:=z6U) T.zas.fn z43 rfl rfl (fun cdv A outer s H E hr=>have hu:=hr.units
  (z06 (z0o (rels:=[]) (z09 (i:=1) z0a z43.nd rfl (Or.inl rfl) rfl (Or.inl rfl)))
   (z06 (z7g (rels:=[]) (g:=(Tg.one 2)) PassesOwn.never rfl (z1I (z01 0)) (z13 z43.nd rfl (Or.inl rfl) (Or.inl rfl)) (z0b (z0o (rels:=[]) (z09 (i:=1) (p_op z7d (z01 1) (z01 2)) z43.nd rfl (Or.inl rfl) rfl (Or.inl rfl)))))
   (z0b (z0s (z01 1))))))
theorem zce(T:Facts K mg A):FnOk P w K mg base CX0 2 A.z9 A.z90 ["row", "rungs"] (spc K true z3V) :=
 Fun.dat (k:=1) (F:=z5A) T.z9e.fn z1A rfl rfl (fun cdv A outer s H E hr=>have hu:=hr.units
  (z06 (z0o (rels:=[]) (z09 (i:=2) (z1q z88 rfl T.z49 (by decide +kernel) (z03 (z01 0) z07)) z1A.nd rfl (Or.inl rfl) rfl (Or.inl rfl)))
   (z06 (zbt (z09 (i:=3) (z3o z07) z1A.nd rfl (Or.inl rfl) rfl (Or.inl rfl)))
   (z06 (z7g (rels:=[]) (g:=(Tg.one 4)) PassesOwn.never rfl (z1I (z01 1)) (z13 z1A.nd rfl (Or.inl rfl) (Or.inl rfl)) (z06 (z0o (rels:=[]) (z09 (i:=5) (z0f (z1n T) T.z1e hr rfl (z03 (z01 4) z07)) z1A.nd rfl (Or.inl rfl) rfl (Or.inl rfl)))
   (z06 (z0o (rels:=[]) (z09 (i:=6) (p_op z3g (p_ix (z01 2) (z01 5) (fun _ _=>rfl)) (p_ix (z01 4) (z01 5) (fun _ _=>rfl))) z1A.nd rfl (Or.inl rfl) rfl (Or.inl rfl)))
   (z06 (s_if (z1b (o_ne hu) (z01 6) z0a (z0y _)) (z0b (z0o (rels:=[]) (z09 (i:=2) (z0f (zcd T) T.zbj hr rfl (z03 (z01 2) (z03 (z0f (z1W T) T.z28 hr rfl (z03 (z01 4) (z03 (z01 6) z07))) z07))) z1A.nd rfl (Or.inl rfl) rfl (Or.inl rfl)))) z0V)
   (z0b (s_wr1 (i:=3) mw_app F.slot_list_append F.type_list_append rfl (Or.inl rfl) (z01 6)))))))
   (z0b (z0s (z5h (z03 (z01 3) (z03 (z01 2) z07)))))))))
theorem z5H(T:Facts K mg A):FnOk P w K mg base CX0 3 A.zad A.zae ["row", "rungs"] (spc K true z0S) :=
 Fun.dat (k:=2) (F:=z6V) T.z5e.fn zdf rfl rfl (fun cdv A outer s H E hr=>have hu:=hr.units
  (z0b (z0s (p_ix (z0f (zce T) T.z9e hr rfl (z03 (z01 0) (z03 (z01 1) z07))) z0a (fun _ _=>rfl)))))
theorem zdk(T:Facts K mg A):FnOk P w K mg base CX0 2 A.zaf A.zag ["rung", "row"] (spc K true z2L) :=
 Fun.dat (k:=1) (F:=z6W) T.zat.fn z34 rfl rfl (fun cdv A outer s H E hr=>have hu:=hr.units
  (z06 (z0o (rels:=[]) (z09 (i:=2) (z0f (z1n T) T.z1e hr rfl (z03 (z01 0) z07)) z34.nd rfl (Or.inl rfl) rfl (Or.inl rfl)))
   (z06 (z0o (rels:=[]) (z09 (i:=3) (z0f (za2 T) T.z9d hr rfl (z03 (p_ix (z01 0) (z01 2) (fun _ _=>rfl)) (z03 (p_ix (z01 1) (z01 2) (fun _ _=>rfl)) z07))) z34.nd rfl (Or.inl rfl) rfl (Or.inl rfl)))
   (z06 (z0o (rels:=[]) (z09 (i:=4) (z0f (z8U T) T.z7T hr rfl (z03 (z0f (z1W T) T.z28 hr rfl (z03 (z01 0) (z03 (p_ix (z01 3) z0a (fun _ _=>rfl)) z07))) (z03 (z0f (z1W T) T.z28 hr rfl (z03 (z01 1) (z03 (p_ix (z01 3) z0a (fun _ _=>rfl)) z07))) z07))) z34.nd rfl (Or.inl rfl) rfl (Or.inl rfl)))
   (z06 (z0o (rels:=[]) (z09 (i:=5) (z0f (zcd T) T.zbj hr rfl (z03 (z0f (z1W T) T.z28 hr rfl (z03 (z01 1) (z03 (p_op z3g (p_ix (z01 0) (z01 2) (fun _ _=>rfl)) (p_ix (z01 3) z0a (fun _ _=>rfl))) z07))) (z03 (z0f (z1W T) T.z28 hr rfl (z03 (z01 0) (z03 (p_op z3g (p_ix (z01 1) (z01 2) (fun _ _=>rfl)) (p_ix (z01 3) z0a (fun _ _=>rfl))) z07))) z07))) z34.nd rfl (Or.inl rfl) rfl (Or.inl rfl)))
   (z0b (z0s (z5h (z03 (z01 4) (z03 (z01 5) z07))))))))))
theorem zbf(T:Facts K mg A):FnOk P w K mg base CX0 2 A.z7u A.z7v ["row"] (spc K true z16) :=
 Fun.dat (k:=1) (F:=z4v) T.z7C.fn zba rfl rfl (fun cdv A outer s H E hr=>have hu:=hr.units
  (z0b (z0s (p_if (z1b o_lt (p_ix (z01 0) (z0f (z1n T) T.z1e hr rfl (z03 (z01 0) z07)) (fun _ _=>rfl)) z0a (z0y _)) (z0f (z1W T) T.z28 hr rfl (z03 (z01 0) (z03 (z9B z0a) z07))) (z1q z88 rfl T.z49 (by decide +kernel) (z03 (z01 0) z07))))))
theorem zcf(T:Facts K mg A):FnOk P w K mg base CX0 4 A.z91 A.z92 ["rungs", "row"] (spc K false z2g) :=
 Fun.dat (k:=3) (F:=z2Z) T.z9f.fn z1V rfl rfl (fun cdv A outer s H E hr=>have hu:=hr.units
  (z06 (zbt (z09 (i:=2) (z1q z88 rfl T.z49 (by decide +kernel) (z03 (z01 0) z07)) z1V.nd rfl (Or.inl rfl) rfl (Or.inl rfl)))
   (z06 (z8c (z09 (i:=3) (z0f (z5H T) T.z5e hr rfl (z03 (z01 1) (z03 (z01 2) z07))) z1V.nd rfl (Or.inr rfl) rfl (Or.inl rfl)))
   (z06 (zaI PassesOwn.never (z1b o_lt (z0f (z1n T) T.z1e hr rfl (z03 (z01 3) z07)) (z12 z3p rfl T.z3C (by decide +kernel) (z03 (z01 3) z07)) (z0y _)) (z06 (z8c (z4g (i:=4) (g:=(Tg.many [0,1])) z1V.nd rfl rfl rfl (z0c (N:=["place", "rung", "left"]) (nt:=2) (js:=[3]) ["rungs", "row", "found", "left", "places", "pair"] (z05 z44).names rfl rfl rfl (by decide +kernel)) rfl (z8e rfl T.z2t (z01 2)) (fun _ _ _ _ _=>z2U rfl (z0J (z0B (ndp ["place", "rung", "left"]) rfl (Or.inl rfl) (Or.inr rfl)) (z0J (z0B (ndp ["place", "rung", "left"]) rfl (Or.inl rfl) (Or.inr rfl)) z2T))) (jlt [0,1] 2) (fun _ _ _ _ _=>(zid (z1b (o_eq hu) (z0f (z1n T) T.z1e hr rfl (z03 (z01 1) z07)) (z0f (z1n T) T.z1e hr rfl (z03 (z01 2) z07)) (z0y _)))) (fun _ _ _ _ _=>(z01 0)) (jlt [3] 6)))
   (z06 (s_if (z1b (o_eq hu) (z12 z3p rfl T.z3C (by decide +kernel) (z03 (z01 4) z07)) z0a (z0y _)) (z0b (z0s (zm2 (z1n T) (hr.mono (by decide)) rfl T.zlq T.z1e.mg rfl T.z1e.bd (p_op z2y (z01 2) (z3o (z03 (z0f (zbf T) T.z7C hr rfl (z03 (z01 3) z07)) z07)))))) z0V)
   (z06 (z8c (z09 (i:=5) (z0f (zdk T) T.zat hr rfl (z03 (p_ix (z01 2) (p_ix (z01 4) z0a (fun _ _=>rfl)) (fun _ _=>rfl)) (z03 (z01 3) z07))) z1V.nd rfl (Or.inl rfl) rfl (Or.inl rfl)))
   (z06 (zbC (i:=2) rfl (Or.inl rfl) (p_ix (z01 4) z0a (fun _ _=>rfl)) (p_ix (z01 5) z0a (fun _ _=>rfl)))
   (z0b (z8c (z09 (i:=3) (z0f (z5H T) T.z5e hr rfl (z03 (p_ix (z01 5) z0a (fun _ _=>rfl)) (z03 (z01 2) z07))) z1V.nd rfl (Or.inr rfl) rfl (Or.inl rfl)))))))))
   (z0b (z0s (z01 2)))))))
theorem zhF(T:Facts K mg A):FnOk P w K mg base CX0 4 A.zcp A.zcq ["rungs"] (spc K true z4w) :=
 Fun.dat (k:=3) (F:=z8C) T.zcv.fn z79 rfl rfl (fun cdv A outer s H E hr=>have hu:=hr.units
  (z06 (zbt (z09 (i:=1) (z3o z07) z79.nd rfl (Or.inl rfl) rfl (Or.inl rfl)))
   (z06 (z7g (rels:=[]) (g:=(Tg.one 2)) PassesOwn.never rfl (i_rev rfl T.zfS (z01 0)) (z13 z79.nd rfl (Or.inl rfl) (Or.inl rfl)) (z0b (s_insA (i:=1) rfl (Or.inl rfl) (z0f (z5H T) T.z5e hr rfl (z03 (z01 2) (z03 (z01 1) z07))))))
   (z0b (z0s (z01 1))))))
theorem z5I(T:Facts K mg A):FnOk P w K mg base CX0 5 A.zah A.zai ["rows"] (spc K true z1S) :=
 Fun.dat (k:=4) (F:=z6X) T.z5f.fn z45 rfl rfl (fun cdv A outer s H E hr=>have hu:=hr.units
  (z06 (z0o (rels:=[]) (z09 (i:=1) (z3o z07) z45.nd rfl (Or.inl rfl) rfl (Or.inl rfl)))
   (z06 (z7g (rels:=[]) (g:=(Tg.one 2)) PassesOwn.never rfl (z1I (z01 0)) (z13 z45.nd rfl (Or.inl rfl) (Or.inl rfl)) (z0b (z0o (rels:=[]) (z09 (i:=1) (z0f (zhF T) T.zcv hr rfl (z03 (z0f (zcf T) T.z9f hr rfl (z03 (z01 1) (z03 (z01 2) z07))) z07)) z45.nd rfl (Or.inl rfl) rfl (Or.inl rfl)))))
   (z0b (z0s (z01 1))))))
theorem z4a(T:Facts K mg A):FnOk P w K mg base CX0 6 A.z4N A.z4O ["rows", "tags"] (spc K true z1c) :=
 Fun.dat (k:=5) (F:=z30) T.z36.fn z7E rfl rfl (fun cdv A outer s H E hr=>have hu:=hr.units
  (z0b (z0s (z0f (z5I T) T.z5f hr rfl (z03 (z0O (g:=(Tg.many [0,1])) (z0c (N:=["row", "tag"]) (nt:=2) (js:=[]) ["rows", "tags"] (z05 z26).names rfl rfl rfl (by decide +kernel)) rfl (zgb rfl T.zgQ (z01 0) (z01 1)) (fun _ _ _ _ _=>z2U rfl (z0J (z0B (ndp ["row", "tag"]) rfl (Or.inl rfl) (Or.inr rfl)) (z0J (z0B (ndp ["row", "tag"]) rfl (Or.inl rfl) (Or.inr rfl)) z2T))) (jlt [0,1] 2) (fun _ _ _ _ _=>z0H) (fun _ _ _ _ _=>(p_op z2y (z1q z88 rfl T.z49 (by decide +kernel) (z03 (z01 0) z07)) (z1q z88 rfl T.z49 (by decide +kernel) (z03 (z01 1) z07)))) (jlt [] 2)) z07)))))
theorem z6l(T:Facts K mg A):FnOk P w K mg base CX0 2 A.z3A A.z3B ["rungs", "width"] (spc K true z0L) :=
 Fun.dat (k:=1) (F:=z2h) T.z3D.fn z6i rfl rfl (fun cdv A outer s H E hr=>have hu:=hr.units
  (z0b (z0s (z0O (g:=(Tg.one 0)) (z0c (N:=["rung", "width"]) (nt:=1) (js:=[1]) ["rungs", "width"] (z05 z1F).names rfl rfl rfl (by decide +kernel)) rfl (z1I (z01 0)) (fun _ _ _ _ _=>z13 (ndp ["rung", "width"]) rfl (Or.inl rfl) (Or.inr rfl)) (show 0<1 by decide) (fun _ _ _ _ _=>(zid (z1b o_ge (z0f (z1n T) T.z1e hr rfl (z03 (z01 0) z07)) (z01 1) (z0y _)))) (fun _ _ _ _ _=>(z2D (z01 0) (z3M (z01 1)) z3L)) (jlt [1] 2)))))
theorem zjh(T:Facts K mg A):FnOk P w K mg base CX0 6 A.zgH A.zgI ["hall"] (spc K true z57) :=
 Fun.dat (k:=5) (F:=zaY) T.zgR.fn zjd rfl rfl (fun cdv A outer s H E hr=>have hu:=hr.units
  (z0b (z0s (z0f (z5I T) T.z5f hr rfl (z03 (p_ix (z01 0) z0a (fun _ _=>rfl)) z07)))))
theorem z7b(T:Facts K mg A):FnOk P w K mg base CX0 1 A.zcr A.zcs ["rows", "width"] (spc K true z2s) :=
 Fun.dat (k:=0) (F:=z8D) T.z6s.fn zhE rfl rfl (fun cdv A outer s H E hr=>have hu:=hr.units
  (z0b (z0s (z0O (g:=(Tg.one 0)) (z0c (N:=["spot", "rows"]) (nt:=1) (js:=[0]) ["rows", "width"] (z05 z6j).names rfl rfl rfl (by decide +kernel)) rfl (z3q rfl T.z3e (z01 1)) (fun _ _ _ _ _=>z13 (ndp ["spot", "rows"]) rfl (Or.inr rfl) (Or.inl rfl)) (show 0<1 by decide) (fun _ _ _ _ _=>z0H) (fun _ _ _ _ _=>(z0O (g:=(Tg.one 0)) (by first|exact z0c (N:=["row", "spot"]) (nt:=1) (js:=[0]) ["spot", "rows"] [(".0",.local),("spot",.cell),("rows",.cell)] rfl rfl rfl (by decide +kernel)|exact z0c (N:=["row", "spot"]) (nt:=1) (js:=[0]) ["spot", "rows"] [(".0",.local),("rows",.cell),("spot",.cell)] rfl rfl rfl (by decide +kernel)) rfl (z1I (z01 1)) (fun _ _ _ _ _=>z13 (ndp ["row", "spot"]) rfl (Or.inl rfl) (Or.inr rfl)) (show 0<1 by decide) (fun _ _ _ _ _=>z0H) (fun _ _ _ _ _=>(p_ix (z01 0) (z01 1) (fun _ _=>rfl))) (jlt [0] 2))) (jlt [0] 2)))))
theorem zcg(T:Facts K mg A):FnOk P w K mg base CX0 2 A.z93 A.z94 ["rows"] (spc K true z1O) :=
 Fun.dat (k:=1) (F:=z3W) T.z9g.fn z4I rfl rfl (fun cdv A outer s H E hr=>have hu:=hr.units
  (z06 (z7g (rels:=[]) (g:=(Tg.many [1,2])) PassesOwn.never rfl (z8e rfl T.z2t (z01 0)) (z2U rfl (z0J (z0B (i:=1) z4I.nd rfl (Or.inl rfl) (Or.inl rfl)) (z0J (z0B (i:=2) z4I.nd rfl (Or.inl rfl) (Or.inl rfl)) z2T))) (z0b (s_if (PFW.pt (w_or (z1b (o_ne hu) (z0f (z1n T) T.z1e hr rfl (z03 (z01 2) z07)) (z01 1) (z0y _)) (zi8 (z84 (z12 (c_any rfl) rfl T.n_any (by decide +kernel) (z03 (z0O (g:=(Tg.one 0)) (z0c (N:=["number"]) (nt:=1) (js:=[]) ["rows", "place", "row"] (z05 z46).names rfl rfl rfl (by decide +kernel)) rfl (z1I (z2D (z01 2) (z3M (p_op z2y (z01 1) z0a)) z3L)) (fun _ _ _ _ _=>z13 (ndp ["number"]) rfl (Or.inl rfl) (Or.inr rfl)) (show 0<1 by decide) (fun _ _ _ _ _=>z0H) (fun _ _ _ _ _=>(zi6 (o_ne hu) (z01 0) z0a (z0y _))) (jlt [] 3)) z07)) (fun _=>rfl))))) (z0b (z0s p_bl)) z0V)))
   (z0b (z0s p_bl))))
theorem z6m(T:Facts K mg A):FnOk P w K mg base CX0 2 A.zgJ A.zgK ["row", "part"] (spc K true z2l) :=
 Fun.dat (k:=1) (F:=zaZ) T.z6t.fn zje rfl rfl (fun cdv A outer s H E hr=>have hu:=hr.units
  (z0b (z0s (z0O (g:=(Tg.one 0)) (z0c (N:=["number", "part"]) (nt:=1) (js:=[1]) ["row", "part"] (z05 z7P).names rfl rfl rfl (by decide +kernel)) rfl (z1I (z01 0)) (fun _ _ _ _ _=>z13 (ndp ["number", "part"]) rfl (Or.inl rfl) (Or.inr rfl)) (show 0<1 by decide) (fun _ _ _ _ _=>z0H) (fun _ _ _ _ _=>(z0f (zgC T) T.zfT hr rfl (z03 (z01 0) (z03 (z01 1) z07)))) (jlt [1] 2)))))
theorem zdl(T:Facts K mg A):FnOk P w K mg base CX0 7 A.zaj A.zak ["rows", "tags", "whole"] (spc K false z58) :=
 Fun.dat (k:=6) (F:=z3v) T.zau.fn z1B rfl rfl (fun cdv A outer s H E hr=>have hu:=hr.units
  (z06 (z0o (rels:=[]) (z09 (i:=3) (z12 z3p rfl T.z3C (by decide +kernel) (z03 (z01 0) z07)) z1B.nd rfl (Or.inr rfl) rfl (Or.inl rfl)))
   (z06 (z0o (rels:=[]) (z09 (i:=4) (z01 0) z1B.nd rfl (Or.inr rfl) rfl (Or.inl rfl)))
   (z06 (z0o (rels:=[]) (z09 (i:=5) (z01 1) z1B.nd rfl (Or.inl rfl) rfl (Or.inl rfl)))
   (z06 (zaI PassesOwn.never (z9A (z84 (z0f (zcg T) T.z9g hr rfl (z03 (z01 4) z07)) (fun _=>rfl))) (z06 (z0o (rels:=[]) (z09 (i:=6) (z0f (z7b T) T.z6s hr rfl (z03 (z0f (z5I T) T.z5f hr rfl (z03 (z0f (z7b T) T.z6s hr rfl (z03 (z01 4) (z03 (z01 3) z07))) z07)) (z03 (z01 3) z07))) z1B.nd rfl (Or.inl rfl) rfl (Or.inl rfl)))
   (z06 (z0o (rels:=[]) (z09 (i:=7) (z0f (z4a T) T.z36 hr rfl (z03 (z01 6) (z03 (z01 5) z07))) z1B.nd rfl (Or.inl rfl) rfl (Or.inl rfl)))
   (z06 (z0o (rels:=[]) (z09 (i:=4) (z0O (g:=(Tg.one 0)) (z0c (N:=["row", "many"]) (nt:=1) (js:=[3]) ["rows", "tags", "whole", "many", "square", "weights", "other", "both"] (z05 z2O).names rfl rfl rfl (by decide +kernel)) rfl (z1I (z01 7)) (fun _ _ _ _ _=>z13 (ndp ["row", "many"]) rfl (Or.inl rfl) (Or.inr rfl)) (show 0<1 by decide) (fun _ _ _ _ _=>z0H) (fun _ _ _ _ _=>(z2D (z01 0) z3L (z3M (z01 1)))) (jlt [3] 8)) z1B.nd rfl (Or.inr rfl) rfl (Or.inl rfl)))
   (z0b (z0o (rels:=[]) (z4g (i:=5) (g:=(Tg.one 0)) z1B.nd rfl rfl rfl (z0c (N:=["row", "many", "whole"]) (nt:=1) (js:=[3,2]) ["rows", "tags", "whole", "many", "square", "weights", "other", "both"] (z05 z2O).names rfl rfl rfl (by decide +kernel)) rfl (z1I (z01 7)) (fun _ _ _ _ _=>z13 (ndp ["row", "many", "whole"]) rfl (Or.inl rfl) (Or.inr rfl)) (show 0<1 by decide) (fun _ _ _ _ _=>z0H) (fun _ _ _ _ _=>(z0f (z6m T) T.z6t hr rfl (z03 (z2D (z01 0) (z3M (z01 1)) z3L) (z03 (z01 2) z07)))) (jlt [3,2] 8))))))))
   (z0b (z0s (z0O (g:=(Tg.many [0,1])) (z0c (N:=["place", "row", "square"]) (nt:=2) (js:=[4]) ["rows", "tags", "whole", "many", "square", "weights", "other", "both"] (z05 z2O).names rfl rfl rfl (by decide +kernel)) rfl (z8e rfl T.z2t (z01 5)) (fun _ _ _ _ _=>z2U rfl (z0J (z0B (ndp ["place", "row", "square"]) rfl (Or.inl rfl) (Or.inr rfl)) (z0J (z0B (ndp ["place", "row", "square"]) rfl (Or.inl rfl) (Or.inr rfl)) z2T))) (jlt [0,1] 2) (fun _ _ _ _ _=>z0H) (fun _ _ _ _ _=>(z5h (z03 (z01 1) (z03 (p_ix (p_ix (z01 2) (z01 0) (fun _ _=>rfl)) (z01 0) (fun _ _=>rfl)) z07)))) (jlt [4] 8)))))))))
theorem zhG(T:Facts K mg A):FnOk P w K mg base CX0 3 A.zct A.zcu ["one", "other"] (spc K true z31) :=
 Fun.dat (k:=2) (F:=z4x) T.zcw.fn z2P rfl rfl (fun cdv A outer s H E hr=>have hu:=hr.units
  (z06 (z0o (rels:=[]) (z09 (i:=2) (z0f (za2 T) T.z9d hr rfl (z03 (p_ix (z01 0) z0a (fun _ _=>rfl)) (z03 (p_ix (z01 1) z0a (fun _ _=>rfl)) z07))) z2P.nd rfl (Or.inl rfl) rfl (Or.inl rfl)))
   (z06 (z0o (rels:=[]) (z09 (i:=3) (p_ix (z01 2) z0a (fun _ _=>rfl)) z2P.nd rfl (Or.inl rfl) rfl (Or.inl rfl)))
   (z06 (z0o (rels:=[]) (z09 (i:=4) (p_op z7d (p_op z3g (p_ix (z01 0) z0a (fun _ _=>rfl)) (z01 3)) (p_ix (z01 1) z0a (fun _ _=>rfl))) z2P.nd rfl (Or.inl rfl) rfl (Or.inl rfl)))
   (z06 (z0o (rels:=[]) (z09 (i:=5) (z0f (z8U T) T.z7T hr rfl (z03 (p_ix (z01 0) z0a (fun _ _=>rfl)) (z03 (p_ix (z01 1) z0a (fun _ _=>rfl)) z07))) z2P.nd rfl (Or.inl rfl) rfl (Or.inl rfl)))
   (z06 (z0o (rels:=[]) (z09 (i:=6) (z0f (z8U T) T.z7T hr rfl (z03 (z0f (z1W T) T.z28 hr rfl (z03 (p_ix (z01 0) z0a (fun _ _=>rfl)) (z03 (p_op z7d (z9B (p_ix (z01 2) z0a (fun _ _=>rfl))) (p_op z3g (p_ix (z01 1) z0a (fun _ _=>rfl)) (z01 3))) z07))) (z03 (z0f (z1W T) T.z28 hr rfl (z03 (p_ix (z01 1) z0a (fun _ _=>rfl)) (z03 (p_op z7d (p_ix (z01 2) z0a (fun _ _=>rfl)) (p_op z3g (p_ix (z01 0) z0a (fun _ _=>rfl)) (z01 3))) z07))) z07))) z2P.nd rfl (Or.inl rfl) rfl (Or.inl rfl)))
   (z0b (z0s (z5h (z03 (z5h (z03 (z0f (z6m T) T.z6t hr rfl (z03 (z01 5) (z03 (z01 3) z07))) (z03 (z01 3) z07))) (z03 (z5h (z03 (z0f (z6m T) T.z6t hr rfl (z03 (z01 6) (z03 (z01 4) z07))) (z03 (z01 4) z07))) z07)))))))))))
theorem zdm(T:Facts K mg A):FnOk P w K mg base CX0 4 A.zal A.zam ["measured"] (spc K true z2M) :=
 Fun.dat (k:=3) (F:=z3w) T.zav.fn z35 rfl rfl (fun cdv A outer s H E hr=>have hu:=hr.units
  (z06 (zbt (z09 (i:=1) (z1q z88 rfl T.z49 (by decide +kernel) (z03 (z01 0) z07)) z35.nd rfl (Or.inl rfl) rfl (Or.inl rfl)))
   (z06 (ziv (g:=(Tg.one 2)) PassesOwn.never rfl (zhf rfl T.z3e (z12 z3p rfl T.z3C (by decide +kernel) (z03 (z01 1) z07))) (z13 z35.nd rfl (Or.inl rfl) (Or.inl rfl)) (z0b (ziv (g:=(Tg.one 3)) PassesOwn.never rfl (zhg rfl T.z3e (p_op z2y (z01 2) z0a) (z12 z3p rfl T.z3C (by decide +kernel) (z03 (z01 1) z07))) (z13 z35.nd rfl (Or.inl rfl) (Or.inl rfl)) (z06 (z8c (z09 (i:=4) (z0f (zhG T) T.zcw hr rfl (z03 (p_ix (z01 1) (z01 2) (fun _ _=>rfl)) (z03 (p_ix (z01 1) (z01 3) (fun _ _=>rfl)) z07))) z35.nd rfl (Or.inl rfl) rfl (Or.inl rfl)))
   (z06 (zbC (i:=1) rfl (Or.inl rfl) (z01 2) (p_ix (z01 4) z0a (fun _ _=>rfl)))
   (z0b (zbC (i:=1) rfl (Or.inl rfl) (z01 3) (p_ix (z01 4) z0a (fun _ _=>rfl)))))))))
   (z0b (z0s (z0O (g:=(Tg.many [0,1])) (z0c (N:=["weights", "part"]) (nt:=2) (js:=[]) ["measured", "found", "first", "second", "pair"] (z05 z5c).names rfl rfl rfl (by decide +kernel)) rfl (z1I (z01 1)) (fun _ _ _ _ _=>z2U rfl (z0J (z0B (ndp ["weights", "part"]) rfl (Or.inl rfl) (Or.inr rfl)) (z0J (z0B (ndp ["weights", "part"]) rfl (Or.inl rfl) (Or.inr rfl)) z2T))) (jlt [0,1] 2) (fun _ _ _ _ _=>z0H) (fun _ _ _ _ _=>(z5h (z03 (z0f (z6m T) T.z6t hr rfl (z03 (z01 0) (z03 (z01 1) z07))) (z03 (z01 1) z07)))) (jlt [] 5)))))))
theorem z7p(T:Facts K mg A):FnOk P w K mg base CX0 8 A.z95 A.z96 ["hall"] (spc K false z1k) :=
 Fun.dat (k:=7) (F:=z32) T.z5K.fn z1g rfl rfl (fun cdv A outer s H E hr=>have hu:=hr.units
  (z06 (z0o (rels:=[]) (z09 (i:=1) (p_ix (z01 0) z0a (fun _ _=>rfl)) z1g.nd rfl (Or.inr rfl) rfl (Or.inl rfl)))
   (z06 (z0o (rels:=[]) (z09 (i:=2) (z0f (zjh T) T.zgR hr rfl (z03 (z01 0) z07)) z1g.nd rfl (Or.inl rfl) rfl (Or.inl rfl)))
   (z06 (z0o (rels:=[]) (z09 (i:=3) (z12 z3p rfl T.z3C (by decide +kernel) (z03 (z01 2) z07)) z1g.nd rfl (Or.inr rfl) rfl (Or.inl rfl)))
   (z06 (z0o (rels:=[]) (z09 (i:=4) (z0f (z4a T) T.z36 hr rfl (z03 (z0f (z7b T) T.z6s hr rfl (z03 (z01 2) (z03 (z01 1) z07))) (z03 (z0O (g:=(Tg.one 0)) (z0c (N:=["spot", "kinds"]) (nt:=1) (js:=[1]) ["hall", "kinds", "rungs", "many", "both", "square", "whole", "bound"] (z05 z1C).names rfl rfl rfl (by decide +kernel)) rfl (z3q rfl T.z3e (z01 1)) (fun _ _ _ _ _=>z13 (ndp ["spot", "kinds"]) rfl (Or.inl rfl) (Or.inr rfl)) (show 0<1 by decide) (fun _ _ _ _ _=>z0H) (fun _ _ _ _ _=>(z0f (zcc T) T.z9c hr rfl (z03 (z01 1) (z03 (z01 0) z07)))) (jlt [1] 8)) z07))) z1g.nd rfl (Or.inl rfl) rfl (Or.inl rfl)))
   (z06 (z0o (rels:=[]) (z4g (i:=5) (g:=(Tg.one 0)) z1g.nd rfl rfl rfl (z0c (N:=["row", "many"]) (nt:=1) (js:=[3]) ["hall", "kinds", "rungs", "many", "both", "square", "whole", "bound"] (z05 z1C).names rfl rfl rfl (by decide +kernel)) rfl (z1I (z2D (z01 4) z3L (z3M (z01 3)))) (fun _ _ _ _ _=>z13 (ndp ["row", "many"]) rfl (Or.inl rfl) (Or.inr rfl)) (show 0<1 by decide) (fun _ _ _ _ _=>z0H) (fun _ _ _ _ _=>(z2D (z01 0) z3L (z3M (z01 1)))) (jlt [3] 8)))
   (z06 (z0o (rels:=[]) (z09 (i:=6) (z0f (zdj T) T.zas hr rfl (z03 (z0O (g:=(Tg.many [0,1])) (z0c (N:=["place", "row"]) (nt:=2) (js:=[]) ["hall", "kinds", "rungs", "many", "both", "square", "whole", "bound"] (z05 z1C).names rfl rfl rfl (by decide +kernel)) rfl (z8e rfl T.z2t (z01 5)) (fun _ _ _ _ _=>z2U rfl (z0J (z0B (ndp ["place", "row"]) rfl (Or.inl rfl) (Or.inr rfl)) (z0J (z0B (ndp ["place", "row"]) rfl (Or.inl rfl) (Or.inr rfl)) z2T))) (jlt [0,1] 2) (fun _ _ _ _ _=>z0H) (fun _ _ _ _ _=>(p_ix (z01 1) (z01 0) (fun _ _=>rfl))) (jlt [] 8)) z07)) z1g.nd rfl (Or.inl rfl) rfl (Or.inl rfl)))
   (z06 (z0o (rels:=[]) (z09 (i:=7) (z0f (zdl T) T.zau hr rfl (z03 (z01 5) (z03 (z0O (g:=(Tg.one 0)) (z0c (N:=["row", "many"]) (nt:=1) (js:=[3]) ["hall", "kinds", "rungs", "many", "both", "square", "whole", "bound"] (z05 z1C).names rfl rfl rfl (by decide +kernel)) rfl (z1I (z2D (z01 4) z3L (z3M (z01 3)))) (fun _ _ _ _ _=>z13 (ndp ["row", "many"]) rfl (Or.inl rfl) (Or.inr rfl)) (show 0<1 by decide) (fun _ _ _ _ _=>z0H) (fun _ _ _ _ _=>(z2D (z01 0) (z3M (z01 1)) z3L)) (jlt [3] 8)) (z03 (z01 6) z07)))) z1g.nd rfl (Or.inl rfl) rfl (Or.inl rfl)))
   (z0b (z0s (p_op z2y (z0f (zdm T) T.zav hr rfl (z03 (z01 7) z07)) (z0O (g:=(Tg.one 0)) (z0c (N:=["weights"]) (nt:=1) (js:=[]) ["hall", "kinds", "rungs", "many", "both", "square", "whole", "bound"] (z05 z1C).names rfl rfl rfl (by decide +kernel)) rfl (z1I (z0f (z6l T) T.z3D hr rfl (z03 (z01 4) (z03 (z01 3) z07)))) (fun _ _ _ _ _=>z13 (ndp ["weights"]) rfl (Or.inl rfl) (Or.inr rfl)) (show 0<1 by decide) (fun _ _ _ _ _=>z0H) (fun _ _ _ _ _=>(z5h (z03 (z01 0) (z03 z0a z07)))) (jlt [] 8)))))))))))))
theorem zji(T:Facts K mg A):FnOk P w K mg base CX0 9 A.zgL A.zgM ["hall"] (spc K true z7L) :=
 Fun.dat (k:=8) (F:=zb0) T.zgS.fn zjf rfl rfl (fun cdv A outer s H E hr=>have hu:=hr.units
  (z0b (z0s (z0O (g:=(Tg.many [0,1])) (z0c (N:=["weights", "part"]) (nt:=2) (js:=[]) ["hall"] (z05 z7Q).names rfl rfl rfl (by decide +kernel)) rfl (z1I (z0f (z7p T) T.z5K hr rfl (z03 (z01 0) z07))) (fun _ _ _ _ _=>z2U rfl (z0J (z0B (ndp ["weights", "part"]) rfl (Or.inl rfl) (Or.inr rfl)) (z0J (z0B (ndp ["weights", "part"]) rfl (Or.inl rfl) (Or.inr rfl)) z2T))) (jlt [0,1] 2) (fun _ _ _ _ _=>z0H) (fun _ _ _ _ _=>(z01 1)) (jlt [] 1)))))
theorem z8V(T:Facts K mg A):FnOk P w K mg base (CX1 P w) 3 A.z6p A.z6q ["measured", "numbers"] (spx K mg true z3Y) :=
 Fun.datX (k:=2) (F:=z3X) T.z6u.fn z3m rfl rfl (fun cdv A outer s H E hr=>have hu:=hr.units
  (z06 (s_if (z9A (z84 (z0f (za1 T) T.z9b hr rfl (z03 (z01 1) (z03 (z12 z3p rfl T.z3C (by decide +kernel) (z03 (z01 0) z07)) z07))) (fun _=>rfl))) (z0b (zge 3 rfl T.x_NoPlace rfl)) z0V)
   (z0b (z7g (rels:=[]) (g:=(Tg.many [2,3])) PassesOwn.leaving rfl (zgb rfl T.zgQ (z01 1) (z01 0)) (z2U rfl (z0J (z0B (i:=2) z3m.nd rfl (Or.inl rfl) (Or.inl rfl)) (z0J (z0B (i:=3) z3m.nd rfl (Or.inl rfl) (Or.inl rfl)) z2T))) (z0b (s_if (z1b (o_ne hu) (z0f (zgC T) T.zfT hr rfl (z03 (z01 2) (z03 (p_ix (z01 3) z0a (fun _ _=>rfl)) z07))) (z01 2) (z0y _)) (z0b (zge 3 rfl T.x_NoPlace rfl)) z0V))))))
theorem z5l(T:Facts K mg A):FnOk P w K mg base (CX1 P w) 9 A.z7w A.z7x ["hall", "numbers"] (spx K mg true z3c) :=
 Fun.datX (k:=8) (F:=z4y) T.z4P.fn z6k rfl rfl (fun cdv A outer s H E hr=>have hu:=hr.units
  (z06 (z0o (rels:=[]) (z09 (i:=2) (z0f (z7p T) T.z5K hr rfl (z03 (z01 0) z07)) z6k.nd rfl (Or.inl rfl) rfl (Or.inl rfl)))
   (z06 (zlZ (z8V T) T.z6u hr rfl (z03 (z01 2) (z03 (z01 1) z07)))
   ziz)))
theorem z1o(T:Facts K mg A):FnOk P w K mg base CX0 1 A.z7y A.z7z ["_law_script", "_law_k"] (spc K true z0G) :=
 Fun.dat (k:=0) (F:=z4z) T.z1h.fn zbc rfl rfl (fun cdv A outer s H E hr=>have hu:=hr.units
  (z06 (s_if (z1b o_lt (z01 1) (z12 z3p rfl T.z3C (by decide +kernel) (z03 (z01 0) z07)) (z0y _)) (z0b (z0s (p_ix (z01 0) (z01 1) (fun _ _=>rfl)))) z0V)
   (z06 (s_if (z1b (o_eq hu) (z01 0) (z3o z07) (z0y _)) (z0b (z0s z0a)) z0V)
   (z0b (z0s (p_op z2y (p_op z7d (p_ix (z01 0) (p_op z1Y (z01 1) (z12 z3p rfl T.z3C (by decide +kernel) (z03 (z01 0) z07))) (fun _ _=>rfl)) z0a) (z01 1)))))))
theorem zch(T:Facts K mg A):FnOk P w K mg base CX0 1 A.z97 A.z98 ["_law_cell", "_law_mode"] (spc K true z2i) :=
 Fun.dat (k:=0) (F:=z33) T.z9h.fn z3d rfl rfl (fun cdv A outer s H E hr=>have hu:=hr.units
  (z06 (s_if (z1b (o_eq hu) (z01 1) z0a (z0y _)) (z06 (z0o (rels:=[]) (z09 (i:=2) (p_op z1Y (z01 0) (p_op zbr z0a z0a)) z3d.nd rfl (Or.inl rfl) rfl (Or.inl rfl)))
   (z06 (s_if (z1b (o_eq hu) (p_op z1Y (p_op z3g (z01 0) (p_op zbr z0a z0a)) z0a) z0a (z0y _)) (z0b (z0s (z9B (z01 2)))) z0V)
   (z0b (z0s (z01 2))))) z0V)
   (z06 (z0o (rels:=[]) (z09 (i:=3) (p_ix (z3o (z03 z0a (z03 z0a z07))) (z01 1) (fun _ _=>rfl)) z3d.nd rfl (Or.inl rfl) rfl (Or.inl rfl)))
   (z06 (z0o (rels:=[]) (z09 (i:=2) (p_op z1Y (z01 0) (z01 3)) z3d.nd rfl (Or.inl rfl) rfl (Or.inl rfl)))
   (z06 (s_if (z1b o_gt (z01 2) (p_op z3g (z01 3) z0a) (z0y _)) (z0b (z0s (p_op zg0 (z01 2) (z01 3)))) z0V)
   (z0b (z0s (z01 2))))))))
theorem zjj(T:Facts K mg A):FnOk P w K mg base CX0 2 A.zgN A.zgO ["_law_script", "_law_at", "_law_size", "_law_mode"] (spc K true z3Z) :=
 Fun.dat (k:=1) (F:=zb1) T.zgT.fn zjg rfl rfl (fun cdv A outer s H E hr=>have hu:=hr.units
  (z0b (z0s (z0O (g:=(Tg.one 0)) (z0c (N:=["_law_k", "_law_script", "_law_at", "_law_mode"]) (nt:=1) (js:=[0,1,3]) ["_law_script", "_law_at", "_law_size", "_law_mode"] (z05 z7R).names rfl rfl rfl (by decide +kernel)) rfl (z3q rfl T.z3e (z01 2)) (fun _ _ _ _ _=>z13 (ndp ["_law_k", "_law_script", "_law_at", "_law_mode"]) rfl (Or.inl rfl) (Or.inr rfl)) (show 0<1 by decide) (fun _ _ _ _ _=>z0H) (fun _ _ _ _ _=>(z0f (zch T) T.z9h hr rfl (z03 (z0f (z1o T) T.z1h hr rfl (z03 (z01 1) (z03 (p_op z2y (z01 2) (z01 0)) z07))) (z03 (z01 3) z07)))) (jlt [0,1,3] 4)))))
theorem zdn(T:Facts K mg A):FnOk P w K mg base CX0 3 A.zan A.zao ["_law_script"] (spc K true z6Y) :=
 Fun.dat (k:=2) (F:=z9X) T.zaw.fn z1m rfl rfl (fun cdv A outer s H E hr=>have hu:=hr.units
  (z06 (z0o (rels:=[]) (z09 (i:=1) (p_ix (z3o (z03 z0a (z03 z0a (z03 z0a (z03 z0a (z03 z0a z07)))))) (p_op z1Y (z0f (z1o T) T.z1h hr rfl (z03 (z01 0) (z03 z0a z07))) z0a) (fun _ _=>rfl)) z1m.nd rfl (Or.inr rfl) rfl (Or.inl rfl)))
   (z06 (z0o (rels:=[]) (z09 (i:=2) (p_op z2y z0a (p_op z1Y (z0f (z1o T) T.z1h hr rfl (z03 (z01 0) (z03 z0a z07))) z0a)) z1m.nd rfl (Or.inr rfl) rfl (Or.inl rfl)))
   (z06 (z0o (rels:=[]) (z09 (i:=3) (p_op z1Y (z0f (z1o T) T.z1h hr rfl (z03 (z01 0) (z03 z0a z07))) z0a) z1m.nd rfl (Or.inl rfl) rfl (Or.inl rfl)))
   (z06 (s_if (z1b (o_eq hu) (p_op z1Y (z0f (z1o T) T.z1h hr rfl (z03 (z01 0) (z03 z0a z07))) z0a) z0a (z0y _)) (z06 (z0o (rels:=[]) (z09 (i:=2) z0a z1m.nd rfl (Or.inr rfl) rfl (Or.inl rfl)))
   (z06 (z0o (rels:=[]) (z09 (i:=3) z0a z1m.nd rfl (Or.inl rfl) rfl (Or.inl rfl)))
   (z0b (z0o (rels:=[]) (z09 (i:=1) z0a z1m.nd rfl (Or.inr rfl) rfl (Or.inl rfl)))))) z0V)
   (z06 (s_if (z1b (o_eq hu) (z01 1) z0a (z0y _)) (z06 (z0o (rels:=[]) (z09 (i:=2) (p_op z2y z0a (p_op z1Y (z01 2) z0a)) z1m.nd rfl (Or.inr rfl) rfl (Or.inl rfl)))
   (z0b (z0o (rels:=[]) (z09 (i:=3) (p_op z1Y (z01 3) z0a) z1m.nd rfl (Or.inl rfl) rfl (Or.inl rfl))))) z0V)
   (z0b (z0s (z5h (z03 (z01 2) (z03 (z0O (g:=(Tg.one 0)) (z0c (N:=["_law_k", "_law_script", "_law_kinds", "_law_mode"]) (nt:=1) (js:=[0,2,1]) ["_law_script", "_law_mode", "_law_kinds", "_law_many"] (z05 z5d).names rfl rfl rfl (by decide +kernel)) rfl (z3q rfl T.z3e (z01 3)) (fun _ _ _ _ _=>z13 (ndp ["_law_k", "_law_script", "_law_kinds", "_law_mode"]) rfl (Or.inl rfl) (Or.inr rfl)) (show 0<1 by decide) (fun _ _ _ _ _=>z0H) (fun _ _ _ _ _=>(z0f (zjj T) T.zgT hr rfl (z03 (z01 1) (z03 (p_op z2y z0a (p_op z7d (z01 2) (z01 0))) (z03 (z01 2) (z03 (z01 3) z07)))))) (jlt [0,2,1] 4)) z07)))))))))))
theorem zci(T:Facts K mg A):FnOk P w K mg base CX0 1 A.z99 A.z9a ["_law_sizes", "_law_way", "_law_cell"] (spc K true z1z) :=
 Fun.dat (k:=0) (F:=z40) T.z9i.fn z4L rfl rfl (fun cdv A outer s H E hr=>have hu:=hr.units
  (z06 (zbt (z4g (i:=3) (g:=(Tg.one 0)) z4L.nd rfl rfl rfl (z0c (N:=["_law_size"]) (nt:=1) (js:=[]) ["_law_sizes", "_law_way", "_law_cell", "_law_made", "_law_at"] (z05 z48).names rfl rfl rfl (by decide +kernel)) rfl (z1I (z01 0)) (fun _ _ _ _ _=>z13 (ndp ["_law_size"]) rfl (Or.inl rfl) (Or.inr rfl)) (show 0<1 by decide) (fun _ _ _ _ _=>z0H) (fun _ _ _ _ _=>z0a) (jlt [] 5)))
   (z06 (z0o (rels:=[]) (z09 (i:=4) (p_op z1Y (p_op z3g (z01 2) z0a) (z12 z3p rfl T.z3C (by decide +kernel) (z03 (z01 0) z07))) z4L.nd rfl (Or.inl rfl) rfl (Or.inl rfl)))
   (z06 (s_if (z1b (o_eq hu) (z01 1) z0a (z0y _)) (z0b (z0s (p_op z2y (z01 3) (z3o (z03 z0a z07))))) z0V)
   (z06 (s_if (z1b (o_eq hu) (z01 1) z0a (z0y _)) (z0b (z0s (z2D (z01 3) (z3M z0a) z3L))) z0V)
   (z06 (s_if (z1b (o_eq hu) (z01 1) z0a (z0y _)) (z06 (zbC (i:=3) rfl (Or.inl rfl) (z01 4) (p_ix (z3o (z03 p_bl (z03 zi4 (z03 p_non z07)))) (p_op z1Y (z01 2) z0a) (fun _ _=>rfl)))
   (z0b (z0s (z01 3)))) z0V)
   (z06 (s_if (PFW.pt (w_and (z1b o_gt (z01 1) z0a (z0y _)) (w_and1 (z1b o_gt (p_ix (z01 0) (z01 4) (fun _ _=>rfl)) z0a (z0y _))))) (z06 (zbC (i:=3) rfl (Or.inl rfl) (z01 4) (p_ix (z3o (z03 (z9B z0a) (z03 (p_ix (z01 0) (z01 4) (fun _ _=>rfl)) (z03 (p_op z2y (p_ix (z01 0) (z01 4) (fun _ _=>rfl)) (p_op z1Y (z01 2) (p_op zbr z0a z0a))) (z03 (p_op zg0 (z9B z0a) (p_op z1Y (z01 2) (p_op zbr z0a z0a))) z07))))) (p_op z2y (p_op z1Y (z01 1) z0a) (p_op z1Y (z01 2) z0a)) (fun _ _=>rfl)))
   (z0b (z0s (z01 3)))) z0V)
   (z0b (z0s (p_ix (z3o (z03 (z1q zg4 rfl T.z7S (by decide +kernel) (z03 (z01 3) z07)) (z03 p_non (z03 z0a (z03 zi4 (z03 p_dic z07)))))) (p_op z1Y (z01 2) z0a) (fun _ _=>rfl)))))))))))
theorem ok_law(T:Facts K mg A):FnOk P w K mg base CX0 10 A.a_law A.zgP ["_law_script"] (spc K true zgt) :=
 Fun.dat (k:=9) (F:=ziY) T.f_law.fn z4M rfl rfl (fun cdv A outer s H E hr=>have hu:=hr.units
  (z06 (z0o (rels:=[]) (z09 (i:=1) (z0f (zdn T) T.zaw hr rfl (z03 (z01 0) z07)) z4M.nd rfl (Or.inl rfl) rfl (Or.inl rfl)))
   (z06 (z0o (rels:=[]) (z09 (i:=2) (z0f (zdi T) T.zar hr rfl (z03 (p_ix (z01 1) z0a (fun _ _=>rfl)) (z03 (z0O (g:=(Tg.one 0)) (z0c (N:=["_law_bill"]) (nt:=1) (js:=[]) ["_law_script", "_law_drawn", "_law_hall", "_law_bad", "_law_refused", "e"] (z05 zgB).names rfl rfl rfl (by decide +kernel)) rfl (z1I (p_ix (z01 1) z0a (fun _ _=>rfl))) (fun _ _ _ _ _=>z13 (ndp ["_law_bill"]) rfl (Or.inl rfl) (Or.inr rfl)) (show 0<1 by decide) (fun _ _ _ _ _=>z0H) (fun _ _ _ _ _=>(z1q z88 rfl T.z49 (by decide +kernel) (z03 (z01 0) z07))) (jlt [] 6)) z07))) z4M.nd rfl (Or.inl rfl) rfl (Or.inl rfl)))
   (z06 (z0o (rels:=[]) (z09 (i:=3) (z0f (zci T) T.z9i hr rfl (z03 (z0f (zji T) T.zgS hr rfl (z03 (z01 2) z07)) (z03 (p_op z1Y (z0f (z1o T) T.z1h hr rfl (z03 (z01 0) (z03 z0a z07))) z0a) (z03 (z0f (z1o T) T.z1h hr rfl (z03 (z01 0) (z03 z0a z07))) z07)))) z4M.nd rfl (Or.inl rfl) rfl (Or.inl rfl)))
   (z06 (z0o (rels:=[]) (z09 (i:=4) z0a z4M.nd rfl (Or.inl rfl) rfl (Or.inl rfl)))
   (z06 (s_try (z5l T) T.z4P hr rfl (fun _=>(z03 (z01 2) (z03 (z01 3) z07))) rfl T.h_NoPlace (fun _=>(z0b (z0o (rels:=[]) (z09 (i:=4) (p_op z2y (z01 4) z0a) z4M.nd rfl (Or.inl rfl) rfl (Or.inl rfl))))))
   (z06 (zm0 5 (z5l T) T.z4P hr rfl (fun _=>(z03 (z01 2) (z03 (z01 3) z07))) rfl T.h_HallError (fun _=>(z0b (z0o (rels:=[]) (z09 (i:=4) (p_op z2y (z01 4) (z1q c_int rfl T.n_int (by decide +kernel) (z03 (p_isx 5 rfl T.z27 rfl T.zbg) z07))) z4M.nd rfl (Or.inl rfl) rfl (Or.inl rfl))))) z4M.nd)
   (z0b (z0s (zi6 (o_eq hu) (z01 4) z0a (z0y _)))))))))))
end
theorem zjk{l:PySem.W.OpenLaw}{w:World}{K:PySem.W.Frag}{h:Heap}{mg:Str→Option Value}{fa:Addr}(X:K.In h)(G:h.Ns mainGlobals mg)(hfa:mg "law" = some (.ref fa))
  {a0:Addr} (h0:Dh K "is_whole" z5D a0)
  {a1:Addr} (h1:Dh K "is_row" z6g a1)
  {a2:Addr} (h2:Dh K "unit_row" z41 a2)
  {a3:Addr} (h3:Dh K "added" z7N a3)
  {a4:Addr} (h4:Dh K "taken" z7O a4)
  {a5:Addr} (h5:Dh K "scaled" z6h a5)
  {a6:Addr} (h6:Dh K "head_at" z74 a6)
  {a7:Addr} (h7:Dh K "are_kinds" z4E a7)
  {a8:Addr} (h8:Dh K "is_bill" z5a a8)
  {a9:Addr} (h9:Dh K "need_kinds" z42 a9)
  {a10:Addr} (h10:Dh K "need_bill" z4F a10)
  {a11:Addr} (h11:Dh K "hall_by" z5b a11)
  {a12:Addr} (h12:Dh K "hall_of" z75 a12)
  {a13:Addr} (h13:Dh K "bridge" z4G a13)
  {a14:Addr} (h14:Dh K "rest" zde a14)
  {a15:Addr} (h15:Dh K "product" z76 a15)
  {a16:Addr} (h16:Dh K "lowering" z5F a16)
  {a17:Addr} (h17:Dh K "lowered" z77 a17)
  {a18:Addr} (h18:Dh K "crossed" z78 a18)
  {a19:Addr} (h19:Dh K "turned_up" z4H a19)
  {a20:Addr} (h20:Dh K "with_row" z44 a20)
  {a21:Addr} (h21:Dh K "evened" z8S a21)
  {a22:Addr} (h22:Dh K "climbed" z7a a22)
  {a23:Addr} (h23:Dh K "tagged_stair" z26 a23)
  {a24:Addr} (h24:Dh K "tags_at_nought" z1F a24)
  {a25:Addr} (h25:Dh K "stair" zbb a25)
  {a26:Addr} (h26:Dh K "turned" z6j a26)
  {a27:Addr} (h27:Dh K "is_slant" z46 a27)
  {a28:Addr} (h28:Dh K "rests" z7P a28)
  {a29:Addr} (h29:Dh K "slanted" z2O a29)
  {a30:Addr} (h30:Dh K "linked" z8T a30)
  {a31:Addr} (h31:Dh K "chained" z5c a31)
  {a32:Addr} (h32:Dh K "measures" z1C a32)
  {a33:Addr} (h33:Dh K "parts" z7Q a33)
  {a34:Addr} (h34:Dh K "need_place" z47 a34)
  {a35:Addr} (h35:Dh K "basket_at" z4J a35)
  {a36:Addr} (h36:Dh K "_law_cell_at" z4K a36)
  {a37:Addr} (h37:Dh K "_law_number" z5G a37)
  {a38:Addr} (h38:Dh K "_law_row" z7R a38)
  {a39:Addr} (h39:Dh K "_law_bills" z5d a39)
  {a40:Addr} (h40:Dh K "_law_spoilt" z48 a40)
  {a41:Addr} (h41:Dh K "law" zgB a41)
  (z_ValueError:PySem.W.nsIn K mainGlobals "ValueError" = some none)
  (z_abs:PySem.W.nsIn K mainGlobals "abs" = some none)
  (z_all:PySem.W.nsIn K mainGlobals "all" = some none)
  (z_any:PySem.W.nsIn K mainGlobals "any" = some none)
  (z_bool:PySem.W.nsIn K mainGlobals "bool" = some none)
  (z_enumerate:PySem.W.nsIn K mainGlobals "enumerate" = some none)
  (z_int:PySem.W.nsIn K mainGlobals "int" = some none)
  (z_isinstance:PySem.W.nsIn K mainGlobals "isinstance" = some none)
  (z_len:PySem.W.nsIn K mainGlobals "len" = some none)
  (z_list:PySem.W.nsIn K mainGlobals "list" = some none)
  (z_range:PySem.W.nsIn K mainGlobals "range" = some none)
  (z_reversed:PySem.W.nsIn K mainGlobals "reversed" = some none)
  (z_sorted:PySem.W.nsIn K mainGlobals "sorted" = some none)
  (z_tuple:PySem.W.nsIn K mainGlobals "tuple" = some none)
  (z_zip:PySem.W.nsIn K mainGlobals "zip" = some none)
  {z2H:Tok} (y_MOST_BILLS:PySem.W.nsIn K mainGlobals "MOST_BILLS" = some (some (.int 8 z2H)))
  {z2I:Tok} (y_MOST_KINDS:PySem.W.nsIn K mainGlobals "MOST_KINDS" = some (some (.int 6 z2I)))
  {x_HallError:Addr} (w_HallError:PySem.W.nsIn K mainGlobals "HallError" = some (some (.ref x_HallError)))
  {x_NoPlace:Addr} (w_NoPlace:PySem.W.nsIn K mainGlobals "NoPlace" = some (some (.ref x_NoPlace)))
  (u_NoPlace:PySem.W.excIn K x_NoPlace bmVE "ValueError.__new__" = true) (v_NoPlace:PySem.W.kitCls K (.ref x_NoPlace) (.type "ValueError")=some true)
  (o_NoPlace_HallError:PySem.W.exmOne K (.ref x_NoPlace) (.ref x_HallError)=some true)
  (o_NoPlace_NoPlace:PySem.W.exmOne K (.ref x_NoPlace) (.ref x_NoPlace)=some true)
  : ∃ fd:FuncData,(∀(s:Shared) (u:Value),BindsTo s fd ⟨[u],[]⟩ [("_law_script",u)])∧∀ base:Heap,K.In base→base.Ns mainGlobals mg→FnOk l.prog w K mg base CX0 10 fa fd ["_law_script"] (spc K true zgt):=by
 obtain⟨d0,q0,b0⟩:=h0.df (ps:=["value"]) X G (fun _ _ _ _ _ _=>us1 (fun _=>rfl))
 obtain⟨d1,q1,b1⟩:=h1.df (ps:=["value", "length"]) X G (fun _ _ _ _ _ _=>us2 (fun _ _=>rfl))
 obtain⟨d2,q2,b2⟩:=h2.df (ps:=["length", "one_at"]) X G (fun _ _ _ _ _ _=>us2 (fun _ _=>rfl))
 obtain⟨d3,q3,b3⟩:=h3.df (ps:=["one", "other"]) X G (fun _ _ _ _ _ _=>us2 (fun _ _=>rfl))
 obtain⟨d4,q4,b4⟩:=h4.df (ps:=["one", "other"]) X G (fun _ _ _ _ _ _=>us2 (fun _ _=>rfl))
 obtain⟨d5,q5,b5⟩:=h5.df (ps:=["row", "often"]) X G (fun _ _ _ _ _ _=>us2 (fun _ _=>rfl))
 obtain⟨d6,q6,b6⟩:=h6.df (ps:=["row"]) X G (fun _ _ _ _ _ _=>us1 (fun _=>rfl))
 obtain⟨d7,q7,b7⟩:=h7.df (ps:=["value"]) X G (fun _ _ _ _ _ _=>us1 (fun _=>rfl))
 obtain⟨d8,q8,b8⟩:=h8.df (ps:=["value", "kinds"]) X G (fun _ _ _ _ _ _=>us2 (fun _ _=>rfl))
 obtain⟨d9,q9,b9⟩:=h9.df (ps:=["kinds"]) X G (fun _ _ _ _ _ _=>us1 (fun _=>rfl))
 obtain⟨d10,q10,b10⟩:=h10.df (ps:=["bill", "kinds"]) X G (fun _ _ _ _ _ _=>us2 (fun _ _=>rfl))
 obtain⟨d11,q11,b11⟩:=h11.df (ps:=["kinds", "rows"]) X G (fun _ _ _ _ _ _=>us2 (fun _ _=>rfl))
 obtain⟨d12,q12,b12⟩:=h12.df (ps:=["kinds", "bills"]) X G (fun _ _ _ _ _ _=>us2 (fun _ _=>rfl))
 obtain⟨d13,q13,b13⟩:=h13.df (ps:=["a", "b"]) X G (fun _ _ _ _ _ _=>us2 (fun _ _=>rfl))
 obtain⟨d14,q14,b14⟩:=h14.df (ps:=["a", "part"]) X G (fun _ _ _ _ _ _=>us2 (fun _ _=>rfl))
 obtain⟨d15,q15,b15⟩:=h15.df (ps:=["numbers"]) X G (fun _ _ _ _ _ _=>us1 (fun _=>rfl))
 obtain⟨d16,q16,b16⟩:=h16.df (ps:=["row", "rungs"]) X G (fun _ _ _ _ _ _=>us2 (fun _ _=>rfl))
 obtain⟨d17,q17,b17⟩:=h17.df (ps:=["row", "rungs"]) X G (fun _ _ _ _ _ _=>us2 (fun _ _=>rfl))
 obtain⟨d18,q18,b18⟩:=h18.df (ps:=["rung", "row"]) X G (fun _ _ _ _ _ _=>us2 (fun _ _=>rfl))
 obtain⟨d19,q19,b19⟩:=h19.df (ps:=["row"]) X G (fun _ _ _ _ _ _=>us1 (fun _=>rfl))
 obtain⟨d20,q20,b20⟩:=h20.df (ps:=["rungs", "row"]) X G (fun _ _ _ _ _ _=>us2 (fun _ _=>rfl))
 obtain⟨d21,q21,b21⟩:=h21.df (ps:=["rungs"]) X G (fun _ _ _ _ _ _=>us1 (fun _=>rfl))
 obtain⟨d22,q22,b22⟩:=h22.df (ps:=["rows"]) X G (fun _ _ _ _ _ _=>us1 (fun _=>rfl))
 obtain⟨d23,q23,b23⟩:=h23.df (ps:=["rows", "tags"]) X G (fun _ _ _ _ _ _=>us2 (fun _ _=>rfl))
 obtain⟨d24,q24,b24⟩:=h24.df (ps:=["rungs", "width"]) X G (fun _ _ _ _ _ _=>us2 (fun _ _=>rfl))
 obtain⟨d25,q25,b25⟩:=h25.df (ps:=["hall"]) X G (fun _ _ _ _ _ _=>us1 (fun _=>rfl))
 obtain⟨d26,q26,b26⟩:=h26.df (ps:=["rows", "width"]) X G (fun _ _ _ _ _ _=>us2 (fun _ _=>rfl))
 obtain⟨d27,q27,b27⟩:=h27.df (ps:=["rows"]) X G (fun _ _ _ _ _ _=>us1 (fun _=>rfl))
 obtain⟨d28,q28,b28⟩:=h28.df (ps:=["row", "part"]) X G (fun _ _ _ _ _ _=>us2 (fun _ _=>rfl))
 obtain⟨d29,q29,b29⟩:=h29.df (ps:=["rows", "tags", "whole"]) X G (fun _ _ _ _ _ _=>us3 (fun _ _ _=>rfl))
 obtain⟨d30,q30,b30⟩:=h30.df (ps:=["one", "other"]) X G (fun _ _ _ _ _ _=>us2 (fun _ _=>rfl))
 obtain⟨d31,q31,b31⟩:=h31.df (ps:=["measured"]) X G (fun _ _ _ _ _ _=>us1 (fun _=>rfl))
 obtain⟨d32,q32,b32⟩:=h32.df (ps:=["hall"]) X G (fun _ _ _ _ _ _=>us1 (fun _=>rfl))
 obtain⟨d33,q33,b33⟩:=h33.df (ps:=["hall"]) X G (fun _ _ _ _ _ _=>us1 (fun _=>rfl))
 obtain⟨d34,q34,b34⟩:=h34.df (ps:=["measured", "numbers"]) X G (fun _ _ _ _ _ _=>us2 (fun _ _=>rfl))
 obtain⟨d35,q35,b35⟩:=h35.df (ps:=["hall", "numbers"]) X G (fun _ _ _ _ _ _=>us2 (fun _ _=>rfl))
 obtain⟨d36,q36,b36⟩:=h36.df (ps:=["_law_script", "_law_k"]) X G (fun _ _ _ _ _ _=>us2 (fun _ _=>rfl))
 obtain⟨d37,q37,b37⟩:=h37.df (ps:=["_law_cell", "_law_mode"]) X G (fun _ _ _ _ _ _=>us2 (fun _ _=>rfl))
 obtain⟨d38,q38,b38⟩:=h38.df (ps:=["_law_script", "_law_at", "_law_size", "_law_mode"]) X G (fun _ _ _ _ _ _=>us4 (fun _ _ _ _=>rfl))
 obtain⟨d39,q39,b39⟩:=h39.df (ps:=["_law_script"]) X G (fun _ _ _ _ _ _=>us1 (fun _=>rfl))
 obtain⟨d40,q40,b40⟩:=h40.df (ps:=["_law_sizes", "_law_way", "_law_cell"]) X G (fun _ _ _ _ _ _=>us3 (fun _ _ _=>rfl))
 obtain⟨d41,q41,b41⟩:=h41.df (ps:=["_law_script"]) X G (fun _ _ _ _ _ _=>us1 (fun _=>rfl))
 have key:∃ A:Adr,Facts K mg A∧∀(s:Shared) (u:Value),BindsTo s A.zgP ⟨[u],[]⟩ [("_law_script",u)]:=⟨⟨a0,d0,a1,d1,a2,d2,a3,d3,a4,d4,a5,d5,a6,d6,a7,d7,a8,d8,a9,d9,a10,d10,a11,d11,a12,d12,a13,d13,a14,d14,a15,d15,a16,d16,a17,d17,a18,d18,a19,d19,a20,d20,a21,d21,a22,d22,a23,d23,a24,d24,a25,d25,a26,d26,a27,d27,a28,d28,a29,d29,a30,d30,a31,d31,a32,d32,a33,d33,a34,d34,a35,d35,a36,d36,a37,d37,a38,d38,a39,d39,a40,d40,a41,d41,z2H,z2I,x_HallError,x_NoPlace⟩,⟨PySem.W.mg_none_of X G z_ValueError,PySem.W.mg_none_of X G z_abs,PySem.W.mg_none_of X G z_all,PySem.W.mg_none_of X G z_any,PySem.W.mg_none_of X G z_bool,PySem.W.mg_none_of X G z_enumerate,PySem.W.mg_none_of X G z_int,PySem.W.mg_none_of X G z_isinstance,PySem.W.mg_none_of X G z_len,PySem.W.mg_none_of X G z_list,PySem.W.mg_none_of X G z_range,PySem.W.mg_none_of X G z_reversed,PySem.W.mg_none_of X G z_sorted,PySem.W.mg_none_of X G z_tuple,PySem.W.mg_none_of X G z_zip,PySem.W.mg_of X G y_MOST_BILLS,PySem.W.mg_of X G y_MOST_KINDS,q0,q1,q2,q3,q4,q5,q6,q7,q8,q9,q10,q11,q12,q13,q14,q15,q16,q17,q18,q19,q20,q21,q22,q23,q24,q25,q26,q27,q28,q29,q30,q31,q32,q33,q34,q35,q36,q37,q38,q39,q40,q41,⟨PySem.W.mg_of X G w_NoPlace,u_NoPlace,v_NoPlace⟩,ziB (PySem.W.mg_of X G w_HallError) (by intro n C hn hC;unfold h_HallError at hn;simp only[Bool.or_eq_true,beq_iff_eq]at hn;first|(rcases hn with rfl<;>first|(cases hC.symm.trans (PySem.W.mg_of X G w_NoPlace);exact⟨o_NoPlace_HallError,v_NoPlace⟩))),ziB (PySem.W.mg_of X G w_NoPlace) (by intro n C hn hC;unfold h_NoPlace at hn;simp only[Bool.or_eq_true,beq_iff_eq]at hn;first|(rcases hn with rfl<;>first|(cases hC.symm.trans (PySem.W.mg_of X G w_NoPlace);exact⟨o_NoPlace_NoPlace,v_NoPlace⟩)))⟩,fun s u => .of_eq (b41 [u] rfl)⟩
 obtain⟨A,FF,hb⟩:=key
 have e:=hfa.symm.trans FF.f_law.mg
 cases e
 exact⟨A.zgP,hb,fun base _ _=>ok_law FF⟩
namespace H
noncomputable section
open PySem PySem.W PySem.Calls PyProof.Rows
abbrev pw:Program:=PySem.Challenge.pw_changehall_k19_places_refused
abbrev vs(s:String)(t:Nat):Value := .str (Str.ofString s) t
abbrev de(P:Params)(s:String)(t:Nat)(v:Value):DictEntry:=⟨PyData.keyHash P (Str.ofString s),.str (Str.ofString s) t,v⟩
abbrev N:=BT.node
abbrev E:=BT.nil
abbrev ins(t:BT)(l:List (Nat×Obj)):BT:=l.foldl (fun t x=>t.ins x.1 x.2) t
def fdT(s:Stmt)(g:Addr)(md cd:Value):FuncData:=match s with
 | .FunctionDef name args body _ _ _ scope _ _ _=>{ name:=name,qualname:=name,params:=args,body := .stmts body,scope:=scope,globals:=g,closure:=[],defaults := .none,kwdefaults := .none,pyModule:=md,code:=cd }
 | _=>default
abbrev tu(l:List Value):Obj:=⟨.type "tuple",none,.seq l.toArray 0,#[]⟩
abbrev fi(l:List Value):Obj:=⟨.none,none,.fields l.toArray,#[]⟩
abbrev fo(c:Value)(i:Nat)(g:Addr)(md cd:Value):Obj:=⟨c,none,.func (fdT (top i) g md cd),#[]⟩
abbrev co(a f:String)(t0 t1 t2:Nat)(l n z:Int)(r:Addr)(u:Bool)(v:Int)(s:Addr)(p q1 q2 q3:Value)(w:Int)(t3:Nat):Obj:=⟨.type "code",none,.fields #[vs a t0,vs a t1,vs f t2,.int l 0,.int n 0,.int 0 0,.int 0 0,.int z 0,.ref r,.bool u,.int v 0,.ref s,p,q1,q2,q3,.int w 0,.int l 0,vs f t3],#[]⟩
theorem te_go:@topGo=Fast.tw15667345088766844465:=Fast.te15667345088766844465
theorem te_sr:@segRun=Fast.tw14374325043358763698:=Fast.te14374325043358763698
theorem te_sT:@segRunT=Fast.tw10110043849684766642:=Fast.te10110043849684766642
theorem te_tr:@topRun=Fast.tw14082659384304107361:=Fast.te14082659384304107361
theorem te_tb:treeTable=Fast.tw14364793385576792824:=Fast.te14364793385576792824
theorem te_im:@importedModules=Fast.tw5923862056798008813:=Fast.te5923862056798008813
theorem te_seen:@seen=Fast.tw5160383126252970620:=Fast.te5160383126252970620
theorem te_recs:@recsOf=Fast.tw3399658132070893891:=Fast.te3399658132070893891
theorem te_owns:@ownsOf=Fast.tw5991557255702980513:=Fast.te5991557255702980513
theorem te_keys:@Heap.keysOk=Fast.tw10880121769531294198:=Fast.te10880121769531294198
theorem te_loose:@looseW=Fast.tw821141287760084731:=Fast.te821141287760084731
theorem te_lits:@litsOf=Fast.tw7409074990110511671:=Fast.te7409074990110511671
theorem te_clss:@clssOf=Fast.tw13664370479719496447:=Fast.te13664370479719496447
theorem te_acc:@Heap.accountedOkI=Fast.tw14722251495701143533:=Fast.te14722251495701143533
theorem te_tabl:@tablesOk=Fast.tw10994771534591457954:=Fast.te10994771534591457954
theorem te_tabs:@tabsOk=Fast.tw479339242167458305:=Fast.te479339242167458305
theorem te_pin:@pinSeenD=Fast.tw16090120013241838585:=Fast.te16090120013241838585
theorem te_drecs:@drecsOf=Fast.tw3247288618530077131:=Fast.te3247288618530077131
theorem te_pE:@plainSeenE=Fast.tw2386780881361962483:=Fast.te2386780881361962483
theorem te_pD:@plainSeenD=Fast.tw11698064438423848299:=Fast.te11698064438423848299
theorem te_wide:@wideSeen=Fast.tw7317090234206586261:=Fast.te7317090234206586261
theorem te_cls:@clsSeenW=Fast.tw7369524293546568484:=Fast.te7369524293546568484
theorem te_den:@denote=Fast.tw11892475500146522536:=Fast.te11892475500146522536
theorem te_ns:@Heap.nsMap=Fast.tw8920871248978507458:=Fast.te8920871248978507458
abbrev env:Env:={ scope:=pw.main.scope,locals:=mainNs,globals:=mainNs,cells:=[],code := .ref 13,frame:=some 14 }
abbrev cE:Code := .body (behindTheImports pw) env
abbrev fB:List Frame:=[topFrame ⟨0,0,0,0⟩]
abbrev ann:Option Value:=some (.ref 6)
abbrev o11a:=tu []
abbrev o12aL:List Value:=[]
abbrev o12a:=fi o12aL
abbrev o13a:=co "<module>" "/claim/cut.py" 182 183 184 1 0 0 11 false 181 12 .none .none .none .none 185 186
abbrev o14a:Obj:=⟨.type "frame",none,.plain,#[Option.some (PySem.Value.ref 13),Option.some (PySem.Value.ref 3),Option.some (PySem.Value.ref 3),Option.none,Option.some (PySem.Value.str (PySem.Str.ofString "__main__") 164),Option.none,Option.some (PySem.Value.ref 0)]⟩
abbrev ha(P:Params):Heap:=⟨⟨[boot_o_0 P,boot_o_1 P,boot_o_2 P,boot_o_3 P,boot_o_4 P,boot_o_5 P,boot_o_6 P,boot_o_7 P,boot_o_8 P,boot_o_9 P,boot_o_10 P,o11a,o12a,o13a,o14a]⟩,{ }⟩
theorem run_a(w:World)(os:OsState):topGo treeTable pw w 11 ann 12 ⟨boot_heap w.params,#[],boot_drawn,boot_toks,os⟩ (topStub pw)=some (⟨ha w.params,#[],{ },187,os⟩,⟨denote treeTable cE,cE,⟨0,0,0,0⟩,fB⟩):=by
 rewrite[te_go,te_den,te_tb];kernel_rfl
abbrev t0(P:Params):BT:=(N (boot_o_0 P) (N (boot_o_1 P) (N (boot_o_3 P) (N (boot_o_7 P) E E) (N (o11a) E E)) (N (boot_o_5 P) (N (boot_o_9 P) E E) (N (o13a) E E))) (N (boot_o_2 P) (N (boot_o_4 P) (N (boot_o_8 P) E E) (N (o12a) E E)) (N (boot_o_6 P) (N (boot_o_10 P) E E) (N (o14a) E E))))
abbrev s0(w:World)(os:OsState):SharedT:=⟨t0 w.params,15,{ },#[],{ },187,os⟩
theorem run_b(w:World)(os:OsState):segRun treeTable pw w 11 ann 1 1 ⟨ha w.params,#[],{ },187,os⟩ (blockOf (behindTheImports pw) env cE ⟨0,0,0,0⟩ fB)=some (.next,(s0 w os).abs,cE,⟨0,0,0,0⟩):=by
 rewrite[te_sr,te_tb];kernel_rfl
abbrev o3_1L(P:Params):List DictEntry:=[de P "__name__" 165 (vs "changehall.errors" 187),de P "__doc__" 166 .none,de P "__package__" 167 .none,de P "__loader__" 168 (.builtin "__main__.__loader__#opaque"),de P "__spec__" 169 .none,de P "__annotations__" 170 (.ref 6),de P "__builtins__" 171 (.ref 4),de P "__file__" 173 (vs "/claim/cut.py" 172),de P "__cached__" 174 .none,de P "HallError" 206 (.ref 24)]
abbrev o3_1(P:Params):Obj:=⟨.type "dict",none,.dict (o3_1L P).toArray 10,#[]⟩
abbrev zjl:List Value:=o12aL++[.int 2 0,.int 0 0,.ref 20]
abbrev o12_1:=fi zjl
abbrev zjm:=tu [.type "ValueError"]
abbrev o16_1:Obj:=⟨.type "builtin_function_or_method",none,.fields #[.builtin "type.__prepare__",.type "type"],#[]⟩
abbrev o17_1L(P:Params):List DictEntry:=[de P "__module__" 196 (vs "changehall.errors" 187),de P "__qualname__" 198 (vs "HallError" 197),de P "__firstlineno__" 200 (.int 2 199),de P "__static_attributes__" 201 (.ref 22)]
abbrev o17_1(P:Params):Obj:=⟨.type "dict",none,.dict (o17_1L P).toArray 4,#[]⟩
abbrev o18_1:=tu []
abbrev o19_1:=fi []
abbrev o20_1:=co "HallError" "/claim/cut.py" 191 192 193 2 0 0 18 false 181 19 .none .none .none .none 194 195
abbrev o21_1:Obj:=⟨.type "frame",none,.plain,#[Option.some (PySem.Value.ref 20),Option.some (PySem.Value.ref 3),Option.some (PySem.Value.ref 17),Option.none,Option.some (PySem.Value.str (PySem.Str.ofString "changehall.errors") 187),Option.none,Option.some (PySem.Value.ref 0)]⟩
abbrev zjn:=tu []
abbrev o23_1L(P:Params):List DictEntry:=[de P "__module__" 196 (vs "changehall.errors" 187),de P "__firstlineno__" 200 (.int 2 199),de P "__static_attributes__" 201 (.ref 22),de P "__weakref__" 203 (.ref 25),de P "__doc__" 204 .none]
abbrev zjo(P:Params):Obj:=⟨.type "dict",none,.dict (o23_1L P).toArray 3,#[]⟩
abbrev o24_1:Obj:=⟨.type "type",none,.cls ({ name:=PySem.Str.ofString "HallError",bases:=[PySem.Value.type "ValueError"],mro:=[PySem.Value.ref 24,PySem.Value.type "ValueError",PySem.Value.type "Exception",PySem.Value.type "BaseException",PySem.Value.type "object"],ns:=23,qualname:=PySem.Str.ofString "HallError" }),#[Option.some (PySem.Value.ref 15),Option.none,Option.some (PySem.Value.str (PySem.Str.ofString "HallError") 189),Option.some (PySem.Value.str (PySem.Str.ofString "HallError") 197),Option.some (PySem.Value.builtin "ValueError.__new__"),Option.some (PySem.Value.bool Bool.true)]⟩
abbrev zjp:Obj:=⟨.type "getset_descriptor",none,.fields #[vs "__weakref__" 202,.ref 24,.builtin "ExceptionGroup.__weakref__",.none],#[]⟩
abbrev o26_1:Obj:=⟨.type "super",none,.fields #[.ref 24,.ref 24,.ref 24],#[]⟩
abbrev o27_1:Obj:=⟨.type "builtin_function_or_method",none,.fields #[.builtin "object.__init_subclass__",.ref 24],#[]⟩
abbrev t1(P:Params):BT:=ins (t0 P) [(3,o3_1 P),(12,o12_1),(15,zjm),(16,o16_1),(17,o17_1 P),(18,o18_1),(19,o19_1),(20,o20_1),(21,o21_1),(22,zjn),(23,zjo P),(24,o24_1),(25,zjp),(26,o26_1),(27,o27_1)]
abbrev s1(w:World)(os:OsState):SharedT:=⟨t1 w.params,28,{ },#[],{ },207,os⟩
abbrev l0:List Stmt:=[top 0,top 1]
theorem run_0(w:World)(os:OsState):segRunT treeTable pw w 11 ann 1 196 (s0 w os) (piecesOf l0 env cE ⟨0,0,0,0⟩ fB)=some (.next,s1 w os,cE,⟨2,0,3,8⟩):=by
 rewrite[te_sT,te_tb];kernel_rfl
abbrev o3_2L(P:Params):List DictEntry:=de P "__name__" 165 (vs "changehall.errors" 187)::(o3_1L P).tail++[de P "NoHall" 222 (.ref 37)]
abbrev o3_2(P:Params):Obj:=⟨.type "dict",none,.dict (o3_2L P).toArray 11,#[]⟩
abbrev zjq:List Value:=zjl++[.int 4 0,.int 0 0,.ref 33]
abbrev o12_2:=fi zjq
abbrev o24_2:Obj:=⟨.type "type",none,.cls ({ name:=PySem.Str.ofString "HallError",bases:=[PySem.Value.type "ValueError"],mro:=[PySem.Value.ref 24,PySem.Value.type "ValueError",PySem.Value.type "Exception",PySem.Value.type "BaseException",PySem.Value.type "object"],ns:=23,qualname:=PySem.Str.ofString "HallError",subclasses:=[PySem.Value.ref 37] }),#[Option.some (PySem.Value.ref 15),Option.none,Option.some (PySem.Value.str (PySem.Str.ofString "HallError") 189),Option.some (PySem.Value.str (PySem.Str.ofString "HallError") 197),Option.some (PySem.Value.builtin "ValueError.__new__"),Option.some (PySem.Value.bool Bool.true)]⟩
abbrev zjr:=tu [.ref 24]
abbrev o29_2:Obj:=⟨.type "builtin_function_or_method",none,.fields #[.builtin "type.__prepare__",.type "type"],#[]⟩
abbrev o30_2L(P:Params):List DictEntry:=[de P "__module__" 214 (vs "changehall.errors" 187),de P "__qualname__" 216 (vs "NoHall" 215),de P "__firstlineno__" 218 (.int 4 217),de P "__static_attributes__" 219 (.ref 35)]
abbrev o30_2(P:Params):Obj:=⟨.type "dict",none,.dict (o30_2L P).toArray 4,#[]⟩
abbrev o31_2:=tu []
abbrev o32_2:=fi []
abbrev o33_2:=co "NoHall" "/claim/cut.py" 209 210 211 4 0 0 31 false 181 32 .none .none .none .none 212 213
abbrev o34_2:Obj:=⟨.type "frame",none,.plain,#[Option.some (PySem.Value.ref 33),Option.some (PySem.Value.ref 3),Option.some (PySem.Value.ref 30),Option.none,Option.some (PySem.Value.str (PySem.Str.ofString "changehall.errors") 187),Option.none,Option.some (PySem.Value.ref 0)]⟩
abbrev zjs:=tu []
abbrev o36_2L(P:Params):List DictEntry:=[de P "__module__" 214 (vs "changehall.errors" 187),de P "__firstlineno__" 218 (.int 4 217),de P "__static_attributes__" 219 (.ref 35),de P "__doc__" 220 .none]
abbrev zjt(P:Params):Obj:=⟨.type "dict",none,.dict (o36_2L P).toArray 2,#[]⟩
abbrev zju:Obj:=⟨.type "type",none,.cls ({ name:=PySem.Str.ofString "NoHall",bases:=[PySem.Value.ref 24],mro:=[PySem.Value.ref 37,PySem.Value.ref 24,PySem.Value.type "ValueError",PySem.Value.type "Exception",PySem.Value.type "BaseException",PySem.Value.type "object"],ns:=36,qualname:=PySem.Str.ofString "NoHall" }),#[Option.some (PySem.Value.ref 28),Option.none,Option.some (PySem.Value.str (PySem.Str.ofString "NoHall") 207),Option.some (PySem.Value.str (PySem.Str.ofString "NoHall") 215),Option.some (PySem.Value.builtin "ValueError.__new__"),Option.some (PySem.Value.bool Bool.true)]⟩
abbrev o38_2:Obj:=⟨.type "super",none,.fields #[.ref 37,.ref 37,.ref 37],#[]⟩
abbrev o39_2:Obj:=⟨.type "builtin_function_or_method",none,.fields #[.builtin "object.__init_subclass__",.ref 37],#[]⟩
abbrev t2(P:Params):BT:=ins (t1 P) [(3,o3_2 P),(12,o12_2),(24,o24_2),(28,zjr),(29,o29_2),(30,o30_2 P),(31,o31_2),(32,o32_2),(33,o33_2),(34,o34_2),(35,zjs),(36,zjt P),(37,zju),(38,o38_2),(39,o39_2)]
abbrev s2(w:World)(os:OsState):SharedT:=⟨t2 w.params,40,{ },#[],{ },223,os⟩
abbrev l1:List Stmt:=[top 2]
theorem run_1(w:World)(os:OsState):segRunT treeTable pw w 11 ann 1 214 (s1 w os) (piecesOf l1 env cE ⟨2,0,3,8⟩ fB)=some (.next,s2 w os,cE,⟨4,0,5,8⟩):=by
 rewrite[te_sT,te_tb];kernel_rfl
abbrev o3_3L(P:Params):List DictEntry:=de P "__name__" 165 (vs "changehall.rows" 239)::(o3_2L P).tail++[de P "NoPlace" 238 (.ref 49),de P "is_whole" 247 (.ref 58),de P "is_row" 253 (.ref 63),de P "noughts" 259 (.ref 68),de P "unit_row" 265 (.ref 73),de P "added" 271 (.ref 78),de P "taken" 277 (.ref 83)]
abbrev o3_3(P:Params):Obj:=⟨.type "dict",none,.dict (o3_3L P).toArray 18,#[]⟩
abbrev zjv:List Value:=zjq++[.int 6 0,.int 0 0,.ref 45,.int 9 0,.int 0 0,.ref 57,.int 11 0,.int 0 0,.ref 62,.int 15 0,.int 0 0,.ref 67,.int 17 0,.int 0 0,.ref 72,.int 19 0,.int 0 0,.ref 77,.int 21 0,.int 0 0,.ref 82]
abbrev o12_3:=fi zjv
abbrev zjw:Obj:=⟨.type "type",none,.cls ({ name:=PySem.Str.ofString "HallError",bases:=[PySem.Value.type "ValueError"],mro:=[PySem.Value.ref 24,PySem.Value.type "ValueError",PySem.Value.type "Exception",PySem.Value.type "BaseException",PySem.Value.type "object"],ns:=23,qualname:=PySem.Str.ofString "HallError",subclasses:=[PySem.Value.ref 37,PySem.Value.ref 49] }),#[Option.some (PySem.Value.ref 15),Option.none,Option.some (PySem.Value.str (PySem.Str.ofString "HallError") 189),Option.some (PySem.Value.str (PySem.Str.ofString "HallError") 197),Option.some (PySem.Value.builtin "ValueError.__new__"),Option.some (PySem.Value.bool Bool.true)]⟩
abbrev zjx:=tu [.ref 24]
abbrev o41_3:Obj:=⟨.type "builtin_function_or_method",none,.fields #[.builtin "type.__prepare__",.type "type"],#[]⟩
abbrev o42_3L(P:Params):List DictEntry:=[de P "__module__" 230 (vs "changehall.errors" 187),de P "__qualname__" 232 (vs "NoPlace" 231),de P "__firstlineno__" 234 (.int 6 233),de P "__static_attributes__" 235 (.ref 47)]
abbrev o42_3(P:Params):Obj:=⟨.type "dict",none,.dict (o42_3L P).toArray 4,#[]⟩
abbrev o43_3:=tu []
abbrev o44_3:=fi []
abbrev o45_3:=co "NoPlace" "/claim/cut.py" 225 226 227 6 0 0 43 false 181 44 .none .none .none .none 228 229
abbrev o46_3:Obj:=⟨.type "frame",none,.plain,#[Option.some (PySem.Value.ref 45),Option.some (PySem.Value.ref 3),Option.some (PySem.Value.ref 42),Option.none,Option.some (PySem.Value.str (PySem.Str.ofString "changehall.errors") 187),Option.none,Option.some (PySem.Value.ref 0)]⟩
abbrev zjy:=tu []
abbrev o48_3L(P:Params):List DictEntry:=[de P "__module__" 230 (vs "changehall.errors" 187),de P "__firstlineno__" 234 (.int 6 233),de P "__static_attributes__" 235 (.ref 47),de P "__doc__" 236 .none]
abbrev zjz(P:Params):Obj:=⟨.type "dict",none,.dict (o48_3L P).toArray 2,#[]⟩
abbrev zjA:Obj:=⟨.type "type",none,.cls ({ name:=PySem.Str.ofString "NoPlace",bases:=[PySem.Value.ref 24],mro:=[PySem.Value.ref 49,PySem.Value.ref 24,PySem.Value.type "ValueError",PySem.Value.type "Exception",PySem.Value.type "BaseException",PySem.Value.type "object"],ns:=48,qualname:=PySem.Str.ofString "NoPlace" }),#[Option.some (PySem.Value.ref 40),Option.none,Option.some (PySem.Value.str (PySem.Str.ofString "NoPlace") 223),Option.some (PySem.Value.str (PySem.Str.ofString "NoPlace") 231),Option.some (PySem.Value.builtin "ValueError.__new__"),Option.some (PySem.Value.bool Bool.true)]⟩
abbrev o50_3:Obj:=⟨.type "super",none,.fields #[.ref 49,.ref 49,.ref 49],#[]⟩
abbrev o51_3:Obj:=⟨.type "builtin_function_or_method",none,.fields #[.builtin "object.__init_subclass__",.ref 49],#[]⟩
abbrev zjB:=tu []
abbrev o53_3:=fi []
abbrev zjC:=tu [vs "value" 244]
abbrev zjD:=tu []
abbrev o56_3:=fo .none 5 0 .none .none
abbrev zjE:=co "is_whole" "/claim/cut.py" 241 242 243 9 1 3 52 true 181 53 .none (.ref 54) (.ref 55) (.ref 56) 245 246
abbrev zjF:=fo (.type "function") 5 3 (vs "changehall.rows" 239) (.ref 57)
abbrev zjG:=tu []
abbrev o60_3:=fi []
abbrev o61_3:=fo .none 6 0 .none .none
abbrev zjH:=co "is_row" "/claim/cut.py" 248 249 250 11 2 3 59 true 181 60 .none .none .none (.ref 61) 251 252
abbrev zjI:=fo (.type "function") 6 3 (vs "changehall.rows" 239) (.ref 62)
abbrev zjJ:=tu []
abbrev o65_3:=fi []
abbrev o66_3:=fo .none 7 0 .none .none
abbrev zjK:=co "noughts" "/claim/cut.py" 254 255 256 15 1 3 64 true 181 65 .none .none .none (.ref 66) 257 258
abbrev zjL:=fo (.type "function") 7 3 (vs "changehall.rows" 239) (.ref 67)
abbrev zjM:=tu []
abbrev o70_3:=fi []
abbrev o71_3:=fo .none 8 0 .none .none
abbrev zjN:=co "unit_row" "/claim/cut.py" 260 261 262 17 2 3 69 true 181 70 .none .none .none (.ref 71) 263 264
abbrev zjO:=fo (.type "function") 8 3 (vs "changehall.rows" 239) (.ref 72)
abbrev zjP:=tu []
abbrev o75_3:=fi []
abbrev o76_3:=fo .none 9 0 .none .none
abbrev zjQ:=co "added" "/claim/cut.py" 266 267 268 19 2 3 74 true 181 75 .none .none .none (.ref 76) 269 270
abbrev zjR:=fo (.type "function") 9 3 (vs "changehall.rows" 239) (.ref 77)
abbrev zjS:=tu []
abbrev o80_3:=fi []
abbrev o81_3:=fo .none 10 0 .none .none
abbrev zjT:=co "taken" "/claim/cut.py" 272 273 274 21 2 3 79 true 181 80 .none .none .none (.ref 81) 275 276
abbrev zjU:=fo (.type "function") 10 3 (vs "changehall.rows" 239) (.ref 82)
abbrev t3(P:Params):BT:=ins (t2 P) [(3,o3_3 P),(12,o12_3),(24,zjw),(40,zjx),(41,o41_3),(42,o42_3 P),(43,o43_3),(44,o44_3),(45,o45_3),(46,o46_3),(47,zjy),(48,zjz P),(49,zjA),(50,o50_3),(51,o51_3),(52,zjB),(53,o53_3),(54,zjC),(55,zjD),(56,o56_3),(57,zjE),(58,zjF),(59,zjG),(60,o60_3),(61,o61_3),(62,zjH),(63,zjI),(64,zjJ),(65,o65_3),(66,o66_3),(67,zjK),(68,zjL),(69,zjM),(70,o70_3),(71,o71_3),(72,zjN),(73,zjO),(74,zjP),(75,o75_3),(76,o76_3),(77,zjQ),(78,zjR),(79,zjS),(80,o80_3),(81,o81_3),(82,zjT),(83,zjU)]
abbrev s3(w:World)(os:OsState):SharedT:=⟨t3 w.params,84,{ },#[],{ },278,os⟩
abbrev l2:List Stmt:=[top 3,top 4,top 5,top 6,top 7,top 8,top 9,top 10]
theorem run_2(w:World)(os:OsState):segRunT treeTable pw w 11 ann 1 382 (s2 w os) (piecesOf l2 env cE ⟨4,0,5,8⟩ fB)=some (.next,s3 w os,cE,⟨21,0,22,59⟩):=by
 rewrite[te_sT,te_tb];kernel_rfl
abbrev o3_4L(P:Params):List DictEntry:=de P "__name__" 165 (vs "changehall.whole" 360)::(o3_3L P).tail++[de P "scaled" 283 (.ref 88),de P "weighed" 289 (.ref 93),de P "mixed" 301 (.ref 100),de P "head_at" 310 (.ref 107),de P "MOST_KINDS" 314 (.int 6 313),de P "MOST_BILLS" 316 (.int 8 315),de P "are_kinds" 323 (.ref 114),de P "is_bill" 329 (.ref 119),de P "need_kinds" 336 (.ref 126),de P "need_bill" 344 (.ref 133),de P "hall_of" 353 (.ref 140),de P "hall_by" 359 (.ref 145),de P "bridge" 367 (.ref 150),de P "rest" 375 (.ref 157)]
abbrev o3_4(P:Params):Obj:=⟨.type "dict",none,.dict (o3_4L P).toArray 32,#[]⟩
abbrev zjV:List Value:=zjv++[.int 23 0,.int 0 0,.ref 87,.int 25 0,.int 0 0,.ref 92,.int 27 0,.int 0 0,.ref 99,.int 32 0,.int 0 0,.ref 106,.int 40 0,.int 0 0,.ref 113,.int 42 0,.int 0 0,.ref 118,.int 44 0,.int 0 0,.ref 125,.int 47 0,.int 0 0,.ref 132,.int 50 0,.int 0 0,.ref 139,.int 57 0,.int 0 0,.ref 144,.int 60 0,.int 0 0,.ref 149,.int 71 0,.int 0 0,.ref 156]
abbrev o12_4:=fi zjV
abbrev zjW:=tu []
abbrev o85_4:=fi []
abbrev o86_4:=fo .none 11 0 .none .none
abbrev zjX:=co "scaled" "/claim/cut.py" 278 279 280 23 2 3 84 true 181 85 .none .none .none (.ref 86) 281 282
abbrev zjY:=fo (.type "function") 11 3 (vs "changehall.rows" 239) (.ref 87)
abbrev zjZ:=tu []
abbrev o90_4:=fi []
abbrev o91_4:=fo .none 12 0 .none .none
abbrev zk0:=co "weighed" "/claim/cut.py" 284 285 286 25 2 3 89 true 181 90 .none .none .none (.ref 91) 287 288
abbrev zk1:=fo (.type "function") 12 3 (vs "changehall.rows" 239) (.ref 92)
abbrev zk2:=tu []
abbrev o95_4:=fi []
abbrev zk3:=tu [vs "rows" 293,vs "counts" 294,vs "length" 295,vs "total" 296,vs "row" 297,vs "often" 298]
abbrev zk4:=tu []
abbrev o98_4:=fo .none 13 0 .none .none
abbrev zk5:=co "mixed" "/claim/cut.py" 290 291 292 27 3 3 94 true 181 95 .none (.ref 96) (.ref 97) (.ref 98) 299 300
abbrev zdo:=fo (.type "function") 13 3 (vs "changehall.rows" 239) (.ref 99)
abbrev zdp:=tu []
abbrev zk6:=fi []
abbrev zdq:=tu [vs "row" 305,vs "spot" 306,vs "number" 307]
abbrev zdr:=tu []
abbrev zk7:=fo .none 14 0 .none .none
abbrev zds:=co "head_at" "/claim/cut.py" 302 303 304 32 1 3 101 true 181 102 .none (.ref 103) (.ref 104) (.ref 105) 308 309
abbrev zdt:=fo (.type "function") 14 3 (vs "changehall.rows" 239) (.ref 106)
abbrev zdu:=tu []
abbrev zk8:=fi []
abbrev zdv:=tu [vs "value" 320]
abbrev zdw:=tu []
abbrev zk9:=fo .none 18 0 .none .none
abbrev zdx:=co "are_kinds" "/claim/cut.py" 317 318 319 40 1 3 108 true 181 109 .none (.ref 110) (.ref 111) (.ref 112) 321 322
abbrev zdy:=fo (.type "function") 18 3 (vs "changehall.halls" 311) (.ref 113)
abbrev zdz:=tu []
abbrev zka:=fi []
abbrev zkb:=fo .none 19 0 .none .none
abbrev zdA:=co "is_bill" "/claim/cut.py" 324 325 326 42 2 3 115 true 181 116 .none .none .none (.ref 117) 327 328
abbrev zdB:=fo (.type "function") 19 3 (vs "changehall.halls" 311) (.ref 118)
abbrev zdC:=tu []
abbrev zkc:=fi []
abbrev zdD:=tu [vs "kinds" 333]
abbrev zdE:=tu []
abbrev zkd:=fo .none 20 0 .none .none
abbrev zdF:=co "need_kinds" "/claim/cut.py" 330 331 332 44 1 3 120 true 181 121 .none (.ref 122) (.ref 123) (.ref 124) 334 335
abbrev zdG:=fo (.type "function") 20 3 (vs "changehall.halls" 311) (.ref 125)
abbrev zdH:=tu []
abbrev zke:=fi []
abbrev zdI:=tu [vs "bill" 340,vs "kinds" 341]
abbrev zdJ:=tu []
abbrev zkf:=fo .none 21 0 .none .none
abbrev zdK:=co "need_bill" "/claim/cut.py" 337 338 339 47 2 3 127 true 181 128 .none (.ref 129) (.ref 130) (.ref 131) 342 343
abbrev zdL:=fo (.type "function") 21 3 (vs "changehall.halls" 311) (.ref 132)
abbrev zdM:=tu []
abbrev zkg:=fi []
abbrev zdN:=tu [vs "kinds" 348,vs "bills" 349,vs "bill" 350]
abbrev zdO:=tu []
abbrev zkh:=fo .none 22 0 .none .none
abbrev zdP:=co "hall_of" "/claim/cut.py" 345 346 347 50 2 3 134 true 181 135 .none (.ref 136) (.ref 137) (.ref 138) 351 352
abbrev zdQ:=fo (.type "function") 22 3 (vs "changehall.halls" 311) (.ref 139)
abbrev zdR:=tu []
abbrev zki:=fi []
abbrev zkj:=fo .none 23 0 .none .none
abbrev zdS:=co "hall_by" "/claim/cut.py" 354 355 356 57 2 3 141 true 181 142 .none .none .none (.ref 143) 357 358
abbrev zdT:=fo (.type "function") 23 3 (vs "changehall.halls" 311) (.ref 144)
abbrev zdU:=tu []
abbrev zkk:=fi []
abbrev zkl:=fo .none 25 0 .none .none
abbrev zdV:=co "bridge" "/claim/cut.py" 362 363 364 60 2 3 146 true 181 147 .none .none .none (.ref 148) 365 366
abbrev zdW:=fo (.type "function") 25 3 (vs "changehall.whole" 360) (.ref 149)
abbrev zdX:=tu []
abbrev zkm:=fi []
abbrev zdY:=tu [vs "a" 371,vs "part" 372]
abbrev zdZ:=tu []
abbrev zkn:=fo .none 26 0 .none .none
abbrev ze:=co "rest" "/claim/cut.py" 368 369 370 71 2 3 151 true 181 152 .none (.ref 153) (.ref 154) (.ref 155) 373 374
abbrev ze0:=fo (.type "function") 26 3 (vs "changehall.whole" 360) (.ref 156)
abbrev t4(P:Params):BT:=ins (t3 P) [(3,o3_4 P),(12,o12_4),(84,zjW),(85,o85_4),(86,o86_4),(87,zjX),(88,zjY),(89,zjZ),(90,o90_4),(91,o91_4),(92,zk0),(93,zk1),(94,zk2),(95,o95_4),(96,zk3),(97,zk4),(98,o98_4),(99,zk5),(100,zdo),(101,zdp),(102,zk6),(103,zdq),(104,zdr),(105,zk7),(106,zds),(107,zdt),(108,zdu),(109,zk8),(110,zdv),(111,zdw),(112,zk9),(113,zdx),(114,zdy),(115,zdz),(116,zka),(117,zkb),(118,zdA),(119,zdB),(120,zdC),(121,zkc),(122,zdD),(123,zdE),(124,zkd),(125,zdF),(126,zdG),(127,zdH),(128,zke),(129,zdI),(130,zdJ),(131,zkf),(132,zdK),(133,zdL),(134,zdM),(135,zkg),(136,zdN),(137,zdO),(138,zkh),(139,zdP),(140,zdQ),(141,zdR),(142,zki),(143,zkj),(144,zdS),(145,zdT),(146,zdU),(147,zkk),(148,zkl),(149,zdV),(150,zdW),(151,zdX),(152,zkm),(153,zdY),(154,zdZ),(155,zkn),(156,ze),(157,ze0)]
abbrev s4(w:World)(os:OsState):SharedT:=⟨t4 w.params,158,{ },#[],{ },376,os⟩
abbrev l3:List Stmt:=[top 11,top 12,top 13,top 14,top 15,top 16,top 17,top 18,top 19,top 20,top 21,top 22,top 23,top 24,top 25,top 26]
theorem run_3(w:World)(os:OsState):segRunT treeTable pw w 11 ann 1 381 (s3 w os) (piecesOf l3 env cE ⟨21,0,22,59⟩ fB)=some (.next,s4 w os,cE,⟨71,0,74,19⟩):=by
 rewrite[te_sT,te_tb];kernel_rfl
abbrev o3_5L(P:Params):List DictEntry:=de P "__name__" 165 (vs "changehall.grids" 476)::(o3_4L P).tail++[de P "product" 384 (.ref 164),de P "lowering" 399 (.ref 171),de P "lowered" 407 (.ref 178),de P "crossed" 419 (.ref 185),de P "turned_up" 426 (.ref 192),de P "with_row" 432 (.ref 197),de P "evened" 441 (.ref 204),de P "climbed" 450 (.ref 211),de P "tagged_stair" 456 (.ref 216),de P "tags_of_rungs" 462 (.ref 221),de P "tags_at_nought" 468 (.ref 226),de P "stair" 475 (.ref 233),de P "turned" 483 (.ref 238)]
abbrev o3_5(P:Params):Obj:=⟨.type "dict",none,.dict (o3_5L P).toArray 45,#[]⟩
abbrev zko:List Value:=zjV++[.int 75 0,.int 0 0,.ref 163,.int 81 0,.int 0 0,.ref 170,.int 91 0,.int 0 0,.ref 177,.int 93 0,.int 0 0,.ref 184,.int 99 0,.int 0 0,.ref 191,.int 101 0,.int 0 0,.ref 196,.int 112 0,.int 0 0,.ref 203,.int 117 0,.int 0 0,.ref 210,.int 122 0,.int 0 0,.ref 215,.int 124 0,.int 0 0,.ref 220,.int 126 0,.int 0 0,.ref 225,.int 128 0,.int 0 0,.ref 232,.int 131 0,.int 0 0,.ref 237]
abbrev o12_5:=fi zko
abbrev ze1:=tu []
abbrev zkp:=fi []
abbrev ze2:=tu [vs "numbers" 379,vs "found" 380,vs "number" 381]
abbrev ze3:=tu []
abbrev zkq:=fo .none 27 0 .none .none
abbrev ze4:=co "product" "/claim/cut.py" 376 377 378 75 1 3 158 true 181 159 .none (.ref 160) (.ref 161) (.ref 162) 382 383
abbrev ze5:=fo (.type "function") 27 3 (vs "changehall.whole" 360) (.ref 163)
abbrev ze6:=tu []
abbrev zkr:=fi []
abbrev ze7:=tu [vs "row" 390,vs "rungs" 391,vs "left" 392,vs "counts" 393,vs "rung" 394,vs "spot" 395,vs "often" 396]
abbrev ze8:=tu []
abbrev zks:=fo .none 29 0 .none .none
abbrev ze9:=co "lowering" "/claim/cut.py" 387 388 389 81 2 3 165 true 181 166 .none (.ref 167) (.ref 168) (.ref 169) 397 398
abbrev zea:=fo (.type "function") 29 3 (vs "changehall.stairs" 385) (.ref 170)
abbrev zeb:=tu []
abbrev zkt:=fi []
abbrev zec:=tu [vs "row" 403,vs "rungs" 404]
abbrev zed:=tu []
abbrev zku:=fo .none 30 0 .none .none
abbrev zee:=co "lowered" "/claim/cut.py" 400 401 402 91 2 3 172 true 181 173 .none (.ref 174) (.ref 175) (.ref 176) 405 406
abbrev zef:=fo (.type "function") 30 3 (vs "changehall.stairs" 385) (.ref 177)
abbrev zeg:=tu []
abbrev zkv:=fi []
abbrev zeh:=tu [vs "rung" 411,vs "row" 412,vs "spot" 413,vs "found" 414,vs "upper" 415,vs "lower" 416]
abbrev zei:=tu []
abbrev zkw:=fo .none 31 0 .none .none
abbrev zej:=co "crossed" "/claim/cut.py" 408 409 410 93 2 3 179 true 181 180 .none (.ref 181) (.ref 182) (.ref 183) 417 418
abbrev zek:=fo (.type "function") 31 3 (vs "changehall.stairs" 385) (.ref 184)
abbrev zel:=tu []
abbrev zkx:=fi []
abbrev zem:=tu [vs "row" 423]
abbrev zen:=tu []
abbrev zky:=fo .none 32 0 .none .none
abbrev zeo:=co "turned_up" "/claim/cut.py" 420 421 422 99 1 3 186 true 181 187 .none (.ref 188) (.ref 189) (.ref 190) 424 425
abbrev zep:=fo (.type "function") 32 3 (vs "changehall.stairs" 385) (.ref 191)
abbrev zeq:=tu []
abbrev zkz:=fi []
abbrev zkA:=fo .none 33 0 .none .none
abbrev zer:=co "with_row" "/claim/cut.py" 427 428 429 101 2 3 193 true 181 194 .none .none .none (.ref 195) 430 431
abbrev zes:=fo (.type "function") 33 3 (vs "changehall.stairs" 385) (.ref 196)
abbrev zet:=tu []
abbrev zkB:=fi []
abbrev zeu:=tu [vs "rungs" 436,vs "found" 437,vs "rung" 438]
abbrev zev:=tu []
abbrev zkC:=fo .none 34 0 .none .none
abbrev zew:=co "evened" "/claim/cut.py" 433 434 435 112 1 3 198 true 181 199 .none (.ref 200) (.ref 201) (.ref 202) 439 440
abbrev zex:=fo (.type "function") 34 3 (vs "changehall.stairs" 385) (.ref 203)
abbrev zey:=tu []
abbrev zkD:=fi []
abbrev zez:=tu [vs "rows" 445,vs "rungs" 446,vs "row" 447]
abbrev zeA:=tu []
abbrev zkE:=fo .none 35 0 .none .none
abbrev zeB:=co "climbed" "/claim/cut.py" 442 443 444 117 1 3 205 true 181 206 .none (.ref 207) (.ref 208) (.ref 209) 448 449
abbrev zeC:=fo (.type "function") 35 3 (vs "changehall.stairs" 385) (.ref 210)
abbrev zeD:=tu []
abbrev zkF:=fi []
abbrev zkG:=fo .none 36 0 .none .none
abbrev zeE:=co "tagged_stair" "/claim/cut.py" 451 452 453 122 2 3 212 true 181 213 .none .none .none (.ref 214) 454 455
abbrev zeF:=fo (.type "function") 36 3 (vs "changehall.stairs" 385) (.ref 215)
abbrev zeG:=tu []
abbrev zkH:=fi []
abbrev zkI:=fo .none 37 0 .none .none
abbrev zeH:=co "tags_of_rungs" "/claim/cut.py" 457 458 459 124 2 3 217 true 181 218 .none .none .none (.ref 219) 460 461
abbrev zeI:=fo (.type "function") 37 3 (vs "changehall.stairs" 385) (.ref 220)
abbrev zeJ:=tu []
abbrev zkJ:=fi []
abbrev zkK:=fo .none 38 0 .none .none
abbrev zeK:=co "tags_at_nought" "/claim/cut.py" 463 464 465 126 2 3 222 true 181 223 .none .none .none (.ref 224) 466 467
abbrev zeL:=fo (.type "function") 38 3 (vs "changehall.stairs" 385) (.ref 225)
abbrev zeM:=tu []
abbrev zkL:=fi []
abbrev zeN:=tu [vs "hall" 472]
abbrev zeO:=tu []
abbrev zkM:=fo .none 39 0 .none .none
abbrev zeP:=co "stair" "/claim/cut.py" 469 470 471 128 1 3 227 true 181 228 .none (.ref 229) (.ref 230) (.ref 231) 473 474
abbrev zeQ:=fo (.type "function") 39 3 (vs "changehall.stairs" 385) (.ref 232)
abbrev zeR:=tu []
abbrev zkN:=fi []
abbrev zkO:=fo .none 41 0 .none .none
abbrev zeS:=co "turned" "/claim/cut.py" 478 479 480 131 2 3 234 true 181 235 .none .none .none (.ref 236) 481 482
abbrev zeT:=fo (.type "function") 41 3 (vs "changehall.grids" 476) (.ref 237)
abbrev t5(P:Params):BT:=ins (t4 P) [(3,o3_5 P),(12,o12_5),(158,ze1),(159,zkp),(160,ze2),(161,ze3),(162,zkq),(163,ze4),(164,ze5),(165,ze6),(166,zkr),(167,ze7),(168,ze8),(169,zks),(170,ze9),(171,zea),(172,zeb),(173,zkt),(174,zec),(175,zed),(176,zku),(177,zee),(178,zef),(179,zeg),(180,zkv),(181,zeh),(182,zei),(183,zkw),(184,zej),(185,zek),(186,zel),(187,zkx),(188,zem),(189,zen),(190,zky),(191,zeo),(192,zep),(193,zeq),(194,zkz),(195,zkA),(196,zer),(197,zes),(198,zet),(199,zkB),(200,zeu),(201,zev),(202,zkC),(203,zew),(204,zex),(205,zey),(206,zkD),(207,zez),(208,zeA),(209,zkE),(210,zeB),(211,zeC),(212,zeD),(213,zkF),(214,zkG),(215,zeE),(216,zeF),(217,zeG),(218,zkH),(219,zkI),(220,zeH),(221,zeI),(222,zeJ),(223,zkJ),(224,zkK),(225,zeK),(226,zeL),(227,zeM),(228,zkL),(229,zeN),(230,zeO),(231,zkM),(232,zeP),(233,zeQ),(234,zeR),(235,zkN),(236,zkO),(237,zeS),(238,zeT)]
abbrev s5(w:World)(os:OsState):SharedT:=⟨t5 w.params,239,{ },#[],{ },484,os⟩
abbrev l4:List Stmt:=[top 27,top 28,top 29,top 30,top 31,top 32,top 33,top 34,top 35,top 36,top 37,top 38,top 39,top 40,top 41]
theorem run_4(w:World)(os:OsState):segRunT treeTable pw w 11 ann 1 399 (s4 w os) (piecesOf l4 env cE ⟨71,0,74,19⟩ fB)=some (.next,s5 w os,cE,⟨131,0,132,65⟩):=by
 rewrite[te_sT,te_tb];kernel_rfl
abbrev o3_6L(P:Params):List DictEntry:=de P "__name__" 165 (vs "law_changehall_k19_places_refused" 566)::(o3_5L P).tail++[de P "is_slant" 489 (.ref 243),de P "rests" 495 (.ref 248),de P "slanted" 501 (.ref 253),de P "linked" 514 (.ref 260),de P "chained" 520 (.ref 265),de P "measures" 526 (.ref 270),de P "parts" 534 (.ref 275),de P "place_by" 540 (.ref 280),de P "need_place" 550 (.ref 287),de P "baskets_by" 556 (.ref 292),de P "basket_at" 565 (.ref 299),de P "_law_cell_at" 575 (.ref 306),de P "_law_number" 585 (.ref 313)]
abbrev o3_6(P:Params):Obj:=⟨.type "dict",none,.dict (o3_6L P).toArray 58,#[]⟩
abbrev zkP:List Value:=zko++[.int 133 0,.int 0 0,.ref 242,.int 138 0,.int 0 0,.ref 247,.int 140 0,.int 0 0,.ref 252,.int 150 0,.int 0 0,.ref 259,.int 157 0,.int 0 0,.ref 264,.int 165 0,.int 0 0,.ref 269,.int 175 0,.int 0 0,.ref 274,.int 177 0,.int 0 0,.ref 279,.int 179 0,.int 0 0,.ref 286,.int 185 0,.int 0 0,.ref 291,.int 192 0,.int 0 0,.ref 298,.int 197 0,.int 0 0,.ref 305,.int 203 0,.int 0 0,.ref 312]
abbrev o12_6:=fi zkP
abbrev zeU:=tu []
abbrev zkQ:=fi []
abbrev zkR:=fo .none 42 0 .none .none
abbrev zeV:=co "is_slant" "/claim/cut.py" 484 485 486 133 1 3 239 true 181 240 .none .none .none (.ref 241) 487 488
abbrev zeW:=fo (.type "function") 42 3 (vs "changehall.grids" 476) (.ref 242)
abbrev zeX:=tu []
abbrev zkS:=fi []
abbrev zkT:=fo .none 43 0 .none .none
abbrev zeY:=co "rests" "/claim/cut.py" 490 491 492 138 2 3 244 true 181 245 .none .none .none (.ref 246) 493 494
abbrev zeZ:=fo (.type "function") 43 3 (vs "changehall.grids" 476) (.ref 247)
abbrev zf:=tu []
abbrev zkU:=fi []
abbrev zkV:=fo .none 44 0 .none .none
abbrev zf0:=co "slanted" "/claim/cut.py" 496 497 498 140 3 3 249 true 181 250 .none .none .none (.ref 251) 499 500
abbrev zf1:=fo (.type "function") 44 3 (vs "changehall.grids" 476) (.ref 252)
abbrev zf2:=tu []
abbrev zkW:=fi []
abbrev zf3:=tu [vs "one" 505,vs "other" 506,vs "found" 507,vs "common" 508,vs "least" 509,vs "upper" 510,vs "lower" 511]
abbrev zf4:=tu []
abbrev zkX:=fo .none 45 0 .none .none
abbrev zf5:=co "linked" "/claim/cut.py" 502 503 504 150 2 3 254 true 181 255 .none (.ref 256) (.ref 257) (.ref 258) 512 513
abbrev zf6:=fo (.type "function") 45 3 (vs "changehall.grids" 476) (.ref 259)
abbrev zf7:=tu []
abbrev zkY:=fi []
abbrev zkZ:=fo .none 46 0 .none .none
abbrev zf8:=co "chained" "/claim/cut.py" 515 516 517 157 1 3 261 true 181 262 .none .none .none (.ref 263) 518 519
abbrev zf9:=fo (.type "function") 46 3 (vs "changehall.grids" 476) (.ref 264)
abbrev zfa:=tu []
abbrev zl0:=fi []
abbrev zl1:=fo .none 47 0 .none .none
abbrev zfb:=co "measures" "/claim/cut.py" 521 522 523 165 1 3 266 true 181 267 .none .none .none (.ref 268) 524 525
abbrev zfc:=fo (.type "function") 47 3 (vs "changehall.grids" 476) (.ref 269)
abbrev zfd:=tu []
abbrev zl2:=fi []
abbrev zl3:=fo .none 49 0 .none .none
abbrev zfe:=co "parts" "/claim/cut.py" 529 530 531 175 1 3 271 true 181 272 .none .none .none (.ref 273) 532 533
abbrev zff:=fo (.type "function") 49 3 (vs "changehall.classes" 527) (.ref 274)
abbrev zfg:=tu []
abbrev zl4:=fi []
abbrev zl5:=fo .none 50 0 .none .none
abbrev zfh:=co "place_by" "/claim/cut.py" 535 536 537 177 2 3 276 true 181 277 .none .none .none (.ref 278) 538 539
abbrev zfi:=fo (.type "function") 50 3 (vs "changehall.classes" 527) (.ref 279)
abbrev zfj:=tu []
abbrev zl6:=fi []
abbrev zfk:=tu [vs "measured" 544,vs "numbers" 545,vs "number" 546,vs "measure" 547]
abbrev zfl:=tu []
abbrev zl7:=fo .none 51 0 .none .none
abbrev zfm:=co "need_place" "/claim/cut.py" 541 542 543 179 2 3 281 true 181 282 .none (.ref 283) (.ref 284) (.ref 285) 548 549
abbrev zfn:=fo (.type "function") 51 3 (vs "changehall.classes" 527) (.ref 286)
abbrev zfo:=tu []
abbrev zl8:=fi []
abbrev zl9:=fo .none 52 0 .none .none
abbrev zfp:=co "baskets_by" "/claim/cut.py" 551 552 553 185 1 3 288 true 181 289 .none .none .none (.ref 290) 554 555
abbrev zfq:=fo (.type "function") 52 3 (vs "changehall.classes" 527) (.ref 291)
abbrev zfr:=tu []
abbrev zla:=fi []
abbrev zfs:=tu [vs "hall" 560,vs "numbers" 561,vs "measured" 562]
abbrev zft:=tu []
abbrev zlb:=fo .none 53 0 .none .none
abbrev zfu:=co "basket_at" "/claim/cut.py" 557 558 559 192 2 3 293 true 181 294 .none (.ref 295) (.ref 296) (.ref 297) 563 564
abbrev zfv:=fo (.type "function") 53 3 (vs "changehall.classes" 527) (.ref 298)
abbrev zfw:=tu []
abbrev zlc:=fi []
abbrev zfx:=tu [vs "_law_script" 571,vs "_law_k" 572]
abbrev zfy:=tu []
abbrev zld:=fo .none 55 0 .none .none
abbrev zfz:=co "_law_cell_at" "/claim/cut.py" 568 569 570 197 2 3 300 true 181 301 .none (.ref 302) (.ref 303) (.ref 304) 573 574
abbrev zfA:=fo (.type "function") 55 3 (vs "law_changehall_k19_places_refused" 566) (.ref 305)
abbrev zfB:=tu []
abbrev zle:=fi []
abbrev zfC:=tu [vs "_law_cell" 579,vs "_law_mode" 580,vs "_law_number_here" 581,vs "_law_wide" 582]
abbrev zfD:=tu []
abbrev zlf:=fo .none 56 0 .none .none
abbrev zfE:=co "_law_number" "/claim/cut.py" 576 577 578 203 2 3 307 true 181 308 .none (.ref 309) (.ref 310) (.ref 311) 583 584
abbrev zfF:=fo (.type "function") 56 3 (vs "law_changehall_k19_places_refused" 566) (.ref 312)
abbrev t6(P:Params):BT:=ins (t5 P) [(3,o3_6 P),(12,o12_6),(239,zeU),(240,zkQ),(241,zkR),(242,zeV),(243,zeW),(244,zeX),(245,zkS),(246,zkT),(247,zeY),(248,zeZ),(249,zf),(250,zkU),(251,zkV),(252,zf0),(253,zf1),(254,zf2),(255,zkW),(256,zf3),(257,zf4),(258,zkX),(259,zf5),(260,zf6),(261,zf7),(262,zkY),(263,zkZ),(264,zf8),(265,zf9),(266,zfa),(267,zl0),(268,zl1),(269,zfb),(270,zfc),(271,zfd),(272,zl2),(273,zl3),(274,zfe),(275,zff),(276,zfg),(277,zl4),(278,zl5),(279,zfh),(280,zfi),(281,zfj),(282,zl6),(283,zfk),(284,zfl),(285,zl7),(286,zfm),(287,zfn),(288,zfo),(289,zl8),(290,zl9),(291,zfp),(292,zfq),(293,zfr),(294,zla),(295,zfs),(296,zft),(297,zlb),(298,zfu),(299,zfv),(300,zfw),(301,zlc),(302,zfx),(303,zfy),(304,zld),(305,zfz),(306,zfA),(307,zfB),(308,zle),(309,zfC),(310,zfD),(311,zlf),(312,zfE),(313,zfF)]
abbrev s6(w:World)(os:OsState):SharedT:=⟨t6 w.params,314,{ },#[],{ },586,os⟩
abbrev l5:List Stmt:=[top 42,top 43,top 44,top 45,top 46,top 47,top 48,top 49,top 50,top 51,top 52,top 53,top 54,top 55,top 56]
theorem run_5(w:World)(os:OsState):segRunT treeTable pw w 11 ann 1 387 (s5 w os) (piecesOf l5 env cE ⟨131,0,132,65⟩ fB)=some (.next,s6 w os,cE,⟨203,0,213,27⟩):=by
 rewrite[te_sT,te_tb];kernel_rfl
abbrev o3_7L(P:Params):List DictEntry:=de P "__name__" 165 (vs "law_changehall_k19_places_refused" 566)::(o3_6L P).tail++[de P "_law_row" 591 (.ref 318),de P "_law_bills" 597 (.ref 323),de P "_law_spoilt" 603 (.ref 328),de P "law" 609 (.ref 333)]
abbrev o3_7(P:Params):Obj:=⟨.type "dict",none,.dict (o3_7L P).toArray 62,#[]⟩
abbrev o12_7L:List Value:=zkP++[.int 214 0,.int 0 0,.ref 317,.int 216 0,.int 0 0,.ref 322,.int 228 0,.int 0 0,.ref 327,.int 242 0,.int 0 0,.ref 332]
abbrev o12_7:=fi o12_7L
abbrev zfG:=tu []
abbrev zlg:=fi []
abbrev zlh:=fo .none 57 0 .none .none
abbrev zfH:=co "_law_row" "/claim/cut.py" 586 587 588 214 4 3 314 true 181 315 .none .none .none (.ref 316) 589 590
abbrev zfI:=fo (.type "function") 57 3 (vs "law_changehall_k19_places_refused" 566) (.ref 317)
abbrev zfJ:=tu []
abbrev zli:=fi []
abbrev zlj:=fo .none 58 0 .none .none
abbrev zfK:=co "_law_bills" "/claim/cut.py" 592 593 594 216 1 3 319 true 181 320 .none .none .none (.ref 321) 595 596
abbrev zfL:=fo (.type "function") 58 3 (vs "law_changehall_k19_places_refused" 566) (.ref 322)
abbrev zfM:=tu []
abbrev zlk:=fi []
abbrev zll:=fo .none 59 0 .none .none
abbrev zfN:=co "_law_spoilt" "/claim/cut.py" 598 599 600 228 3 3 324 true 181 325 .none .none .none (.ref 326) 601 602
abbrev zfO:=fo (.type "function") 59 3 (vs "law_changehall_k19_places_refused" 566) (.ref 327)
abbrev zfP:=tu []
abbrev zlm:=fi []
abbrev zln:=fo .none 60 0 .none .none
abbrev zfQ:=co "law" "/claim/cut.py" 604 605 606 242 1 3 329 true 181 330 .none .none .none (.ref 331) 607 608
abbrev zfR:=fo (.type "function") 60 3 (vs "law_changehall_k19_places_refused" 566) (.ref 332)
abbrev t7(P:Params):BT:=ins (t6 P) [(3,o3_7 P),(12,o12_7),(314,zfG),(315,zlg),(316,zlh),(317,zfH),(318,zfI),(319,zfJ),(320,zli),(321,zlj),(322,zfK),(323,zfL),(324,zfM),(325,zlk),(326,zll),(327,zfN),(328,zfO),(329,zfP),(330,zlm),(331,zln),(332,zfQ),(333,zfR)]
abbrev s7(w:World)(os:OsState):SharedT:=⟨t7 w.params,334,{ },#[],{ },610,os⟩
abbrev l6:List Stmt:=[top 57,top 58,top 59,top 60]
theorem run_6(w:World)(os:OsState):segRunT treeTable pw w 11 ann 1 105 (s6 w os) (piecesOf l6 env cE ⟨203,0,213,27⟩ fB)=some (.next,s7 w os,cE,⟨242,0,255,28⟩):=by
 rewrite[te_sT,te_tb];kernel_rfl
def h1(P:Params):Heap:=⟨⟨[boot_o_0 P,boot_o_1 P,boot_o_2 P,o3_7 P,boot_o_4 P,boot_o_5 P,boot_o_6 P,boot_o_7 P,boot_o_8 P,boot_o_9 P,boot_o_10 P,o11a,o12_7,o13a,o14a,zjm,o16_1,o17_1 P,o18_1,o19_1,o20_1,o21_1,zjn,zjo P,zjw,zjp,o26_1,o27_1,zjr,o29_2,o30_2 P,o31_2,o32_2,o33_2,o34_2,zjs,zjt P,zju,o38_2,o39_2,zjx,o41_3,o42_3 P,o43_3,o44_3,o45_3,o46_3,zjy,zjz P,zjA,o50_3,o51_3,zjB,o53_3,zjC,zjD,o56_3,zjE,zjF,zjG,o60_3,o61_3,zjH,zjI,zjJ,o65_3,o66_3,zjK,zjL,zjM,o70_3,o71_3,zjN,zjO,zjP,o75_3,o76_3,zjQ,zjR,zjS,o80_3,o81_3,zjT,zjU,zjW,o85_4,o86_4,zjX,zjY,zjZ,o90_4,o91_4,zk0,zk1,zk2,o95_4,zk3,zk4,o98_4,zk5,zdo,zdp,zk6,zdq,zdr,zk7,zds,zdt,zdu,zk8,zdv,zdw,zk9,zdx,zdy,zdz,zka,zkb,zdA,zdB,zdC,zkc,zdD,zdE,zkd,zdF,zdG,zdH,zke,zdI,zdJ,zkf,zdK,zdL,zdM,zkg,zdN,zdO,zkh,zdP,zdQ,zdR,zki,zkj,zdS,zdT,zdU,zkk,zkl,zdV,zdW,zdX,zkm,zdY,zdZ,zkn,ze,ze0,ze1,zkp,ze2,ze3,zkq,ze4,ze5,ze6,zkr,ze7,ze8,zks,ze9,zea,zeb,zkt,zec,zed,zku,zee,zef,zeg,zkv,zeh,zei,zkw,zej,zek,zel,zkx,zem,zen,zky,zeo,zep,zeq,zkz,zkA,zer,zes,zet,zkB,zeu,zev,zkC,zew,zex,zey,zkD,zez,zeA,zkE,zeB,zeC,zeD,zkF,zkG,zeE,zeF,zeG,zkH,zkI,zeH,zeI,zeJ,zkJ,zkK,zeK,zeL,zeM,zkL,zeN,zeO,zkM,zeP,zeQ,zeR,zkN,zkO,zeS,zeT,zeU,zkQ,zkR,zeV,zeW,zeX,zkS,zkT,zeY,zeZ,zf,zkU,zkV,zf0,zf1,zf2,zkW,zf3,zf4,zkX,zf5,zf6,zf7,zkY,zkZ,zf8,zf9,zfa,zl0,zl1,zfb,zfc,zfd,zl2,zl3,zfe,zff,zfg,zl4,zl5,zfh,zfi,zfj,zl6,zfk,zfl,zl7,zfm,zfn,zfo,zl8,zl9,zfp,zfq,zfr,zla,zfs,zft,zlb,zfu,zfv,zfw,zlc,zfx,zfy,zld,zfz,zfA,zfB,zle,zfC,zfD,zlf,zfE,zfF,zfG,zlg,zlh,zfH,zfI,zfJ,zli,zlj,zfK,zfL,zfM,zlk,zll,zfN,zfO,zfP,zlm,zln,zfQ,zfR]⟩,{ }⟩
abbrev z0r:Drawn:={ }
theorem run_z(w:World)(os:OsState):topRun treeTable pw w 11 ann 2 (s7 w os).abs ⟨doneF .next,cE,⟨242,0,255,28⟩,fB⟩=some ⟨h1 w.params,#[],z0r,610,os⟩:=by
 rewrite[te_tr,te_tb];kernel_rfl
theorem zml:behindTheImports pw=(l0++(l1++(l2++(l3++(l4++(l5++(l6++[]))))))):=by kernel_rfl
theorem run_all(w:World)(os:OsState):topRun treeTable pw w 11 ann (12+(1+(196+(214+(382+(381+(399+(387+(105+2))))))))) ⟨boot_heap w.params,#[],boot_drawn,boot_toks,os⟩ (topStub pw)=some ⟨h1 w.params,#[],z0r,610,os⟩ :=
 go_top (run_a w os) (piece_block (env:=env) (run_b w os) (by rw[zml];exact(piece_app (segRun_of (run_0 w os)) (piece_app (segRun_of (run_1 w os)) (piece_app (segRun_of (run_2 w os)) (piece_app (segRun_of (run_3 w os)) (piece_app (segRun_of (run_4 w os)) (piece_app (segRun_of (run_5 w os)) (piece_app (segRun_of (run_6 w os)) (run_z w os))))))))))
abbrev keep:List Nat:=[1,2,3,5,6,7,8,9,10,11,12,13,14,16,17,18,19,20,21,22,23,25,26,27,29,30,31,32,33,34,35,36,37,38,39,41,42,43,44,45,46,47,49,50,51,52,53,55,56,57,58,59,60]
def K:Params→PySem.W.Frag:=fun P=>(nat_lit 2,boot_o_2 P)::(nat_lit 3,o3_7 P)::(nat_lit 15,zjm)::(nat_lit 22,zjn)::(nat_lit 23,zjo P)::(nat_lit 24,zjw)::(nat_lit 25,zjp)::(nat_lit 28,zjr)::(nat_lit 35,zjs)::(nat_lit 36,zjt P)::(nat_lit 37,zju)::(nat_lit 40,zjx)::(nat_lit 47,zjy)::(nat_lit 48,zjz P)::(nat_lit 49,zjA)::(nat_lit 52,zjB)::(nat_lit 54,zjC)::(nat_lit 55,zjD)::(nat_lit 57,zjE)::(nat_lit 58,zjF)::(nat_lit 59,zjG)::(nat_lit 62,zjH)::(nat_lit 63,zjI)::(nat_lit 64,zjJ)::(nat_lit 67,zjK)::(nat_lit 68,zjL)::(nat_lit 69,zjM)::(nat_lit 72,zjN)::(nat_lit 73,zjO)::(nat_lit 74,zjP)::(nat_lit 77,zjQ)::(nat_lit 78,zjR)::(nat_lit 79,zjS)::(nat_lit 82,zjT)::(nat_lit 83,zjU)::(nat_lit 84,zjW)::(nat_lit 87,zjX)::(nat_lit 88,zjY)::(nat_lit 89,zjZ)::(nat_lit 92,zk0)::(nat_lit 93,zk1)::(nat_lit 94,zk2)::(nat_lit 96,zk3)::(nat_lit 97,zk4)::(nat_lit 99,zk5)::(nat_lit 100,zdo)::(nat_lit 101,zdp)::(nat_lit 103,zdq)::(nat_lit 104,zdr)::(nat_lit 106,zds)::(nat_lit 107,zdt)::(nat_lit 108,zdu)::(nat_lit 110,zdv)::(nat_lit 111,zdw)::(nat_lit 113,zdx)::(nat_lit 114,zdy)::(nat_lit 115,zdz)::(nat_lit 118,zdA)::(nat_lit 119,zdB)::(nat_lit 120,zdC)::(nat_lit 122,zdD)::(nat_lit 123,zdE)::(nat_lit 125,zdF)::(nat_lit 126,zdG)::(nat_lit 127,zdH)::(nat_lit 129,zdI)::(nat_lit 130,zdJ)::(nat_lit 132,zdK)::(nat_lit 133,zdL)::(nat_lit 134,zdM)::(nat_lit 136,zdN)::(nat_lit 137,zdO)::(nat_lit 139,zdP)::(nat_lit 140,zdQ)::(nat_lit 141,zdR)::(nat_lit 144,zdS)::(nat_lit 145,zdT)::(nat_lit 146,zdU)::(nat_lit 149,zdV)::(nat_lit 150,zdW)::(nat_lit 151,zdX)::(nat_lit 153,zdY)::(nat_lit 154,zdZ)::(nat_lit 156,ze)::(nat_lit 157,ze0)::(nat_lit 158,ze1)::(nat_lit 160,ze2)::(nat_lit 161,ze3)::(nat_lit 163,ze4)::(nat_lit 164,ze5)::(nat_lit 165,ze6)::(nat_lit 167,ze7)::(nat_lit 168,ze8)::(nat_lit 170,ze9)::(nat_lit 171,zea)::(nat_lit 172,zeb)::(nat_lit 174,zec)::(nat_lit 175,zed)::(nat_lit 177,zee)::(nat_lit 178,zef)::(nat_lit 179,zeg)::(nat_lit 181,zeh)::(nat_lit 182,zei)::(nat_lit 184,zej)::(nat_lit 185,zek)::(nat_lit 186,zel)::(nat_lit 188,zem)::(nat_lit 189,zen)::(nat_lit 191,zeo)::(nat_lit 192,zep)::(nat_lit 193,zeq)::(nat_lit 196,zer)::(nat_lit 197,zes)::(nat_lit 198,zet)::(nat_lit 200,zeu)::(nat_lit 201,zev)::(nat_lit 203,zew)::(nat_lit 204,zex)::(nat_lit 205,zey)::(nat_lit 207,zez)::(nat_lit 208,zeA)::(nat_lit 210,zeB)::(nat_lit 211,zeC)::(nat_lit 212,zeD)::(nat_lit 215,zeE)::(nat_lit 216,zeF)::(nat_lit 217,zeG)::(nat_lit 220,zeH)::(nat_lit 221,zeI)::(nat_lit 222,zeJ)::(nat_lit 225,zeK)::(nat_lit 226,zeL)::(nat_lit 227,zeM)::(nat_lit 229,zeN)::(nat_lit 230,zeO)::(nat_lit 232,zeP)::(nat_lit 233,zeQ)::(nat_lit 234,zeR)::(nat_lit 237,zeS)::(nat_lit 238,zeT)::(nat_lit 239,zeU)::(nat_lit 242,zeV)::(nat_lit 243,zeW)::(nat_lit 244,zeX)::(nat_lit 247,zeY)::(nat_lit 248,zeZ)::(nat_lit 249,zf)::(nat_lit 252,zf0)::(nat_lit 253,zf1)::(nat_lit 254,zf2)::(nat_lit 256,zf3)::(nat_lit 257,zf4)::(nat_lit 259,zf5)::(nat_lit 260,zf6)::(nat_lit 261,zf7)::(nat_lit 264,zf8)::(nat_lit 265,zf9)::(nat_lit 266,zfa)::(nat_lit 269,zfb)::(nat_lit 270,zfc)::(nat_lit 271,zfd)::(nat_lit 274,zfe)::(nat_lit 275,zff)::(nat_lit 276,zfg)::(nat_lit 279,zfh)::(nat_lit 280,zfi)::(nat_lit 281,zfj)::(nat_lit 283,zfk)::(nat_lit 284,zfl)::(nat_lit 286,zfm)::(nat_lit 287,zfn)::(nat_lit 288,zfo)::(nat_lit 291,zfp)::(nat_lit 292,zfq)::(nat_lit 293,zfr)::(nat_lit 295,zfs)::(nat_lit 296,zft)::(nat_lit 298,zfu)::(nat_lit 299,zfv)::(nat_lit 300,zfw)::(nat_lit 302,zfx)::(nat_lit 303,zfy)::(nat_lit 305,zfz)::(nat_lit 306,zfA)::(nat_lit 307,zfB)::(nat_lit 309,zfC)::(nat_lit 310,zfD)::(nat_lit 312,zfE)::(nat_lit 313,zfF)::(nat_lit 314,zfG)::(nat_lit 317,zfH)::(nat_lit 318,zfI)::(nat_lit 319,zfJ)::(nat_lit 322,zfK)::(nat_lit 323,zfL)::(nat_lit 324,zfM)::(nat_lit 327,zfN)::(nat_lit 328,zfO)::(nat_lit 329,zfP)::(nat_lit 332,zfQ)::(nat_lit 333,zfR)::[]
abbrev Ka:List Addr:=[2,3,15,22,23,24,25,28,35,36,37,40,47,48,49,52,54,55,57,58,59,62,63,64,67,68,69,72,73,74,77,78,79,82,83,84,87,88,89,92,93,94,96,97,99,100,101,103,104,106,107,108,110,111,113,114,115,118,119,120,122,123,125,126,127,129,130,132,133,134,136,137,139,140,141,144,145,146,149,150,151,153,154,156,157,158,160,161,163,164,165,167,168,170,171,172,174,175,177,178,179,181,182,184,185,186,188,189,191,192,193,196,197,198,200,201,203,204,205,207,208,210,211,212,215,216,217,220,221,222,225,226,227,229,230,232,233,234,237,238,239,242,243,244,247,248,249,252,253,254,256,257,259,260,261,264,265,266,269,270,271,274,275,276,279,280,281,283,284,286,287,288,291,292,293,295,296,298,299,300,302,303,305,306,307,309,310,312,313,314,317,318,319,322,323,324,327,328,329,332,333]
theorem Ke(P:Params):Ka=(K P).map (·.1):=by kernel_rfl
abbrev qv:Program:=view pw keep
abbrev Xt:Shared→Bool:=fun s=>xlAt qv [] s&&recOk [] s
theorem opened:∀ w:World,(fencedOpening treeTable pw w 4240).map (fun s=>(s.heap,s.gens,s.drawn,s.toks))=some (boot_heap w.params,Array.mk [],boot_drawn,boot_toks):=boot_open (by kernel_rfl) (by kernel_rfl) (fun s=>by kernel_rfl)
theorem sized(w:World):((boot_heap w.params).isNs mainGlobals&&(Array.mk []:Array GenState).size==0,(boot_heap w.params).objs.size,(boot_heap w.params).nsMap mainGlobals "__annotations__")=(true,11,ann):=by
 rewrite[te_ns];kernel_rfl
theorem lk0(w:World)(os:OsState):(staticsOk (importedModules pw.main.body) (boot_heap w.params) (h1 w.params)&&namesBound pw (h1 w.params)&&gensDone ⟨h1 w.params,#[],z0r,610,os⟩&&laidKept (boot_heap w.params) (h1 w.params))=true:=by
 rewrite[te_im];kernel_rfl
theorem lk1(w:World)(os:OsState):seen ((recsOf qv).map (·.name)) (ownsOf qv) [] { (⟨h1 w.params,#[],z0r,610,os⟩:Shared)with gens:=#[] }=expectedOf qv:=by
 rewrite[te_seen,te_recs,te_owns];kernel_rfl
theorem lk2(w:World)(os:OsState):(⟨h1 w.params,#[],z0r,610,os⟩:Shared).heap.bltView=bltViewBooted:=by
 kernel_rfl
theorem lk3(w:World)(os:OsState):((⟨h1 w.params,#[],z0r,610,os⟩:Shared).heap.keysOk (looseW qv []) ((recsOf qv).map (·.name)) ((litsOf qv).map (·.1)) ((clssOf qv (looseW qv [])).map (·.name))&&(⟨h1 w.params,#[],z0r,610,os⟩:Shared).heap.accountedOkI (importedModules pw.main.body)&&(⟨h1 w.params,#[],z0r,610,os⟩:Shared).heap.isNs mainGlobals&&(⟨h1 w.params,#[],z0r,610,os⟩:Shared).heap.isNs builtinsNs&&tablesOk qv (⟨h1 w.params,#[],z0r,610,os⟩:Shared).heap&&Xt ⟨h1 w.params,#[],z0r,610,os⟩&&(if true=true then(⟨h1 w.params,#[],z0r,610,os⟩:Shared).gens.size==0 else !leftWithCleanup (⟨h1 w.params,#[],z0r,610,os⟩:Shared).gens))=true:=by
 rewrite[te_keys,te_loose,te_recs,te_lits,te_clss,te_acc,te_im,te_tabl];kernel_rfl
theorem lk4(w:World)(os:OsState):tabsOk qv ⟨h1 w.params,#[],z0r,610,os⟩=true:=by
 rewrite[te_tabs];kernel_rfl
theorem lk5(w:World)(os:OsState):pinSeenD qv (drecsOf qv) ⟨h1 w.params,#[],z0r,610,os⟩=pinGoodD (drecsOf qv):=by
 rewrite[te_pin,te_drecs];kernel_rfl
theorem lk6(w:World)(os:OsState):plainSeenE qv (looseW qv []) ⟨h1 w.params,#[],z0r,610,os⟩=plainGoodE qv (looseW qv []):=by
 rewrite[te_pE,te_loose];kernel_rfl
theorem lk7(w:World)(os:OsState):plainSeenD qv [] ⟨h1 w.params,#[],z0r,610,os⟩=plainGoodD qv []:=by
 rewrite[te_pD];kernel_rfl
theorem lk8(w:World)(os:OsState):wideSeen qv ⟨h1 w.params,#[],z0r,610,os⟩=wideGood qv:=by
 rewrite[te_wide];kernel_rfl
theorem lk9(w:World)(os:OsState):clsSeenW qv [] ⟨h1 w.params,#[],z0r,610,os⟩=clsGoodW qv []:=by
 rewrite[te_cls];kernel_rfl
theorem lk10(w:World)(os:OsState):Hook.obs (kHook K Ka Ke) ⟨h1 w.params,#[],z0r,610,os⟩=Hook.val (kHook K Ka Ke) w:=by
 kernel_rfl
theorem sn(w:World)(os:OsState):openSeen qv [] (importedModules pw.main.body) Xt true ⟨h1 w.params,#[],z0r,610,os⟩=(seen ((recsOf qv).map (·.name)) (ownsOf qv) [] { (⟨h1 w.params,#[],z0r,610,os⟩:Shared)with gens:=#[] },(⟨h1 w.params,#[],z0r,610,os⟩:Shared).heap.bltView,((⟨h1 w.params,#[],z0r,610,os⟩:Shared).heap.keysOk (looseW qv []) ((recsOf qv).map (·.name)) ((litsOf qv).map (·.1)) ((clssOf qv (looseW qv [])).map (·.name))&&(⟨h1 w.params,#[],z0r,610,os⟩:Shared).heap.accountedOkI (importedModules pw.main.body)&&(⟨h1 w.params,#[],z0r,610,os⟩:Shared).heap.isNs mainGlobals&&(⟨h1 w.params,#[],z0r,610,os⟩:Shared).heap.isNs builtinsNs&&tablesOk qv (⟨h1 w.params,#[],z0r,610,os⟩:Shared).heap&&Xt ⟨h1 w.params,#[],z0r,610,os⟩&&(if true=true then(⟨h1 w.params,#[],z0r,610,os⟩:Shared).gens.size==0 else !leftWithCleanup (⟨h1 w.params,#[],z0r,610,os⟩:Shared).gens)),tabsOk qv ⟨h1 w.params,#[],z0r,610,os⟩,pinSeenD qv (drecsOf qv) ⟨h1 w.params,#[],z0r,610,os⟩,plainSeenE qv (looseW qv []) ⟨h1 w.params,#[],z0r,610,os⟩,plainSeenD qv [] ⟨h1 w.params,#[],z0r,610,os⟩,wideSeen qv ⟨h1 w.params,#[],z0r,610,os⟩,clsSeenW qv [] ⟨h1 w.params,#[],z0r,610,os⟩):=by kernel_rfl
theorem gd:openGood qv []=(expectedOf qv,bltViewBooted,true,true,pinGoodD (drecsOf qv),plainGoodE qv (looseW qv []),plainGoodD qv [],wideGood qv,clsGoodW qv []):=by kernel_rfl
theorem lkS(w:World)(os:OsState):openSeen qv [] (importedModules pw.main.body) Xt true ⟨h1 w.params,#[],z0r,610,os⟩=openGood qv []:=(sn w os).trans (Eq.trans (looks_pair (lk1 w os) (looks_pair (lk2 w os) (looks_pair (lk3 w os) (looks_pair (lk4 w os) (looks_pair (lk5 w os) (looks_pair (lk6 w os) (looks_pair (lk7 w os) (looks_pair (lk8 w os) (lk9 w os))))))))) gd.symm)
theorem left:LeftO pw qv [] Xt (Hook.obs (kHook K Ka Ke)) (Hook.val (kHook K Ka Ke)) 4240 :=
 LeftO.of_pieces (H₀:=boot_heap) (H₁:=h1) (gs₀:=Array.mk []) (gs₁:=#[]) (d₀:=boot_drawn) (d₁:=z0r) (k₀:=boot_toks) (k₁:=610) (m₀:=11) (ann:=ann) (M:=(12+(1+(196+(214+(382+(381+(399+(387+(105+2)))))))))) opened sized run_all (by kernel_rfl) (fun w=>funext fun os =>
  looks_pair (lk0 w os) (looks_pair (lkS w os) (lk10 w os)))
end
end H
end K19
open PySem PySem.W PyProof.Rows
set_option maxRecDepth 100000 in
set_option maxHeartbeats 0 in
theorem PySem.Challenge.cw_changehall_k19_places_refused_holds : PySem.Challenge.rw_changehall_k19_places_refused.Holds := by
 w_on;o_law
 refine PySem.W.holds_open (q:=K19.H.qv) (loose:=[]) (Xt:=K19.H.Xt) (XP:=XL K19.H.qv []) (Yf:=Hook.obs (kHook K19.H.K K19.H.Ka K19.H.Ke)) (Ya:=Hook.val (kHook K19.H.K K19.H.Ka K19.H.Ke)) (YP:=Hook.says (kHook K19.H.K K19.H.Ka K19.H.Ke)) (N:=4240) K19.H.left (Hook.of _) (Hook.keeps _) (fun s e=>xl_of s (Bool.and_eq_true_iff.mp e).1) XL.keeps (by rfl) (by rfl) (by rfl) (fun s e=>recFacts_of (Bool.and_eq_true_iff.mp e).2) (by rfl) (by first|assumption|decide +kernel) (by decide +kernel) ⟨rfl,rfl,rfl,rfl,rfl,by decide +kernel⟩ ?hw ?hc
 (case hw=>w_witness2)
 k_fill
 refine L2.zh8 (x := "_law_script") (k:=10) (fr:=true) (c:=K19.zgt) (l:=PySem.Challenge.rw_changehall_k19_places_refused) rfl rfl (fun w h Y=>PySem.W.kIn_of Y) ?F (fun ns hl=>K19.zja ns hl) ⟨rfl,by decide,by decide⟩
 case F =>
  intro w mg fa h KX G hmg
  refine' K19.zjk KX G hmg (L2.dh ?e0 ?l0 ?c0 ?k0) (L2.dh ?e1 ?l1 ?c1 ?k1) (L2.dh ?e2 ?l2 ?c2 ?k2) (L2.dh ?e3 ?l3 ?c3 ?k3) (L2.dh ?e4 ?l4 ?c4 ?k4) (L2.dh ?e5 ?l5 ?c5 ?k5) (L2.dh ?e6 ?l6 ?c6 ?k6) (L2.dh ?e7 ?l7 ?c7 ?k7) (L2.dh ?e8 ?l8 ?c8 ?k8) (L2.dh ?e9 ?l9 ?c9 ?k9) (L2.dh ?e10 ?l10 ?c10 ?k10) (L2.dh ?e11 ?l11 ?c11 ?k11) (L2.dh ?e12 ?l12 ?c12 ?k12) (L2.dh ?e13 ?l13 ?c13 ?k13) (L2.dh ?e14 ?l14 ?c14 ?k14) (L2.dh ?e15 ?l15 ?c15 ?k15) (L2.dh ?e16 ?l16 ?c16 ?k16) (L2.dh ?e17 ?l17 ?c17 ?k17) (L2.dh ?e18 ?l18 ?c18 ?k18) (L2.dh ?e19 ?l19 ?c19 ?k19) (L2.dh ?e20 ?l20 ?c20 ?k20) (L2.dh ?e21 ?l21 ?c21 ?k21) (L2.dh ?e22 ?l22 ?c22 ?k22) (L2.dh ?e23 ?l23 ?c23 ?k23) (L2.dh ?e24 ?l24 ?c24 ?k24) (L2.dh ?e25 ?l25 ?c25 ?k25) (L2.dh ?e26 ?l26 ?c26 ?k26) (L2.dh ?e27 ?l27 ?c27 ?k27) (L2.dh ?e28 ?l28 ?c28 ?k28) (L2.dh ?e29 ?l29 ?c29 ?k29) (L2.dh ?e30 ?l30 ?c30 ?k30) (L2.dh ?e31 ?l31 ?c31 ?k31) (L2.dh ?e32 ?l32 ?c32 ?k32) (L2.dh ?e33 ?l33 ?c33 ?k33) (L2.dh ?e34 ?l34 ?c34 ?k34) (L2.dh ?e35 ?l35 ?c35 ?k35) (L2.dh ?e36 ?l36 ?c36 ?k36) (L2.dh ?e37 ?l37 ?c37 ?k37) (L2.dh ?e38 ?l38 ?c38 ?k38) (L2.dh ?e39 ?l39 ?c39 ?k39) (L2.dh ?e40 ?l40 ?c40 ?k40) (L2.dh ?e41 ?l41 ?c41 ?k41) ?z_ValueError ?z_abs ?z_all ?z_any ?z_bool ?z_enumerate ?z_int ?z_isinstance ?z_len ?z_list ?z_range ?z_reversed ?z_sorted ?z_tuple ?z_zip ?y_MOST_BILLS ?y_MOST_KINDS ?w_HallError ?w_NoPlace ?u_NoPlace ?v_NoPlace ?o_NoPlace_HallError ?o_NoPlace_NoPlace
  all_goals try k_is
  all_goals kernel_rfl

end
