import PyProof.Rows.All
import Wide.All
import OpenK.AllK
import Wide.FinOn
import Lean
import PyProof.EqAt
import PyProof.EqKinds
import PyProof.TupleCall
import PyProof.CompFree
import PyProof.Cells
import PySem.Challenge.RW_changehall_k14_scales_fair
set_option Elab.async false
set_option linter.all false
set_option maxRecDepth 100000
set_option exponentiation.threshold 20000
section
local macro_rules|`(tactic| omega)=>`(tactic| first|lia|omega +splitDisjunctions)
set_option Elab.async false
set_option linter.all false
set_option maxRecDepth 100000
namespace L2
open PySem PySem.Spec PyProof.Rows
abbrev Key:=Sum Int Str
def keyIs:Key→Value→Bool
 | .inl k,v=>Value.isInt k v
 | .inr x,v=>Value.isStrOf x v
def keyH(w:World):Key→Int
 | .inl k=>hashInt k
 | .inr x=>hashStr w x
theorem z1b:∀{k:Key} {v:Value},keyIs k v=true→(∃ i t,k=Sum.inl i∧v=Value.int i t)∨(∃ x t,k=Sum.inr x∧v=Value.str x t)
 | .inl i,v,h=>by
  obtain⟨t,e⟩:=Value.isInt_shape (k:=i) (v:=v) h
  exact .inl ⟨i,t,rfl,e⟩
 | .inr x,v,h=>by
  obtain⟨t,e⟩:=Value.isStrOf_shape (x:=x) (v:=v) h
  exact .inr ⟨x,t,rfl,e⟩
theorem key_ll(a b:Int):decide ((Sum.inl a:Key)=Sum.inl b)=(a==b):=by
 by_cases e:a=b
 · subst e;simp
 · have h:¬(Sum.inl a:Key)=Sum.inl b:=fun q=>e (Sum.inl.inj q)
   rw[decide_eq_false h]
   exact(beq_eq_false_iff_ne.mpr e).symm
theorem key_rr(a b:Str):decide ((Sum.inr a:Key)=Sum.inr b)=decide (a=b):=by
 by_cases e:a=b
 · subst e;simp
 · have h:¬(Sum.inr a:Key)=Sum.inr b:=fun q=>e (Sum.inr.inj q)
   rw[decide_eq_false h,decide_eq_false e]
theorem key_lr(a:Int)(b:Str):decide ((Sum.inl a:Key)=Sum.inr b)=false:=decide_eq_false (fun q=>nomatch q)
theorem key_rl(a:Str)(b:Int):decide ((Sum.inr a:Key)=Sum.inl b)=false:=decide_eq_false (fun q=>nomatch q)
def zbz(prog:Program)(w:World):PySem.KeyKind prog w Key where
 is:=keyIs
 hash:=keyH w
 inj:=fun v a b ha hb=>by
  rcases z1b ha with⟨i,t,rfl,rfl⟩|⟨x,t,rfl,rfl⟩
  · rcases z1b hb with⟨j,u,rfl,e⟩|⟨y,u,rfl,e⟩
    · injection e with e1 _;rw[e1]
    · exact nomatch e
  · rcases z1b hb with⟨j,u,rfl,e⟩|⟨y,u,rfl,e⟩
    · exact nomatch e
    · injection e with e1 _;rw[e1]
 byValue:=fun k v h=>by
  rcases z1b h with⟨i,t,rfl,rfl⟩|⟨x,t,rfl,rfl⟩<;>rfl
 pyHash:=fun hv h=>by
  rcases z1b hv with⟨i,t,rfl,rfl⟩|⟨x,t,rfl,rfl⟩
  · exact wpAny_pyHash_int h
  · exact wpAny_pyHash_str h
 eqBool:=fun hu hv h=>by
  rcases z1b hu with⟨i,t,rfl,rfl⟩|⟨x,t,rfl,rfl⟩
  · rcases z1b hv with⟨j,u,rfl,rfl⟩|⟨y,u,rfl,rfl⟩
    · rw[key_ll]at h;exact wpAny_eqBool_int h
    · rw[key_lr]at h;exact SeqAt.EqAt.int_str i t y u _ _ _ _ h
  · rcases z1b hv with⟨j,u,rfl,rfl⟩|⟨y,u,rfl,rfl⟩
    · rw[key_rl]at h;exact SeqAt.EqAt.str_int x t j u _ _ _ _ h
    · rw[key_rr]at h;exact wpAny_eqBool_str h
 «strs»:=fun k x t v h=>by
  rcases z1b h with⟨i,u,rfl,e⟩|⟨y,u,rfl,e⟩
  · exact nomatch e
  · injection e with e1 _
    subst e1
    cases v<;>rfl
end L2
namespace L2
open PySem PySem.Spec PyProof.Rows
inductive V where
 | non|bl (b:Bool)|int (i:Int)|str (x:Str)|byt (b:Array UInt8)|flt (b:UInt64)|ref (a:Addr)|ty (n:String)
 deriving DecidableEq
def RelV:V→Value→Prop
 | .non,u=>u=Value.none
 | .bl b,u=>u=Value.bool b
 | .int i,u=>∃ t,u=Value.int i t
 | .str x,u=>∃ t,u=Value.str x t
 | .byt b,u=>∃ t,u=Value.bytes b t
 | .flt b,u=>∃ t,u=Value.float b t
 | .ref a,u=>u=Value.ref a
 | .ty n,u=>u=Value.type n
abbrev Vals:List V→List Value→Prop:=Paired RelV
theorem Vals.length{xs:List V}{us:List Value}(r:Vals xs us):xs.length=us.length:=Paired.length r
theorem Vals.get:∀{xs:List V} {us:List Value} {i:Nat} {x:V},Vals xs us→xs[i]?=some x→∃ u,us[i]?=some u∧RelV x u
 | _,_,_,_,.nil,e=>by simp at e
 | _,_,0,_,.cons r _,e=>by simp at e;subst e;exact⟨_,rfl,r⟩
 | _,_,i+1,x,.cons _ t,e=>by
  obtain⟨u,h1,h2⟩:=Vals.get (i:=i) (x:=x) t (by simpa using e)
  exact⟨u,by simpa using h1,h2⟩
theorem Vals.set{x:V}{u:Value}(r:RelV x u):∀{xs:List V} {us:List Value} (i:Nat),Vals xs us→Vals (xs.set i x) (us.set i u)
 | _,_,_,.nil => .nil
 | _,_,0,.cons _ t => .cons r t
 | _,_,i+1,.cons q t => .cons q (Vals.set r i t)
theorem Vals.append:∀{xs ys:List V} {us ws:List Value},Vals xs us→Vals ys ws→Vals (xs++ys) (us++ws)
 | _,_,_,_,.nil,s=>s
 | _,_,_,_,.cons r t,s => .cons r (Vals.append t s)
theorem Vals.take:∀{xs:List V} {us:List Value} (n:Nat),Vals xs us→Vals (xs.take n) (us.take n)
 | _,_,0,_ => .nil
 | _,_,_+1,.nil => .nil
 | _,_,n+1,.cons r t => .cons r (Vals.take n t)
theorem Vals.drop:∀{xs:List V} {us:List Value} (n:Nat),Vals xs us→Vals (xs.drop n) (us.drop n)
 | _,_,0,r=>r
 | _,_,_+1,.nil => .nil
 | _,_,n+1,.cons _ t=>Vals.drop n t
theorem Vals.none_of:∀{xs:List V} {us:List Value} {i:Nat},Vals xs us→xs[i]?=none→us[i]?=none:=fun{xs us i} r e=>by
 have h1:=r.length
 have h2:xs.length≤i:=List.getElem?_eq_none_iff.mp e
 exact List.getElem?_eq_none_iff.mpr (by omega)
def RelO:Option V→Option Value→Prop
 | some v,some u=>RelV v u
 | none,none=>True
 | _,_=>False
def KV{κ:Type}:List (κ×V)→List (κ×Value)→Prop:=Paired fun(p:κ×V) (q:κ×Value)=>p.1=q.1∧RelV p.2 q.2
def kV:Key→V
 | .inl i => .int i
 | .inr x => .str x
inductive HO where
 | lst (xs:List V)
 | tup (xs:List V)
 | dK (kvs:List (Key×V))|dT (kvs:List (List Key×V))
 | set (S:Int→Bool) (n:Nat)
 | ins (C dx:Addr) (fs:List (Str×V))
 | own (x:Addr)
 | xd (fs:List (Str×V))
 | met (f x:Addr)
 | rng (lo hi:Int)
 | frz (o:Obj) (u:HO)
 | tbl (ps:Array Value)
 | ext (φ:Heap→Prop)
abbrev Hp:=Addr→Option HO
def upd(H:Hp)(a:Addr)(o:HO):Hp:=fun b=>if b=a then some o else H b
theorem z10{H:Hp}{a:Addr}{o:HO}:upd H a o a=some o:=by unfold upd;rw[if_pos rfl]
theorem z0v{H:Hp}{a b:Addr}{o:HO}(h:b≠a):upd H a o b=H b:=by unfold upd;rw[if_neg h]
theorem z2m{H:Hp}{a b:Addr}{o:HO}(h:H a=some o)(h':H b=none):a≠b:=by
 intro e;subst e;rw[h]at h';cases h'
section
variable (P:Program)(w:World)
def ObjOk(H:Hp)(h:Heap)(a:Addr):HO→Prop
 | .lst xs=>xs.length≤sizeLine∧∃(its:List Value) (n:Nat),Vals xs its∧h.get? a=some { cls := .type "list",data := .seq its.toArray n }
 | .tup xs=>xs.length≤sizeLine∧∃ its:List Value,Vals xs its∧IsTup h a its.toArray
 | .dK kvs=>kvs.length≤sizeLine∧(a==sysModules)=false∧∃ vs,KV kvs vs∧h.DictOf (zbz P w) a vs
 | .dT kvs=>kvs.length≤sizeLine∧(a==sysModules)=false∧∃ xs:List (List Key×Addr×Value),
  Paired (fun(p:List Key×V) (q:List Key×Addr×Value)=>p.1=q.1∧H q.2.1=some (.tup (p.1.map kV))∧RelV p.2 q.2.2) kvs xs ∧
  ∃ o es ep,h.get? a=some o∧o.ExactDict∧o.data = .dict es ep∧es.toList=xs.map (entryOfKey (tupleKind (zbz P w)))∧(xs.map (·.1)).Nodup
 | .set S n=>h.SetOf (intKind P w) a S n
 | .ins C dx fs=>H dx=some (.own a)∧fs.length≤1000∧dx≠a∧h.get? a=some (PySem.W.instObj C dx) ∧
  ∃ mA,h.Ns1 dx mA∧(∀ f,RelO (fs.lookup f) (mA f))∧PySem.Within mA (fs.map (·.1))
 | .own _=>∃ o,h.get? a=some o
 | .xd fs=>∃ mA,h.Ns1 a mA∧∀ f,RelO (fs.lookup f) (mA f)
 | .rng lo hi=>∃ t u v,h.get? a=some { cls := .type "range",data := .fields #[.int lo t,.int hi u,.int 1 v] }
 | .frz o u=>h.get? a=some o∧ObjOk H h a u
 | .tbl ps=>h.get? a=some { cls := .none,data := .fields ps }
 | .met f x=>h.get? a=some (PySem.W.methodObj (.ref f) (.ref x))
 | .ext φ=>φ h∧(∃ o,h.get? a=some o)∧∀ h1 h2:Heap,φ h1→(∀ o,h1.get? a=some o→h2.get? a=some o)→φ h2
def HOk(H:Hp)(h:Heap):Prop:=∀ a o,H a=some o→ObjOk P w H h a o
end
section
variable {P:Program}{w:World}{H H':Hp}{h h':Heap}{a:Addr}{o:HO}
theorem ObjOk.lt(x:ObjOk P w H h a o):a<h.objs.size:=by
 cases o with
 | lst xs=>obtain⟨_,_,_,_,e⟩:=x;exact Heap.lt_size e
 | tup xs=>obtain⟨_,_,_,p⟩:=x;exact p.lt
 | dK kvs=>obtain⟨_,_,_,_,o,_,_,e,_⟩:=x;exact Heap.lt_size e
 | dT kvs=>obtain⟨_,_,_,_,o,_,_,e,_⟩:=x;exact Heap.lt_size e
 | set S n=>obtain⟨o,_,_,_,e,_⟩:=x;exact Heap.lt_size e
 | ins C dx fs=>obtain⟨_,_,_,e,_⟩:=x;exact Heap.lt_size e
 | own y=>obtain⟨_,e⟩:=x;exact Heap.lt_size e
 | xd fs=>obtain⟨_,⟨_,_,_,e,_⟩,_⟩:=x;exact Heap.lt_size e
 | rng lo hi=>obtain⟨_,_,_,e⟩:=x;exact Heap.lt_size e
 | frz ob u=>obtain⟨e,_⟩:=x;exact Heap.lt_size e
 | tbl ps=>exact Heap.lt_size (show h.get? a=some _ from x)
 | met f y=>exact Heap.lt_size (show h.get? a=some _ from x)
 | ext φ=>obtain⟨_,⟨_,e⟩,_⟩:=x;exact Heap.lt_size e
theorem Paired.mapP{α β:Type}{F G:α→β→Prop}:∀{l₁:List α} {l₂:List β},Paired F l₁ l₂→(∀ a b,F a b→G a b)→Paired G l₁ l₂
 | _,_,.nil,_ => .nil
 | _,_,.cons r t,f => .cons (f _ _ r) (Paired.mapP t f)
theorem ObjOk.stay(x:ObjOk P w H h a o)(k:∀ b u,(b=a∨H b=some (.own a))→h.get? b=some u→h'.get? b=some u)
  (ho:∀ b,H b=some (.own a)→H' b=some (.own a)) (ht:∀ b xs,H b=some (.tup xs)→H' b=some (.tup xs)):ObjOk P w H' h' a o:=by
 induction o with
 | lst xs=>obtain⟨z,its,n,r,e⟩:=x;exact⟨z,its,n,r,k _ _ (.inl rfl) e⟩
 | tup xs=>obtain⟨z,its,r,ob,e,c⟩:=x;exact⟨z,its,r,ob,k _ _ (.inl rfl) e,c⟩
 | dK kvs=>obtain⟨z,y,vs,r,ob,es,ep,e,c⟩:=x;exact⟨z,y,vs,r,ob,es,ep,k _ _ (.inl rfl) e,c⟩
 | dT kvs =>
  obtain⟨z,y,xs,r,ob,es,ep,e,c⟩:=x
  exact⟨z,y,xs,Paired.mapP r fun p q z=>⟨z.1,ht _ _ z.2.1,z.2.2⟩,ob,es,ep,k _ _ (.inl rfl) e,c⟩
 | set S n=>obtain⟨ob,es,ep,t,e,c⟩:=x;exact⟨ob,es,ep,t,k _ _ (.inl rfl) e,c⟩
 | ins C dx fs =>
  obtain⟨d,z,ne,e,mA,⟨od,es,ep,e2,c⟩,r⟩:=x
  exact⟨ho _ d,z,ne,k _ _ (.inl rfl) e,mA,⟨od,es,ep,k _ _ (.inr d) e2,c⟩,r⟩
 | own y=>obtain⟨ob,e⟩:=x;exact⟨ob,k _ _ (.inl rfl) e⟩
 | xd fs=>obtain⟨mA,⟨od,es,ep,e,c⟩,r⟩:=x;exact⟨mA,⟨od,es,ep,k _ _ (.inl rfl) e,c⟩,r⟩
 | rng lo hi=>obtain⟨t,u,v,e⟩:=x;exact⟨t,u,v,k _ _ (.inl rfl) e⟩
 | frz ob u ih=>obtain⟨e,q⟩:=x;exact⟨k _ _ (.inl rfl) e,ih q⟩
 | tbl ps =>
  have e:h.get? a=some { cls := .none,data := .fields ps }:=x
  show h'.get? a=some { cls := .none,data := .fields ps }
  exact k a _ (.inl rfl) e
 | met f y =>
  have e:h.get? a=some (PySem.W.methodObj (.ref f) (.ref y)):=x
  show h'.get? a=some (PySem.W.methodObj (.ref f) (.ref y))
  exact k a _ (.inl rfl) e
 | ext φ=>obtain⟨p,⟨o,e⟩,st⟩:=x;exact⟨st _ _ p fun o q=>k _ _ (.inl rfl) q,⟨o,k _ _ (.inl rfl) e⟩,st⟩
theorem HOk.lt(x:HOk P w H h)(e:H a=some o):a<h.objs.size:=(x a o e).lt
theorem HOk.fresh(x:HOk P w H h)(e:h.objs.size≤a):H a=none:=by
 cases q:H a with
 | none=>rfl
 | some u=>exact absurd (Nat.lt_of_lt_of_le (x.lt q) e) (Nat.lt_irrefl _)
theorem HOk.kept(x:HOk P w H h)(k:∀ b u,h.get? b=some u→h'.get? b=some u):HOk P w H h':=fun a o e =>
 (x a o e).stay (fun b u _ q=>k b u q) (fun _ q=>q) fun _ _ q=>q
theorem HOk.laid(x:HOk P w H h)(k:∀ b u,h.get? b=some u→h'.get? b=some u)(hp:h.objs.size≤a)(new:ObjOk P w (upd H a o) h' a o):HOk P w (upd H a o) h':=fun b u e=>by
 have hn:=x.fresh hp
 by_cases hb:b=a
 · subst hb;rw[z10]at e;cases e;exact new
 · rw[z0v hb]at e
   exact(x b u e).stay (fun c v _ q=>k c v q) (fun c q=>by rw[z0v (z2m q hn)];exact q) fun c xs q=>by rw[z0v (z2m q hn)];exact q
end
def Rd(H:Hp)(a:Addr)(u:HO):Prop:=H a=some u∨∃ o,H a=some (.frz o u)
theorem Rd.of{H:Hp}{a:Addr}{u:HO}(h:H a=some u):Rd H a u := .inl h
theorem Rd.ok{P:Program}{w:World}{H:Hp}{h:Heap}{a:Addr}{u:HO}(r:Rd H a u)(x:HOk P w H h):ObjOk P w H h a u:=by
 rcases r with r|⟨o,r⟩
 · exact x a u r
 · obtain⟨_,q⟩:=x a _ r
   exact q
def Mut:Option HO→Prop
 | some (.lst _)=>True
 | some (.dK _)=>True
 | some (.dT _)=>True
 | some (.set _ _)=>True
 | some (.ins _ _ _)=>True
 | some (.ext _)=>True
 | _=>False
section
variable {P:Program}{w:World}{H:Hp}{h h':Heap}{x e:Addr}{o':HO}
theorem HOk.write(ok:HOk P w H h)(mu:Mut (H x))(he:e=x∨H e=some (.own x))(k:∀ b u,b≠e→h.get? b=some u→h'.get? b=some u)(heo:∃ u,h'.get? e=some u)
   (new:ObjOk P w (upd H x o') h' x o'):HOk P w (upd H x o') h':=fun b u q=>by
 have nown:∀ c y,H c=some (.own y)→c≠x:=fun c y r z=>by subst z;rw[r]at mu;exact mu
 have ntup:∀ c xs,H c=some (.tup xs)→c≠x:=fun c xs r z=>by subst z;rw[r]at mu;exact mu
 by_cases hb:b=x
 · subst hb;rw[z10]at q;cases q;exact new
 · rw[z0v hb]at q
   by_cases hbe:b=e
   · have q':H b=some (.own x):=by
       rcases he with z|z
       · exact absurd (hbe.trans z) hb
       · rw[hbe];exact z
     rw[q]at q';cases q'
     obtain⟨v,hv⟩:=heo
     exact⟨v,by rw[hbe];exact hv⟩
   · refine(ok b u q).stay (fun c v hc r=>k c v ?_ r) (fun c r=>by rw[z0v (nown c b r)];exact r) fun c xs r=>by rw[z0v (ntup c xs r)];exact r
     rcases hc with rfl|hc
     · exact hbe
     · rintro rfl
       rcases he with z|z
       · exact nown c b hc z
       · rw[hc]at z;cases z;exact hb rfl
end
structure Un(fs ex:List Addr)(H H':Hp)(h h':Heap):Prop where
 keep:∀ b o,h.get? b=some o→H b=none→b ∉ fs→b ∉ ex→h'.get? b=some o
 slot:∀ b o,h.get? b=some o→H b=none→b∈fs→b ∉ ex→∃ sl,h'.get? b=some { o with slots:=sl }
 free:∀ b o,h.get? b=some o→H b=none→b ∉ ex→H' b=none
 there:∀ b o,h.get? b=some o→b ∉ ex→∃ o',h'.get? b=some o'
 tups:∀ b xs,H b=some (.tup xs)→H' b=some (.tup xs)
 frzs:∀ b o u,H b=some (.frz o u)→H' b=some (.frz o u)
 tbls:∀ b ps,H b=some (.tbl ps)→∃ more,H' b=some (.tbl (ps++more))
section
variable {fs fs' ex ex':List Addr}{H H1 H2:Hp}{h h1 h2 h':Heap}{a x e:Addr}{o:HO}
theorem Un.any(u:Un fs ex H H1 h h1){b:Addr}{ob:Obj}(q:h.get? b=some ob)(n:H b=none)(hx:b ∉ ex):∃ sl,h1.get? b=some { ob with slots:=sl }:=by
 by_cases hb:b∈fs
 · exact u.slot b ob q n hb hx
 · exact⟨ob.slots,u.keep b ob q n hb hx⟩
theorem Un.trans(a:Un fs ex H H1 h h1)(b:Un fs ex H1 H2 h1 h2):Un fs ex H H2 h h2 where
 keep:=fun c ob q n hc hx=>b.keep c ob (a.keep c ob q n hc hx) (a.free c ob q n hx) hc hx
 slot:=fun c ob q n hc hx=>by
  obtain⟨sl,e1⟩:=a.slot c ob q n hc hx
  obtain⟨sl',e2⟩:=b.slot c _ e1 (a.free c ob q n hx) hc hx
  exact⟨sl',e2⟩
 free:=fun c ob q n hx=>by
  obtain⟨o',e1⟩:=a.there c ob q hx
  exact b.free c o' e1 (a.free c ob q n hx) hx
 there:=fun c ob q hx=>by
  obtain⟨o',e1⟩:=a.there c ob q hx
  exact b.there c o' e1 hx
 tups:=fun c xs q=>b.tups c xs (a.tups c xs q)
 frzs:=fun c ob xs q=>b.frzs c ob xs (a.frzs c ob xs q)
 tbls:=fun c ps q=>by
  obtain⟨m1,e1⟩:=a.tbls c ps q
  obtain⟨m2,e2⟩:=b.tbls c _ e1
  exact⟨m1++m2,by rw[e2,Array.append_assoc]⟩
theorem Un.kept(k:∀ b u,h.get? b=some u→h'.get? b=some u):Un fs ex H H h h' :=
 ⟨fun b ob q _ _ _=>k b ob q,fun b ob q _ _ _=>⟨ob.slots,k b ob q⟩,fun _ _ _ n _=>n,fun b ob q _=>⟨ob,k b ob q⟩,fun _ _ q=>q,fun _ _ _ q=>q,fun _ ps q=>⟨#[],by rw[q];simp⟩⟩
theorem Un.refl:Un fs ex H H h h:=Un.kept fun _ _ q=>q
theorem Un.laid(k:∀ b u,h.get? b=some u→h'.get? b=some u)(hp:h.objs.size≤a)(hn:H a=none):Un fs ex H (upd H a o) h h' where
 keep:=fun b u q _ _ _=>k b u q
 slot:=fun b u q _ _ _=>⟨u.slots,k b u q⟩
 free:=fun b u q n _=>by rw[z0v (Nat.ne_of_lt (Nat.lt_of_lt_of_le (Heap.lt_size q) hp))];exact n
 there:=fun b u q _=>⟨u,k b u q⟩
 tups:=fun b xs q=>by rw[z0v (z2m q hn)];exact q
 frzs:=fun b u xs q=>by rw[z0v (z2m q hn)];exact q
 tbls:=fun b ps q=>⟨#[],by rw[z0v (z2m q hn),q];simp⟩
theorem Un.write(mu:Mut (H x))(he:e=x∨H e=some (.own x))(k:∀ b u,b≠e→h.get? b=some u→h'.get? b=some u)(heo:∃ u,h'.get? e=some u):Un fs ex H (upd H x o) h h':=by
 have hx:∀ b,H b=none→b≠x:=fun b n z=>by subst z;rw[n]at mu;exact mu
 have hb:∀ b,H b=none→b≠e:=fun b n z=>by
   subst z
   rcases he with r|r
   · exact hx b n r
   · rw[n]at r;cases r
 have hm:∀ b u,H b=some u→¬Mut (some u)→b≠x:=fun b u q nm z=>by subst z;rw[q]at mu;exact nm mu
 refine⟨fun b u q n _ _=>k b u (hb b n) q,fun b u q n _ _=>⟨u.slots,k b u (hb b n) q⟩,fun b u q n _=>by rw[z0v (hx b n)];exact n,fun b u q _=>?_,
   fun b xs q=>by rw[z0v (hm b _ q fun z=>z)];exact q,fun b u xs q=>by rw[z0v (hm b _ q fun z=>z)];exact q,fun b ps q=>⟨#[],by rw[z0v (hm b _ q fun z=>z),q];simp⟩⟩
 by_cases hbe:b=e
 · subst hbe;exact heo
 · exact⟨u,k b u hbe q⟩
theorem Un.mono(u:Un fs ex H H1 h h1)(hs:∀ b∈fs,b∈fs')(hx:∀ b∈ex,b∈ex'):Un fs' ex' H H1 h h1 :=
 ⟨fun b ob q n hb he=>u.keep b ob q n (fun z=>hb (hs b z)) fun z=>he (hx b z),fun _ _ q n _ he=>u.any q n fun z=>he (hx _ z),fun b ob q n he=>u.free b ob q n fun z=>he (hx b z),fun b ob q he=>u.there b ob q fun z=>he (hx b z),u.tups,u.frzs,u.tbls⟩
end
def trk(h:Heap)(H:Hp):List Addr:=(List.range h.objs.size).filter fun a=>(H a).isSome
def hidT(h:Heap)(H:Hp):Heap:=PySem.W.hideAll h (trk h H)
theorem ziN(h:Heap)(H:Hp):(hidT h H).objs.size=h.objs.size:=PySem.W.hideAll_size _ _
theorem zjE{h:Heap}{H:Hp}{b:Addr}{o:Obj}(e:h.get? b=some o)(n:H b=none):(hidT h H).get? b=some o :=
 PySem.W.hideAll_get _ e fun hm=>by
  have q:(H b).isSome=true:=(List.mem_filter.mp hm).2
  rw[n]at q;simp at q
theorem znr{h:Heap}{H:Hp}{b:Addr}{o:Obj}(e:(hidT h H).get? b=some o):h.get? b=some o∧H b=none:=by
 have e':h.get? b=some o:=PySem.W.of_hideAll (trk h H) e
 refine⟨e',?_⟩
 cases q:H b with
 | none=>rfl
 | some x =>
  have hm:b∈trk h H:=List.mem_filter.mpr ⟨List.mem_range.mpr (Heap.lt_size e'),by simp[q]⟩
  have z:(hidT h H).get? b=none:=PySem.W.hideAll_none (trk h H) hm
  rw[z]at e;cases e
def zns(g h:Heap)(L:Addr):List (Addr×Obj):=(List.range h.objs.size).filterMap fun a=>if a=L∨(g.get? a).isSome=true then none else(h.get? a).map fun o=>(a,o)
def rest(g h:Heap)(L d:Addr):List (Addr×Obj):=(zns g h L).filter fun p=>decide (p.1≠d)
end L2
namespace L2
open PySem PySem.Spec PyProof.Rows
structure Mod(K:PySem.W.Frag)(mg:Str→Option Value)(base:Heap):Prop where
 kin:K.In base
 glob:base.Ns mainGlobals mg
 blt:∃ mb,base.Ns builtinsNs mb∧∀ x:Str,x ≠ "__name__" → mb x=bootBuiltins x
 nolimit:base.NoLimit
structure Cx where
 prog:Program
 w:World
 K:PySem.W.Frag
 mg:Str→Option Value
 base:Heap
 A:Around
 N:List Str
 s₀:Shared
 H₀:Hp
 env:Env
 outer:List Env
 stack:List Env
 ex:List Addr
 fn:Str→Bool
 calm:Bool
 pn:List (Addr×Obj)
 xe:Value→Shared→Prop
def frs(l:List Env):List Addr:=l.filterMap (·.frame)
abbrev Cx.fs(X:Cx):List Addr:=frs X.outer
def Vis(sc:Scope)(x:Str):Prop:=sc.names.lookup x=some .local∨sc.names.lookup x=some .cell∨sc.names.lookup x=some .free
def Loc(sc:Scope)(x:Str):Prop:=sc.names.lookup x=some .local∨sc.names.lookup x=some .cell
def Look(env:Env)(h:Heap)(m:Str→Option Value)(x:Str)(u:Value):Prop :=
 (env.kindOf x=some .local∧m x=some u)∨((env.kindOf x=some .cell∨env.kindOf x=some .free)∧∃ c,env.cells.lookup x=some c∧h.IsCell c (some u))
structure Cx.Ok(X:Cx):Prop where
 mod:Mod X.K X.mg X.base
 kind:X.env.scope.kind = .function
 glob:X.env.globals=mainGlobals
 blt:X.env.builtins=builtinsNs
 above:X.s₀.heap.objs.size≤X.env.locals
 inj:∀ x y c,X.env.cells.lookup x=some c→X.env.cells.lookup y=some c→x=y
 has:∀ x,(X.env.kindOf x=some .cell∨X.env.kindOf x=some .free)→∃ c,X.env.cells.lookup x=some c
 cab:∀ x c,X.fn x=true→X.env.cells.lookup x=some c→X.s₀.heap.objs.size≤c
 hd:X.calm=true→X.A.handled=none
 frames:X.A.frames=some X.stack
 stk:X.stack=X.outer∨(X.stack=X.env::X.outer∧X.env.frame=some X.env.locals)
 exf:∀ b∈X.ex,b≠X.env.locals∧∀ x c,X.env.cells.lookup x=some c→c≠b
 bs:∀ b o,X.base.get? b=some o→X.s₀.heap.get? b=some o∧X.H₀ b=none
 bsz:X.base.objs.size≤X.s₀.heap.objs.size
 noex:∀ b o,X.base.get? b=some o→b ∉ X.ex
 exfs:∀ b∈X.ex,b ∉ X.fs
 funs:X.s₀.heap.FunFrames X.base X.outer
 frf:∀ b∈X.fs,X.H₀ b=none
structure Inv(X:Cx)(pins:List (Addr×Obj))(σ:List (Option V))(H:Hp)(s:Shared):Prop where
 ok:X.Ok
 os:s.os=X.s₀.os
 bare:AllBare s.gens
 base:Un X.fs X.ex X.H₀ H X.s₀.heap s.heap
 loc:∃ m,s.heap.Ns X.env.locals m∧∀(i:Nat) (x:Str) (v:V),X.N[i]?=some x→σ[i]?=some (some v)→Vis X.env.scope x→∃ u,RelV v u∧Look X.env s.heap m x u
 cell:∀ x c,X.env.cells.lookup x=some c→∃ v,s.heap.IsCell c v
 free:H X.env.locals=none
 freeC:∀ x c,X.env.cells.lookup x=some c→H c=none
 pin:∀ p∈X.pn++pins,s.heap.get? p.1=some p.2∧H p.1=none∧p.1≠X.env.locals∧p.1 ∉ X.fs∧∀ v,p.2.data ≠ .cell v
 hok:HOk X.prog X.w H s.heap
 len:σ.length=X.N.length
section
variable {X:Cx}{pins:List (Addr×Obj)}{σ:List (Option V)}{H H':Hp}{s:Shared}{h':Heap}
theorem Cx.Ok.nofr(ok:X.Ok){b:Addr}{o:Obj}(e:X.base.get? b=some o):b ∉ X.fs:=fun hb=>by
 have:=(ok.funs.mem hb).1
 rw[e]at this;cases this
theorem Inv.bs(I:Inv X pins σ H s):∀ b o,X.base.get? b=some o→s.heap.get? b=some o∧H b=none:=fun b o e =>
 ⟨I.base.keep b o (I.ok.bs b o e).1 (I.ok.bs b o e).2 (I.ok.nofr e) (I.ok.noex b o e),I.base.free b o (I.ok.bs b o e).1 (I.ok.bs b o e).2 (I.ok.noex b o e)⟩
theorem Inv.bk(I:Inv X pins σ H s):∀ b o,X.base.get? b=some o→s.heap.get? b=some o:=fun b o e=>(I.bs b o e).1
theorem Inv.mod(I:Inv X pins σ H s):Mod X.K X.mg X.base:=I.ok.mod
theorem Inv.kIn(I:Inv X pins σ H s):X.K.In s.heap:=I.ok.mod.kin.keeps I.bk
theorem Inv.nolimit(I:Inv X pins σ H s):s.heap.NoLimit:=I.ok.mod.nolimit.keeps I.bk
theorem Inv.fr(I:Inv X pins σ H s):∃ m,Fr X.base X.env.locals s.heap m :=
 let ⟨m,hn,_⟩:=I.loc
 ⟨m,hn,I.bk,Nat.le_trans I.ok.bsz I.ok.above⟩
theorem Inv.lt(I:Inv X pins σ H s):X.env.locals<s.heap.objs.size:=let ⟨_,hn,_⟩:=I.loc;hn.lt
theorem Inv.sz(I:Inv X pins σ H s):X.s₀.heap.objs.size≤s.heap.objs.size:=Nat.le_trans I.ok.above (Nat.le_of_lt I.lt)
theorem Inv.nofs(I:Inv X pins σ H s){a:Addr}(h:s.heap.objs.size≤a):a ∉ X.fs:=fun hb=>by
 obtain⟨_,o,ho,_⟩:=I.ok.funs.mem hb
 exact absurd (Nat.lt_of_lt_of_le (Heap.lt_size ho) (Nat.le_trans I.sz h)) (Nat.lt_irrefl _)
theorem Inv.cne(I:Inv X pins σ H s):∀ x c,X.env.cells.lookup x=some c→c≠X.env.locals:=fun x c e z=>by
 obtain⟨v,o,ho,hd⟩:=I.cell x c e
 obtain⟨m,⟨o',es,ep,ho',hd',_⟩,_⟩:=I.loc
 rw[z,ho']at ho;cases ho;rw[hd']at hd;cases hd
theorem Inv.funs(I:Inv X pins σ H s):s.heap.FunFrames X.base X.outer:=by
 have all:∀(l:List Env),(∀ b∈frs l,b∈X.fs)→X.s₀.heap.FunFrames X.base l→s.heap.FunFrames X.base l:=by
  intro l
  induction l with
  | nil=>intro _ _;trivial
  | cons env r ih =>
   intro hs hl
   obtain⟨hk,⟨L,o,hf,hn,ho,hd⟩,hr⟩:=hl
   have hL:L∈X.fs:=hs L (by unfold frs;rw[List.filterMap_cons,hf];exact List.mem_cons_self)
   obtain⟨sl,e⟩:=I.base.slot L o ho (I.ok.frf L hL) hL fun z=>I.ok.exfs L z hL
   exact⟨hk,⟨L,_,hf,hn,e,hd⟩,ih (fun b hb=>hs b (by unfold frs;rw[List.filterMap_cons,hf];exact List.mem_cons_of_mem _ hb)) hr⟩
 exact all X.outer (fun _ hb=>hb) I.ok.funs
theorem Inv.stack(I:Inv X pins σ H s):s.heap.FunFrames X.base X.stack:=by
 rcases I.ok.stk with e|⟨e,hf⟩
 · rw[e];exact I.funs
 · rw[e]
   obtain⟨m,hn,_⟩:=I.loc
   refine .cons (by rw[I.ok.kind];decide) hf hn ?_ I.funs
   exact Heap.get?_none_of_le (Nat.le_trans I.ok.bsz I.ok.above)
theorem Inv.stkSub(I:Inv X pins σ H s):∀ b∈frs X.stack,b∈X.env.locals::X.fs:=fun b hb=>by
 rcases I.ok.stk with e|⟨e,hf⟩
 · rw[e]at hb;exact List.mem_cons_of_mem _ hb
 · rw[e]at hb
   unfold frs at hb
   rw[List.filterMap_cons,hf]at hb
   exact hb
theorem Inv.stkFree(I:Inv X pins σ H s):∀ b∈frs X.stack,H b=none:=fun b hb=>by
 rcases List.mem_cons.mp (I.stkSub b hb)with e|hb
 · rw[e];exact I.free
 · obtain⟨_,o,ho,_⟩:=I.ok.funs.mem hb
   exact I.base.free b o ho (I.ok.frf b hb) fun z=>I.ok.exfs b z hb
theorem Inv.step{g':Array GenState}{t':Nat}{d':Drawn}{ch:List Addr}(I:Inv X pins σ H s)
   (hch:∀ b∈ch,(b∈X.ex∨X.s₀.heap.objs.size≤b)∧b≠X.env.locals∧(∀ x c,X.env.cells.lookup x=some c→c≠b)∧∀ p∈X.pn++pins,p.1≠b)
   (keep:∀ b o,b≠X.env.locals→b ∉ X.fs→b ∉ ch→s.heap.get? b=some o→H b=none→h'.get? b=some o)
   (slot:∀ b o,b≠X.env.locals→b∈X.fs→b ∉ ch→s.heap.get? b=some o→H b=none→∃ sl,h'.get? b=some { o with slots:=sl }) (free:∀ b o,b ∉ ch→s.heap.get? b=some o→H b=none→H' b=none)
   (there:∀ b o,b ∉ ch→s.heap.get? b=some o→∃ o',h'.get? b=some o')
   (tups:∀ b xs,H b=some (.tup xs)→H' b=some (.tup xs)) (frzs:∀ b o u,H b=some (.frz o u)→H' b=some (.frz o u)) (tbls:∀ b ps,H b=some (.tbl ps)→∃ more,H' b=some (.tbl (ps++more)))
   (ns:∀ m,s.heap.Ns X.env.locals m→h'.Ns X.env.locals m) (hok:HOk X.prog X.w H' h') (hg:AllBare g') :
   Inv X pins σ H' { s with heap:=h',gens:=g',drawn:=d',toks:=t' }:=by
 have neL:∀ b o,X.s₀.heap.get? b=some o→b≠X.env.locals:=fun b o e=>Nat.ne_of_lt (Nat.lt_of_lt_of_le (Heap.lt_size e) I.ok.above)
 have neC:∀ b o,X.s₀.heap.get? b=some o→b ∉ X.ex→b ∉ ch:=fun b o e hx hb=>by
   rcases(hch b hb).1 with z|z
   · exact hx z
   · exact absurd (Nat.lt_of_lt_of_le (Heap.lt_size e) z) (Nat.lt_irrefl _)
 have cellK:∀ x c,X.env.cells.lookup x=some c→∀ v,s.heap.IsCell c v→h'.IsCell c v:=fun x c e v hZ=>hZ.elim fun o hZ=>hZ.elim fun ho hd=>by
   have nch:c ∉ ch:=fun z=>(hch c z).2.2.1 x c e rfl
   by_cases hc:c∈X.fs
   · obtain⟨sl,q⟩:=slot c o (I.cne x c e) hc nch ho (I.freeC x c e)
     exact⟨_,q,hd⟩
   · exact⟨o,keep c o (I.cne x c e) hc nch ho (I.freeC x c e),hd⟩
 refine⟨I.ok,I.os,hg,⟨fun b o e n hb hx=>?_,fun b o e n hb hx=>?_,fun b o e n hx=>?_,fun b o e hx=>?_,fun b xs e=>tups b xs (I.base.tups b xs e),fun b o xs e=>frzs b o xs (I.base.frzs b o xs e),fun b ps e=>?_⟩,?_,fun x c e=>?_,?_,fun x c e=>?_,fun p hp=>?_,hok,I.len⟩
 · exact keep b o (neL b o e) hb (neC b o e hx) (I.base.keep b o e n hb hx) (I.base.free b o e n hx)
 · obtain⟨sl,e1⟩:=I.base.slot b o e n hb hx
   obtain⟨sl',e2⟩:=slot b _ (neL b o e) hb (neC b o e hx) e1 (I.base.free b o e n hx)
   exact⟨sl',e2⟩
 · obtain⟨o',e1⟩:=I.base.there b o e hx
   exact free b o' (neC b o e hx) e1 (I.base.free b o e n hx)
 · obtain⟨o',e1⟩:=I.base.there b o e hx
   exact there b o' (neC b o e hx) e1
 · obtain⟨m1,e1⟩:=I.base.tbls b ps e
   obtain⟨m2,e2⟩:=tbls b _ e1
   exact⟨m1++m2,by rw[e2,Array.append_assoc]⟩
 · obtain⟨m,hn,hl⟩:=I.loc
   refine⟨m,ns m hn,fun i x v e1 e2 e3=>?_⟩
   obtain⟨u,r,l⟩:=hl i x v e1 e2 e3
   refine⟨u,r,?_⟩
   rcases l with l|⟨k,c,e,z⟩
   · exact .inl l
   · exact .inr ⟨k,c,e,cellK x c e _ z⟩
 · obtain⟨v,z⟩:=I.cell x c e
   exact⟨v,cellK x c e v z⟩
 · obtain⟨m,⟨o,_,_,ho,_⟩,_⟩:=I.loc
   exact free _ o (fun z=>(hch _ z).2.1 rfl) ho I.free
 · obtain⟨v,o,ho,hd⟩:=I.cell x c e
   exact free c o (fun z=>(hch c z).2.2.1 x c e rfl) ho (I.freeC x c e)
 · obtain⟨e,n,ne,nf,d⟩:=I.pin p hp
   have nch:p.1 ∉ ch:=fun z=>(hch p.1 z).2.2.2 p hp rfl
   exact⟨keep p.1 p.2 ne nf nch e n,free p.1 p.2 nch e n,ne,nf,d⟩
theorem Inv.un{t':Nat}(I:Inv X pins σ H s)(u:Un X.fs [] H H' s.heap h')(hok:HOk X.prog X.w H' h'):Inv X pins σ H' { s with heap:=h',toks:=t' }:=by
 obtain⟨m,⟨o,es,ep,ho,r⟩,_⟩:=id I.loc
 obtain⟨sl,hL⟩:=u.any ho I.free (by simp)
 exact I.step (g':=s.gens) (d':=s.drawn) (ch:=[]) (fun _ z=>nomatch z) (fun b o _ hb _ e n=>u.keep b o e n hb (by simp)) (fun b o _ hb _ e n=>u.slot b o e n hb (by simp)) (fun b o _ e n=>u.free b o e n (by simp)) (fun b o _ e=>u.there b o e (by simp)) u.tups u.frzs u.tbls (fun m' hm=>by
  obtain⟨o',es',ep',ho',r'⟩:=hm
  rw[ho]at ho';cases ho'
  exact⟨_,es',ep',hL,r'⟩) hok I.bare
theorem Inv.call{g':Array GenState}{t':Nat}{d':Drawn}{ch:List Addr}(I:Inv X pins σ H s)(u:Un (frs X.stack) ch H H' s.heap h')(hok:HOk X.prog X.w H' h')(hg:AllBare g')
  (hch:∀ b∈ch,(b∈X.ex∨X.s₀.heap.objs.size≤b)∧b≠X.env.locals∧(∀ x c,X.env.cells.lookup x=some c→c≠b)∧∀ p∈X.pn++pins,p.1≠b) :
  Inv X pins σ H' { s with heap:=h',gens:=g',drawn:=d',toks:=t' }:=by
 obtain⟨m,⟨o,es,ep,ho,r⟩,_⟩:=id I.loc
 obtain⟨sl,hL⟩:=u.any ho I.free fun z=>(hch _ z).2.1 rfl
 exact I.step (ch:=ch) hch (fun b o hL hb hc e n=>u.keep b o e n (fun z=>(List.mem_cons.mp (I.stkSub b z)).elim hL hb) hc) (fun b o _ _ hc e n=>u.any e n hc) (fun b o hc e n=>u.free b o e n hc) (fun b o hc e=>u.there b o e hc) u.tups u.frzs u.tbls (fun m' hm=>by
  obtain⟨o',es',ep',ho',r'⟩:=hm
  rw[ho]at ho';cases ho'
  exact⟨_,es',ep',hL,r'⟩) hok hg
theorem Inv.turned{t':Nat}{it:Addr}(I:Inv X pins σ H s)(k:∀ b o,b≠it→s.heap.get? b=some o→h'.get? b=some o)(hn:H it=none)(hL:it≠X.env.locals)
   (h1:it∈X.ex∨X.s₀.heap.objs.size≤it) (h2:∀ x c,X.env.cells.lookup x=some c→c≠it) (h3:∀ p∈X.pn++pins,p.1≠it):Inv X pins σ H { s with heap:=h',toks:=t' }:=by
 have nit:∀ b u,H b=some u→b≠it:=fun b u e z=>by rw[z,hn]at e;cases e
 refine I.step (g':=s.gens) (d':=s.drawn) (ch:=[it]) (fun b hb=>?_) (fun b o _ _ hc e _=>k b o (fun z=>hc (by simp[z])) e) (fun b o _ _ hc e _=>⟨o.slots,k b o (fun z=>hc (by simp[z])) e⟩) (fun _ _ _ _ n=>n)
   (fun b o hc e=>⟨o,k b o (fun z=>hc (by simp[z])) e⟩) (fun _ _ e=>e) (fun _ _ _ e=>e) (fun b ps e=>⟨#[],by rw[e];simp⟩) (fun m hm=>?_) (fun b u e=>?_) I.bare
 · have e:b=it:=by simpa using hb
   subst e
   exact⟨h1,hL,h2,h3⟩
 · obtain⟨o,es,ep,ho,r⟩:=hm
   exact⟨o,es,ep,k _ o (Ne.symm hL) ho,r⟩
 · refine(I.hok b u e).stay (fun c v hc q=>k c v ?_ q) (fun _ q=>q) fun _ _ q=>q
   rcases hc with z|z
   · rw[z];exact nit b u e
   · exact nit c _ z
theorem Inv.tok(I:Inv X pins σ H s)(t:Nat):Inv X pins σ H { s with toks:=t }:=I.un (h':=s.heap) (t':=t) Un.refl I.hok
theorem Inv.kept{t':Nat}(I:Inv X pins σ H s)(k:∀ b u,s.heap.get? b=some u→h'.get? b=some u):Inv X pins σ H { s with heap:=h',toks:=t' }:=I.un (Un.kept k) (I.hok.kept k)
theorem Inv.laid{a:Addr}{o:HO}{t':Nat}(I:Inv X pins σ H s)(k:∀ b u,s.heap.get? b=some u→h'.get? b=some u)(hp:s.heap.objs.size≤a)(new:ObjOk X.prog X.w (upd H a o) h' a o):
 Inv X pins σ (upd H a o) { s with heap:=h',toks:=t' }:=I.un (Un.laid k hp (I.hok.fresh hp)) (I.hok.laid k hp new)
theorem Inv.write{x e:Addr}{o:HO}{t':Nat}(I:Inv X pins σ H s)(mu:Mut (H x))(he:e=x∨H e=some (.own x))(k:∀ b u,b≠e→s.heap.get? b=some u→h'.get? b=some u)(heo:∃ u,h'.get? e=some u)
 (new:ObjOk X.prog X.w (upd H x o) h' x o):Inv X pins σ (upd H x o) { s with heap:=h',toks:=t' }:=I.un (Un.write mu he k heo) (I.hok.write mu he k heo new)
theorem Inv.weak{σ':List (Option V)}(I:Inv X pins σ H s)(hl:σ'.length=σ.length)(w:∀(i:Nat) v,σ'[i]?=some (some v)→σ[i]?=some (some v)):Inv X pins σ' H s :=
 ⟨I.ok,I.os,I.bare,I.base,let ⟨m,hn,hl'⟩:=I.loc;⟨m,hn,fun i x v e1 e2 e3=>hl' i x v e1 (w i v e2) e3⟩,I.cell,I.free,I.freeC,I.pin,I.hok,hl.trans I.len⟩
theorem Inv.pins_of{pins':List (Addr×Obj)}(I:Inv X pins σ H s)(h:∀ p∈pins',s.heap.get? p.1=some p.2∧H p.1=none∧p.1≠X.env.locals∧p.1 ∉ X.fs∧∀ v,p.2.data ≠ .cell v):Inv X pins' σ H s :=
 ⟨I.ok,I.os,I.bare,I.base,I.loc,I.cell,I.free,I.freeC,fun p hp=>(List.mem_append.mp hp).elim (fun z=>I.pin p (List.mem_append_left _ z)) (h p),I.hok,I.len⟩
theorem zci{N:List Str}(hN:N.Nodup){i j:Nat}{x:Str}(a:N[i]?=some x)(b:N[j]?=some x):i=j:=by
 obtain⟨h1,e1⟩:=List.getElem?_eq_some_iff.mp a
 obtain⟨h2,e2⟩:=List.getElem?_eq_some_iff.mp b
 exact(List.getElem_inj hN).mp (e1.trans e2.symm)
theorem zaf{M:Model}{A:Around}{E:Value→Shared→Prop}{i:Nat}{x:Str}{v:V}{u:Value}{Q:Unit→Shared→Prop}(I:Inv X pins σ H s)(hN:X.N.Nodup)(hi:X.N[i]?=some x)(hx:Loc X.env.scope x)(r:RelV v u)
   (h:∀ s',Inv X pins (σ.set i (some v)) H s'→(∃ a,Heap.SameBut a s.heap s'.heap∧(a=X.env.locals∨X.env.cells.lookup x=some a))→Q () s') (hf:X.fn x=true∨X.env.scope.names.lookup x=some .local:=by first|exact .inl rfl|exact .inr rfl|assumption):wpAny M A (storeName X.env x u) Q E s:=by
 obtain⟨m,hn,hl⟩:=id I.loc
 have hcls:(X.env.scope.kind == .class||(X.env.scope.kind == .module&&X.env.locals != X.env.globals))=false:=by rw[I.ok.kind];rfl
 have hiσ:i<σ.length:=by rw[I.len];exact(List.getElem?_eq_some_iff.mp hi).1
 have cne:=I.cne
 have tracked:∀{a:Addr} {h':Heap},(∃ o,s.heap.get? a=some o∧H a=none)→Heap.SameBut a s.heap h'→HOk X.prog X.w H h':=fun{a h'} ha hs b ob e=>by
   obtain⟨_,_,hfree⟩:=ha
   refine(I.hok b ob e).stay (fun c w' hc q=>(hs.2 c ?_).trans q) (fun _ q=>q) fun _ _ q=>q
   rintro rfl
   rcases hc with rfl|hc
   · rw[hfree]at e;cases e
   · rw[hfree]at hc;cases hc
 rcases hx with hk|hk
 · refine wpAny_storeName_local hk hn (fun h' hn' hs=>?_) hcls
   obtain⟨oL,_,_,hoL,_⟩:=id hn
   refine h _ ⟨I.ok,I.os,I.bare,⟨fun b o e n hb hx=>?_,fun b o e n hb hx=>?_,I.base.free,fun b o e hx=>?_,I.base.tups,I.base.frzs,I.base.tbls⟩,⟨_,hn',fun j y v' e1 e2 e3=>?_⟩,fun y c e=>?_,I.free,I.freeC,fun p hp=>?_,tracked ⟨oL,hoL,I.free⟩ hs,by simpa using I.len⟩ ⟨_,hs,.inl rfl⟩
   · exact(hs.2 b (Nat.ne_of_lt (Nat.lt_of_lt_of_le (Heap.lt_size e) I.ok.above))).trans (I.base.keep b o e n hb hx)
   · obtain⟨sl,e1⟩:=I.base.slot b o e n hb hx
     exact⟨sl,(hs.2 b (Nat.ne_of_lt (Nat.lt_of_lt_of_le (Heap.lt_size e) I.ok.above))).trans e1⟩
   · obtain⟨o',e1⟩:=I.base.there b o e hx
     exact⟨o',(hs.2 b (Nat.ne_of_lt (Nat.lt_of_lt_of_le (Heap.lt_size e) I.ok.above))).trans e1⟩
   · by_cases hj:j=i
     · subst hj
       rw[hi]at e1;cases e1
       rw[List.getElem?_set_self hiσ]at e2
       cases e2
       exact⟨u,r,.inl ⟨hk,by simp⟩⟩
     · rw[List.getElem?_set_ne (Ne.symm hj)]at e2
       obtain⟨u',r',q⟩:=hl j y v' e1 e2 e3
       refine⟨u',r',?_⟩
       rcases q with⟨k,e⟩|⟨k,c,e,z⟩
       · refine .inl ⟨k,?_⟩
         have:y≠x:=fun e=>hj (zci hN e1 (e ▸ hi))
         simp[this,e]
       · exact .inr ⟨k,c,e,z.sameBut hs (cne y c e)⟩
   · obtain⟨w',z⟩:=I.cell y c e
     exact⟨w',z.sameBut hs (cne y c e)⟩
   · obtain⟨e,n,ne,nf,d⟩:=I.pin p hp
     exact⟨(hs.2 p.1 ne).trans e,n,ne,nf,d⟩
 · have hfn:X.fn x=true:=by
     rcases hf with z|z
     · exact z
     · rw[z]at hk;cases hk
   obtain⟨c,hc⟩:=I.ok.has x (.inl hk)
   obtain⟨w',z⟩:=I.cell x c hc
   refine wpAny_storeName_cell I.ok.kind hk hc z (fun h' hc' hs=>?_)
   obtain⟨oc,hoc,hocd⟩:=id z
   refine h { s with heap:=h' } ⟨I.ok,I.os,I.bare,⟨fun b o e n hb hx=>?_,fun b o e n hb hx=>?_,I.base.free,fun b o e hx=>?_,I.base.tups,I.base.frzs,I.base.tbls⟩,⟨m,hn.sameBut hs (Ne.symm (cne x c hc)),fun j y v' e1 e2 e3=>?_⟩,fun y c' e=>?_,I.free,I.freeC,fun p hp=>?_,tracked ⟨oc,hoc,I.freeC x c hc⟩ hs,by simpa using I.len⟩ ⟨c,hs,.inr hc⟩
   · exact(hs.2 b (Nat.ne_of_lt (Nat.lt_of_lt_of_le (Heap.lt_size e) (I.ok.cab x c hfn hc)))).trans (I.base.keep b o e n hb hx)
   · obtain⟨sl,e1⟩:=I.base.slot b o e n hb hx
     exact⟨sl,(hs.2 b (Nat.ne_of_lt (Nat.lt_of_lt_of_le (Heap.lt_size e) (I.ok.cab x c hfn hc)))).trans e1⟩
   · obtain⟨o',e1⟩:=I.base.there b o e hx
     exact⟨o',(hs.2 b (Nat.ne_of_lt (Nat.lt_of_lt_of_le (Heap.lt_size e) (I.ok.cab x c hfn hc)))).trans e1⟩
   · by_cases hj:j=i
     · subst hj
       rw[hi]at e1;cases e1
       rw[List.getElem?_set_self hiσ]at e2
       cases e2
       exact⟨u,r,.inr ⟨.inl hk,c,hc,hc'⟩⟩
     · rw[List.getElem?_set_ne (Ne.symm hj)]at e2
       obtain⟨u',r',q⟩:=hl j y v' e1 e2 e3
       refine⟨u',r',?_⟩
       rcases q with q|⟨k,c',e,z'⟩
       · exact .inl q
       · refine .inr ⟨k,c',e,z'.sameBut hs ?_⟩
         rintro rfl
         exact hj (zci hN e1 (I.ok.inj _ _ _ e hc ▸ hi))
   · by_cases hcc:c'=c
     · subst hcc;exact⟨_,hc'⟩
     · obtain⟨w2,z2⟩:=I.cell y c' e
       exact⟨w2,z2.sameBut hs hcc⟩
   · obtain⟨e,n,ne,nf,d⟩:=I.pin p hp
     refine⟨(hs.2 p.1 ?_).trans e,n,ne,nf,d⟩
     intro q
     rw[q,hoc]at e
     have q':oc=p.2:=Option.some.inj e
     exact d w' (by rw[←q'];exact hocd)
theorem zcj{M:Model}{A:Around}{E:Value→Shared→Prop}{i:Nat}{x:Str}{v:V}{u:Value}{Q:Unit→Shared→Prop}(I:Inv X pins σ H s)(hN:X.N.Nodup)(hi:X.N[i]?=some x)(hx:Loc X.env.scope x)(r:RelV v u)
  (h:∀ s',Inv X pins (σ.set i (some v)) H s'→Q () s') (hf:X.fn x=true∨X.env.scope.names.lookup x=some .local:=by first|exact .inl rfl|exact .inr rfl|assumption):wpAny M A (storeName X.env x u) Q E s :=
 zaf I hN hi hx r (fun s' I' _=>h s' I') hf
theorem Inv.call'{s':Shared}{ch:List Addr}(I:Inv X pins σ H s)(ho:s'.os=s.os)(u:Un (frs X.stack) ch H H' s.heap s'.heap)(hok:HOk X.prog X.w H' s'.heap)(hg:AllBare s'.gens)
  (hch:∀ b∈ch,(b∈X.ex∨X.s₀.heap.objs.size≤b)∧b≠X.env.locals∧(∀ x c,X.env.cells.lookup x=some c→c≠b)∧∀ p∈X.pn++pins,p.1≠b):Inv X pins σ H' s':=by
 obtain⟨h',g',d',t',o'⟩:=s'
 have e:o'=s.os:=ho
 subst e
 exact I.call (g':=g') (t':=t') (d':=d') u hok hg hch
end
abbrev XK:=Value→Option Addr→Hp→Prop
abbrev St:=List (Option V)
abbrev VK:=V→Hp→Prop
abbrev TE:=St→Hp→VK→Prop
abbrev TT:=St→Hp→(Bool→Hp→Prop)→Prop
abbrev TA:=St→Hp→(List V→Hp→Prop)→Prop
structure Ends where
 nx:St→Hp→Prop
 rt:VK
 bk:St→Hp→Prop:=fun _ _=>False
 ct:St→Hp→Prop:=fun _ _=>False
abbrev TS:=Ends→St→Hp→Prop
def EP(X:Cx)(pins:List (Addr×Obj))(σ:St)(Q:VK)(u:Value)(s':Shared):Prop:=∃ v H',Inv X pins σ H' s'∧RelV v u∧Q v H'
def TP(X:Cx)(pins:List (Addr×Obj))(σ:St)(Q:Bool→Hp→Prop)(b:Bool)(s':Shared):Prop:=∃ H',Inv X pins σ H' s'∧Q b H'
def AP(X:Cx)(pins:List (Addr×Obj))(σ:St)(Q:List V→Hp→Prop)(us:List Value)(s':Shared):Prop:=∃ vs H',Inv X pins σ H' s'∧Vals vs us∧Q vs H'
def SP(X:Cx)(pins:List (Addr×Obj))(D:Ends)(f:Flow)(s':Shared):Prop :=
 match f with
 | .next=>∃ σ' H',Inv X pins σ' H' s'∧D.nx σ' H'
 | .brk=>∃ σ' H',Inv X pins σ' H' s'∧D.bk σ' H'
 | .cont=>∃ σ' H',Inv X pins σ' H' s'∧D.ct σ' H'
 | .ret u=>∃ v σ' H',Inv X pins σ' H' s'∧RelV v u∧D.rt v H'
def PE(X:Cx)(e:Expr)(t:TE):Prop :=
 ∀(pins:List (Addr×Obj)) (s:Shared) (σ:St) (H:Hp) (Q:VK),Inv X pins σ H s→t σ H Q→wpAny (model X.prog X.w) X.A (eval e X.env) (EP X pins σ Q) X.xe s
def PT(X:Cx)(e:Expr)(t:TT):Prop :=
 ∀(pins:List (Addr×Obj)) (s:Shared) (σ:St) (H:Hp) (Q:Bool→Hp→Prop),Inv X pins σ H s→t σ H Q→wpAny (model X.prog X.w) X.A (isTrue e X.env (eval e X.env)) (TP X pins σ Q) X.xe s
def PW(X:Cx)(e:Expr)(t:TT):Prop :=
 ∀(whole:Sem Value) (pins:List (Addr×Obj)) (s:Shared) (σ:St) (H:Hp) (Q:Bool→Hp→Prop),Inv X pins σ H s→t σ H Q→wpAny (model X.prog X.w) X.A (isTrue e X.env whole) (TP X pins σ Q) X.xe s
theorem PW.pt{X:Cx}{e:Expr}{t:TT}(h:PW X e t):PT X e t:=h _
def PA(X:Cx)(es:List Expr)(t:TA):Prop :=
 ∀(pos:Pos) (pins:List (Addr×Obj)) (s:Shared) (σ:St) (H:Hp) (Q:List V→Hp→Prop),Inv X pins σ H s→t σ H Q→wpAny (model X.prog X.w) X.A (spliced (backTo pos (starEach es X.env))) (AP X pins σ Q) X.xe s
def PS(X:Cx)(st:Stmt)(t:TS):Prop :=
 ∀(pins:List (Addr×Obj)) (s:Shared) (σ:St) (H:Hp) (D:Ends),Inv X pins σ H s→t D σ H→wpAny (model X.prog X.w) X.A (exec st X.env) (SP X pins D) X.xe s
def PSs(X:Cx)(st:List Stmt)(t:TS):Prop :=
 ∀(pins:List (Addr×Obj)) (s:Shared) (σ:St) (H:Hp) (D:Ends),Inv X pins σ H s→t D σ H→wpAny (model X.prog X.w) X.A (execs st X.env) (SP X pins D) X.xe s
theorem thn{α:Type}{t:Sem α}{Q Q':α→Shared→Prop}{M:Model}{A:Around}{E:Value→Shared→Prop}{s:Shared}(h:wpAny M A t Q E s)(hQ:∀ a s,Q a s→Q' a s):wpAny M A t Q' E s:=wpAny_mono h hQ fun _ _ x=>x
end L2
namespace L2
open PySem PySem.Spec PyProof.Rows
section
variable {X:Cx}
def tVar(i:Nat):TE:=fun σ H Q=>∃ v,σ[i]?=some (some v)∧Q v H
def tC(v:V):TE:=fun _ H Q=>Q v H
theorem zbA{i:Nat}{x:Str}{pos:Pos}(hN:X.N[i]?=some x)(hv:Vis X.env.scope x)(hd:(x==("__debug__" : Str))=false:=by decide)(hcd:(x==("__classdict__" : Str))=false:=by decide):PE X (.Name x pos) (tVar i):=by
 intro pins s σ H Q I h
 obtain⟨v,e,h⟩:=h
 obtain⟨m,hn,hl⟩:=I.loc
 obtain⟨u,r,l⟩:=hl i x v hN e hv
 have fin:EP X pins σ Q u s:=⟨v,H,I,r,h⟩
 rcases l with⟨hk,hm⟩|⟨hk,c,hc,hcell⟩
 · exact wpAny_Name (wpAny_loadName_local I.ok.kind hk hn hm fin) hd
 · rcases hk with hk|hk
   · exact wpAny_Name (wpAny_loadName_cell I.ok.kind hk hc hcell fin) hd
   · exact wpAny_Name (wpAny_loadName_free I.ok.kind hk hc hcell fin hcd) hd
theorem pe_int{i j pos}:PE X (.Constant (.int i) j pos) (tC (.int i)):=fun _ _ _ H _ I h=>wpAny_Constant_int ⟨.int i,H,I.tok _,⟨_,rfl⟩,h⟩
theorem pe_bl{b j pos}:PE X (.Constant (.bool b) j pos) (tC (.bl b)):=fun _ _ _ H _ I h=>Constant_bool ⟨.bl b,H,I,rfl,h⟩
def Gl(X:Cx)(x:Str):Prop:=X.env.kindOf x=some .globalImplicit
theorem zhO{E:Value→Shared→Prop}{pins:List (Addr×Obj)}{s:Shared}{σ:St}{H:Hp}{x:Str}{u:Value}{pos:Pos}{Q:Value→Shared→Prop}(I:Inv X pins σ H s)(hg:Gl X x)(hm:X.mg x=some u)(h:Q u s)
  (hd:(x==("__debug__" : Str))=false:=by decide):wpAny (model X.prog X.w) X.A (eval (.Name x pos) X.env) Q E s :=
 Calls.Name_function_global I.ok.kind hg (Calls.loadGlobal_global (by rw[I.ok.glob];exact I.mod.glob.keeps I.bk) hm h) hd
theorem z4b{E:Value→Shared→Prop}{pins:List (Addr×Obj)}{s:Shared}{σ:St}{H:Hp}{x:Str}{u:Value}{pos:Pos}{Q:Value→Shared→Prop}(I:Inv X pins σ H s)(hg:Gl X x)(hm:X.mg x=none)(hv:bootBuiltins x=some u)(h:Q u s)
  (hn:x ≠ "__name__" := by decide) (hd:(x==("__debug__" : Str))=false:=by decide):wpAny (model X.prog X.w) X.A (eval (.Name x pos) X.env) Q E s:=by
 obtain⟨mb,h1,h2⟩:=I.mod.blt
 exact Calls.Name_function_global I.ok.kind hg (Calls.loadGlobal_builtin (by rw[I.ok.glob];exact I.mod.glob.keeps I.bk) hm (by rw[I.ok.blt];exact h1.keeps I.bk) ((h2 x hn).trans hv) h) hd
theorem zhP{x:Str}{v:V}{u:Value}{pos:Pos}(hg:Gl X x)(hm:X.mg x=some u)(r:RelV v u)(hd:(x==("__debug__" : Str))=false:=by decide):PE X (.Name x pos) (tC v) :=
 fun _ _ _ H _ I h=>zhO I hg hm ⟨v,H,I,r,h⟩ hd
theorem znt{x:Str}{v:V}{u:Value}{pos:Pos}(hg:Gl X x)(hm:X.mg x=none)(hv:bootBuiltins x=some u)(r:RelV v u)(hn:x ≠ "__name__" := by decide)(hd:(x==("__debug__" : Str))=false:=by decide):PE X (.Name x pos) (tC v) :=
 fun _ _ _ H _ I h=>z4b I hg hm hv ⟨v,H,I,r,h⟩ hn hd
variable {a b:Expr}{ta tb:TE}{pos:Pos}
variable {tA tB':TT}{rest:List Expr}
def tOr(t u:TT):TT:=fun σ H Q=>t σ H fun c H1=>if c=true then Q true H1 else u σ H1 Q
def tNot(t:TT):TT:=fun σ H Q=>t σ H fun c H1=>Q (!c) H1
theorem pw_or1(ha:PT X a tA):PW X (.BoolOp .Or [a] pos) tA:=by
 intro wh pins s σ H Q I h
 refine isTrue_or (thn (ha pins s σ H Q I h) fun c s1 e=>?_)
 cases c with
 | false=>exact isTrue_or_nil e
 | true=>exact e
theorem pw_or(ha:PT X a tA)(hb:PW X (.BoolOp .Or (b::rest) pos) tB'):PW X (.BoolOp .Or (a::b::rest) pos) (tOr tA tB'):=by
 intro wh pins s σ H Q I h
 refine isTrue_or (thn (ha pins s σ H _ I h) ?_)
 rintro c s1 ⟨H1,I1,q1⟩
 cases c with
 | true=>exact⟨H1,I1,q1⟩
 | false=>exact hb wh pins s1 σ H1 Q I1 q1
theorem pt_not(ha:PT X a tA):PT X (.UnaryOp .Not a pos) (tNot tA):=by
 intro pins s σ H Q I h
 exact isTrue_not (ha pins s σ H (fun c H1=>Q (!c) H1) I h)
def tAndV(ta tb:TE):TE:=fun σ H Q=>ta σ H fun x H1=>∃ c,x = .bl c∧if c=true then tb σ H1 Q else Q (.bl false) H1
def tNotV(ta:TE):TE:=fun σ H Q=>ta σ H fun x H1=>∃ c,x = .bl c∧Q (.bl (!c)) H1
theorem pe_one{op}{t:TE}(h:PE X a t):PE X (.BoolOp op [a] pos) t:=fun pins s σ H Q I hw=>BoolOp_one (h pins s σ H Q I hw)
theorem pe_and(ha:PE X a ta)(hb:PE X (.BoolOp .And (b::rest) pos) tb):PE X (.BoolOp .And (a::b::rest) pos) (tAndV ta tb):=by
 intro pins s σ H Q I h
 refine BoolOp_and (thn (ha pins s σ H _ I h) ?_)
 rintro v s1 ⟨x,H1,I1,r1,q1⟩
 obtain⟨c,rfl,q1⟩:=q1
 cases r1
 refine wpAny_truthy_bool ?_
 cases c with
 | true=>exact hb pins s1 σ H1 Q I1 q1
 | false=>exact⟨.bl false,H1,I1,rfl,q1⟩
theorem pe_not(ha:PE X a ta):PE X (.UnaryOp .Not a pos) (tNotV ta):=by
 intro pins s σ H Q I h
 refine UnaryOp_ (thn (ha pins s σ H _ I h) ?_)
 rintro v s1 ⟨x,H1,I1,r1,q1⟩
 obtain⟨c,rfl,q1⟩:=q1
 cases r1
 exact not_of (wpAny_truthy_bool ⟨.bl (!c),H1,I1,rfl,q1⟩)
def tIf(t:TT)(ta tb:TE):TE:=fun σ H Q=>t σ H fun c H1=>if c=true then ta σ H1 Q else tb σ H1 Q
theorem zjF{c:Expr}(hc:PT X c tA)(ha:PE X a ta)(hb:PE X b tb):PE X (.IfExp c a b pos) (tIf tA ta tb):=by
 intro pins s σ H Q I h
 refine wpAny_IfExp (thn (hc pins s σ H _ I h) ?_)
 rintro d s1 ⟨H1,I1,q1⟩
 cases d with
 | true=>exact ha pins s1 σ H1 Q I1 q1
 | false=>exact hb pins s1 σ H1 Q I1 q1
end
end L2
namespace L2
open PySem PySem.Spec PyProof.Rows
def SqL(K:PySem.W.Frag)(H:Hp)(a:Addr)(xs:List V):Prop :=
 Rd H a (.lst xs) ∨
  ∃(o:Obj) (its:Array Value) (n:Nat),K.lookup a=some o∧o.cls = .type "list" ∧ o.dict=none∧o.data = .seq its n∧its.size≤sizeLine∧Vals xs its.toList
def SqT(K:PySem.W.Frag)(H:Hp)(a:Addr)(xs:List V):Prop :=
 Rd H a (.tup xs) ∨
  ∃(o:Obj) (its:Array Value) (n:Nat),K.lookup a=some o∧o.cls = .type "tuple" ∧ o.data = .seq its n∧its.size≤sizeLine∧Vals xs its.toList
def absV:Value→Option V
 | .none=>some .non
 | .bool b=>some (.bl b)
 | .int i _=>some (.int i)
 | .str x _=>some (.str x)
 | .bytes b _=>some (.byt b)
 | .float b _=>some (.flt b)
 | .ref a=>some (.ref a)
 | .type n=>some (.ty n)
 | _=>none
theorem RelV.abs{x:V}{u:Value}(r:RelV x u):absV u=some x:=by
 cases x with
 | non=>cases r;rfl
 | bl _=>cases r;rfl
 | int _=>obtain⟨t,rfl⟩:=r;rfl
 | str _=>obtain⟨t,rfl⟩:=r;rfl
 | byt _=>obtain⟨t,rfl⟩:=r;rfl
 | flt _=>obtain⟨t,rfl⟩:=r;rfl
 | ref _=>cases r;rfl
 | ty _=>cases r;rfl
theorem RelV.inj{x y:V}{u:Value}(r:RelV x u)(q:RelV y u):x=y:=Option.some.inj (r.abs.symm.trans q.abs)
theorem Vals.inj:∀{xs ys:List V} {us:List Value},Vals xs us→Vals ys us→xs=ys
 | _,_,_,.nil,.nil=>rfl
 | _,_,_,.cons r t,.cons r' t'=>by rw[r.inj r',Vals.inj t t']
section
variable {X:Cx}{pins:List (Addr×Obj)}{σ:St}{H:Hp}{s:Shared}{a:Addr}{xs ys:List V}
theorem SqL.of{K:PySem.W.Frag}(h:H a=some (.lst xs)):SqL K H a xs := .inl (.inl h)
theorem SqT.of{K:PySem.W.Frag}(h:H a=some (.tup xs)):SqT K H a xs := .inl (.inl h)
theorem Inv.list(I:Inv X pins σ H s)(h:SqL X.K H a xs):∃ its:List Value,Vals xs its∧PlainL s.heap a its.toArray∧xs.length≤sizeLine:=by
 rcases h with h|⟨o,its,n,hk,hc,hd,hs,hz,r⟩
 · obtain⟨z,its,n,r,e⟩:=h.ok I.hok
   exact⟨its,r,⟨_,n,e,rfl,rfl,rfl⟩,z⟩
 · refine⟨its.toList,r,⟨o,n,I.kIn a o hk,hc,hd,by simpa using hs⟩,?_⟩
   have e:=r.length
   simp only[Array.length_toList]at e
   omega
theorem Inv.tuple(I:Inv X pins σ H s)(h:SqT X.K H a xs):∃ its:List Value,Vals xs its∧IsTup s.heap a its.toArray∧xs.length≤sizeLine:=by
 rcases h with h|⟨o,its,n,hk,hc,hs,hz,r⟩
 · obtain⟨z,its,r,p⟩:=h.ok I.hok
   exact⟨its,r,p,z⟩
 · refine⟨its.toList,r,⟨o,I.kIn a o hk,hc,n,by simpa using hs⟩,?_⟩
   have e:=r.length
   simp only[Array.length_toList]at e
   omega
theorem Inv.list_inj(I:Inv X pins σ H s)(h:SqL X.K H a xs)(h':SqL X.K H a ys):xs=ys:=by
 obtain⟨its,r,⟨o,n,e,_,_,d⟩,_⟩:=I.list h
 obtain⟨its',r',⟨o',n',e',_,_,d'⟩,_⟩:=I.list h'
 rw[e]at e';cases e'
 rw[d]at d'
 injection d' with d1 _
 have:its=its':=by simpa using congrArg Array.toList d1
 subst this
 exact r.inj r'
theorem Inv.tuple_inj(I:Inv X pins σ H s)(h:SqT X.K H a xs)(h':SqT X.K H a ys):xs=ys:=by
 obtain⟨its,r,⟨o,e,_,n,d⟩,_⟩:=I.tuple h
 obtain⟨its',r',⟨o',e',_,n',d'⟩,_⟩:=I.tuple h'
 rw[e]at e';cases e'
 rw[d]at d'
 injection d' with d1 _
 have:its=its':=by simpa using congrArg Array.toList d1
 subst this
 exact r.inj r'
end
abbrev Cx.wish(X:Cx)(E:Value→Shared→Prop):Cx:={ X with xe:=E }
abbrev Cx.nox(X:Cx):Cx:=X.wish fun _ _=>False
theorem Cx.Ok.wish{X:Cx}(ok:X.Ok)(E:Value→Shared→Prop):(X.wish E).Ok :=
 ⟨ok.mod,ok.kind,ok.glob,ok.blt,ok.above,ok.inj,ok.has,ok.cab,ok.hd,ok.frames,ok.stk,ok.exf,ok.bs,ok.bsz,ok.noex,ok.exfs,ok.funs,ok.frf⟩
theorem Cx.Ok.unwish{X:Cx}{E:Value→Shared→Prop}(ok:(X.wish E).Ok):X.Ok :=
 ⟨ok.mod,ok.kind,ok.glob,ok.blt,ok.above,ok.inj,ok.has,ok.cab,ok.hd,ok.frames,ok.stk,ok.exf,ok.bs,ok.bsz,ok.noex,ok.exfs,ok.funs,ok.frf⟩
section
variable {X:Cx}{pins:List (Addr×Obj)}{σ:St}{H:Hp}{s:Shared}{E:Value→Shared→Prop}
theorem Inv.wish(I:Inv X pins σ H s)(E:Value→Shared→Prop):Inv (X.wish E) pins σ H s:=⟨I.ok.wish E,I.os,I.bare,I.base,I.loc,I.cell,I.free,I.freeC,I.pin,I.hok,I.len⟩
theorem Inv.unwish(I:Inv (X.wish E) pins σ H s):Inv X pins σ H s:=⟨I.ok.unwish,I.os,I.bare,I.base,I.loc,I.cell,I.free,I.freeC,I.pin,I.hok,I.len⟩
theorem SP.unwish{D:Ends}{f:Flow}{s':Shared}(h:SP (X.wish E) pins D f s'):SP X pins D f s':=by
 cases f with
 | next=>obtain⟨σ',H',I,q⟩:=h;exact⟨σ',H',I.unwish,q⟩
 | brk=>obtain⟨σ',H',I,q⟩:=h;exact⟨σ',H',I.unwish,q⟩
 | cont=>obtain⟨σ',H',I,q⟩:=h;exact⟨σ',H',I.unwish,q⟩
 | ret u=>obtain⟨v,σ',H',I,r,q⟩:=h;exact⟨v,σ',H',I.unwish,r,q⟩
theorem PE.nox{e:Expr}{t:TE}(h:PE X.nox e t):PE X e t:=fun pins s σ H Q I hw =>
 wpAny_mono (h pins s σ H Q (I.wish _) hw) (fun _ _ hZ=>hZ.elim fun v hZ=>hZ.elim fun H' hZ=>hZ.elim fun I' hZ=>hZ.elim fun r q=>⟨v,H',I'.unwish,r,q⟩) fun _ _ z=>False.elim z
theorem PT.nox{e:Expr}{t:TT}(h:PT X.nox e t):PT X e t:=fun pins s σ H Q I hw =>
 wpAny_mono (h pins s σ H Q (I.wish _) hw) (fun _ _ hZ=>hZ.elim fun H' hZ=>hZ.elim fun I' q=>⟨H',I'.unwish,q⟩) fun _ _ z=>False.elim z
theorem PSs.nox{st:List Stmt}{t:TS}(h:PSs X.nox st t):PSs X st t:=fun pins s σ H D I hw =>
 wpAny_mono (h pins s σ H D (I.wish _) hw) (fun _ _ q=>q.unwish) fun _ _ z=>False.elim z
end
section
variable {X:Cx}{st:Stmt}{rest:List Stmt}{t u:TS}{e:Expr}{te:TE}{pos:Pos}
def tNext:TS:=fun D σ H=>D.nx σ H
def tSeq(t u:TS):TS:=fun D σ H=>t { D with nx:=u D } σ H
theorem znu:PSs X [] tNext:=fun _ _ σ H _ I h=>wpAny_execs_nil ⟨σ,H,I,h⟩
theorem zjG(h1:PS X st t)(h2:PSs X rest u):PSs X (st::rest) (tSeq t u):=by
 intro pins s σ H D I h
 refine wpAny_execs_cons (thn (h1 pins s σ H { D with nx:=u D } I h) fun f s1 q=>?_)
 cases f with
 | next =>
  obtain⟨σ',H',I',q⟩:=q
  exact h2 pins s1 σ' H' D I' q
 | ret v=>exact q
 | brk=>exact q
 | cont=>exact q
theorem znv(h1:PS X st t):PSs X [st] t:=by
 intro pins s σ H D I h
 refine wpAny_execs_cons (thn (h1 pins s σ H D I h) fun f s1 q=>?_)
 cases f with
 | next=>exact wpAny_execs_nil q
 | ret v=>exact q
 | brk=>exact q
 | cont=>exact q
theorem Inv.quiet{pins:List (Addr×Obj)}{σ:St}{H:Hp}{s:Shared}(I:Inv X pins σ H s):interactive X.env=false:=by simp[interactive,I.ok.kind]
def tDrop(te:TE):TS:=fun D σ H=>te σ H fun _ H1=>D.nx σ H1
theorem zbB(he:PE X e te)(hs:swapsWith e none pos.line X.env=pure false:=by rfl):PS X (.Expr e pos) (tDrop te):=by
 intro pins s σ H D I h
 exact wpAny_Expr_any (thn (he pins s σ H _ I h) fun v s1 hZ=>hZ.elim fun x hZ=>hZ.elim fun H1 hZ=>hZ.elim fun I1 hZ=>hZ.elim fun r1 q1=>⟨σ,H1,I1,q1⟩) I.quiet hs
def tRet(te:TE):TS:=fun D σ H=>te σ H D.rt
theorem ps_ret(he:PE X e te):PS X (.Return (some e) pos) (tRet te):=by
 intro pins s σ H D I h
 exact wpAny_Return_some (thn (he pins s σ H _ I h) fun v s1 hZ=>hZ.elim fun x hZ=>hZ.elim fun H1 hZ=>hZ.elim fun I1 hZ=>hZ.elim fun r1 q1=>⟨x,σ,H1,I1,r1,q1⟩)
def tIfS(c:TT)(t u:TS):TS:=fun D σ H=>c σ H fun b H1=>if b=true then t D σ H1 else u D σ H1
theorem ps_if{c:Expr}{a b:List Stmt}{tc:TT}(hc:PT X c tc)(ha:PSs X a t)(hb:PSs X b u):PS X (.If c a b pos) (tIfS tc t u):=by
 intro pins s σ H D I h
 refine wpAny_If (thn (hc pins s σ H _ I h) ?_)
 rintro d s1 ⟨H1,I1,q1⟩
 cases d with
 | true=>exact ha pins s1 σ H1 D I1 q1
 | false=>exact hb pins s1 σ H1 D I1 q1
end
abbrev TG:=V→St→Hp→(St→Hp→Prop)→Prop
abbrev TGs:=List V→St→Hp→(St→Hp→Prop)→Prop
def PG(X:Cx)(target:Expr)(t:TG):Prop :=
 ∀(pins:List (Addr×Obj)) (s:Shared) (σ:St) (H:Hp) (v:V) (u:Value) (Q:St→Hp→Prop),Inv X pins σ H s→RelV v u→t v σ H Q →
  wpAny (model X.prog X.w) X.A (assign target X.env u) (fun _ s'=>∃ σ' H',Inv X pins σ' H' s'∧Q σ' H') X.xe s
def PGs(X:Cx)(ts:List Expr)(t:TGs):Prop :=
 ∀(pins:List (Addr×Obj)) (s:Shared) (σ:St) (H:Hp) (vs:List V) (us:List Value) (Q:St→Hp→Prop),Inv X pins σ H s→Vals vs us→t vs σ H Q →
  wpAny (model X.prog X.w) X.A (assignInOrder ((assignEach ts X.env).map (·.2)) us) (fun _ s'=>∃ σ' H',Inv X pins σ' H' s'∧Q σ' H') X.xe s
abbrev TSet:=V→V→V→Hp→(Hp→Prop)→Prop
def PSet(X:Cx)(t:TSet):Prop :=
 ∀(pins:List (Addr×Obj)) (s:Shared) (σ:St) (H:Hp) (o i v:V) (ov iv u:Value) (Q:Hp→Prop),Inv X pins σ H s→RelV o ov→RelV i iv→RelV v u→t o i v H Q →
  wpAny (model X.prog X.w) X.A (setItem ov iv u) (fun _ s'=>∃ H',Inv X pins σ H' s'∧Q H') X.xe s
section
variable {X:Cx}{pos:Pos}
def z8E(i:Nat):TG:=fun v σ H Q=>Q (σ.set i (some v)) H
theorem z0K{i:Nat}{x:Str}(hN:X.N.Nodup)(hi:X.N[i]?=some x)(hx:Loc X.env.scope x)(hf:X.fn x=true∨X.env.scope.names.lookup x=some .local:=by first|exact .inl rfl|exact .inr rfl|assumption):PG X (.Name x pos) (z8E i):=by
 intro pins s σ H v u Q I r h
 exact wpAny_assign_Name (zcj I hN hi hx r (fun s' I'=>⟨_,H,I',h⟩) hf)
def gNil:TGs:=fun vs σ H Q=>vs=[]∧Q σ H
def gCons(t:TG)(u:TGs):TGs:=fun vs σ H Q=>∃ v r,vs=v::r∧t v σ H fun σ' H'=>u r σ' H' Q
theorem znw:PGs X [] gNil:=by
 intro pins s σ H vs us Q I r h
 obtain⟨e,h⟩:=h
 subst e
 cases r
 exact assignInOrder_nil ⟨σ,H,I,h⟩
theorem zjH{e:Expr}{es:List Expr}{t:TG}{u:TGs}(h1:PG X e t)(h2:PGs X es u)
  (hs:(assignEach (e::es) X.env).map (·.2)=assign e X.env::(assignEach es X.env).map (·.2):=by rfl):PGs X (e::es) (gCons t u):=by
 intro pins s σ H vs us Q I r h
 obtain⟨v,vr,e1,h⟩:=h
 subst e1
 cases r with
 | cons r rr =>
  rw[hs]
  refine assignInOrder_cons (thn (h1 pins s σ H _ _ _ I r h) ?_)
  rintro _ s1 ⟨σ1,H1,I1,q1⟩
  exact h2 pins s1 σ1 H1 _ _ Q I1 rr q1
def gTup(K:PySem.W.Frag)(n:Nat)(t:TGs):TG:=fun v σ H Q=>∃ a xs,v = .ref a∧SqT K H a xs∧xs.length=n∧t xs σ H Q
theorem pg_tup{es:List Expr}{k:Nat}{t:TGs}{n:Nat}(hc:X.calm=true)(h:PGs X es t)
  (hn:(assignEach es X.env).length=n:=by rfl) (hst:(assignEach es X.env).findIdx? (·.1)=none:=by rfl):PG X (.Tuple es k pos) (gTup X.K n t):=by
 intro pins s σ H v u Q I r hw
 obtain⟨a,xs,e1,hq,hl,hw⟩:=hw
 subst e1
 cases r
 obtain⟨its,rv,ht,hz⟩:=I.tuple hq
 refine assign_Tuple_tuple (I.ok.hd hc) ht (by simp[hn,←hl,rv.length]) hst fun h' hx=>?_
 have I1:Inv X pins σ H { s with heap:=h' }:=I.kept (t':=s.toks) fun b o e=>hx b o (Nat.ne_of_lt (Heap.lt_size e)) e
 exact h pins _ σ H xs _ Q I1 (by simpa using rv) hw
def gSub(to ti:TE)(t:TSet):TG:=fun v σ H Q=>to σ H fun o H1=>ti σ H1 fun i H2=>t o i v H2 fun H3=>Q σ H3
theorem pg_sub{o i:Expr}{to ti:TE}{t:TSet}(ho:PE X o to)(hi:PE X i ti)(hs:PSet X t)
  (ha:∀ v,assign (.Subscript o i pos) X.env v=(do
   let ov ←holding [v] (eval o X.env)
   let iv ←holding [v,ov] (eval i X.env)
   standAt pos
   holding [v,ov,iv] (setItem ov iv v)
   release [v,ov,iv] []):=by intro _;rfl):PG X (.Subscript o i pos) (gSub to ti t):=by
 intro pins s σ H v u Q I r h
 rw[ha]
 refine wpAny_bind (wpAny_holding (thn (ho pins s σ H _ I h) ?_))
 rintro ov s1 ⟨x,H1,I1,r1,q1⟩
 refine wpAny_bind (wpAny_holding (thn (hi pins s1 σ H1 _ I1 q1) ?_))
 rintro iv s2 ⟨y,H2,I2,r2,q2⟩
 refine wpAny_bind (wpAny_standAt (wpAny_bind (wpAny_holding (thn (hs pins s2 σ H2 x y v ov iv u _ I2 r1 r2 r q2) ?_))))
 rintro _ s3 ⟨H3,I3,q3⟩
 exact wpAny_release ⟨σ,H3,I3,q3⟩
def tAsg(te:TE)(g:TG):TS:=fun D σ H=>te σ H fun x H1=>g x σ H1 D.nx
theorem ps_asg{tg e:Expr}{te:TE}{g:TG}(he:PE X e te)(hg:PG X tg g)(hs:swapsWithSole [tg] e pos.line X.env=pure false:=by rfl)(hw:swappedStores [tg] e X.env=pure none:=by rfl)
  (h1:(assignEach [tg] X.env).map (·.2)=[assign tg X.env]:=by rfl):PS X (.Assign [tg] e pos) (tAsg te g):=by
 intro pins s σ H D I h
 refine wpAny_Assign_stores (thn (he pins s σ H _ I h) fun v s1 hZ=>hZ.elim fun x hZ=>hZ.elim fun H1 hZ=>hZ.elim fun I1 hZ=>hZ.elim fun r1 q1=>?_) hs hw
 rw[h1]
 exact thn (hg pins s1 σ H1 x v _ I1 r1 q1) fun _ s2 q=>q
theorem ps_set{i:Nat}{x:Str}{e:Expr}{te:TE}{pos':Pos}(hN:X.N.Nodup)(hi:X.N[i]?=some x)(hx:Loc X.env.scope x)(he:PE X e te)(hs:swapsWith e (some (.Name x pos')) pos.line X.env=pure false:=by rfl)(hf:X.fn x=true∨X.env.scope.names.lookup x=some .local:=by first|exact .inl rfl|exact .inr rfl|assumption):
  PS X (.Assign [.Name x pos'] e pos) (tAsg te (z8E i)):=by
 intro pins s σ H D I h
 refine wpAny_Assign_Name (thn (he pins s σ H _ I h) fun v s1 hZ=>hZ.elim fun y hZ=>hZ.elim fun H1 hZ=>hZ.elim fun I1 hZ=>hZ.elim fun r1 q1=>?_) hs
 exact zcj I1 hN hi hx r1 (fun s2 I2=>⟨_,H1,I2,q1⟩) hf
end
section
variable {X:Cx}{pos:Pos}
def tWhile(c:TT)(tb:TS):TS:=fun D σ H=>∃ W:Nat→St→Hp→Prop,(∃ m,W m σ H)∧∀ m σ H,W m σ H →
 c σ H fun b H1=>if b=true then ∃ N:St→Hp→Prop,(∀ σ' H',N σ' H'→∃ m',m'<m∧W m' σ' H')∧tb { D with nx:=N,ct:=N,bk:=D.nx } σ H1 else D.nx σ H1
theorem zjI{c:Expr}{body:List Stmt}{tc:TT}{tb:TS}(hp:PassesOwn (model X.prog X.w) X.A X.env X.xe)(hc:PT X c tc)(hb:PSs X body tb):PS X (.While c body [] pos) (tWhile tc tb):=by
 intro pins s σ H D I h
 obtain⟨W,⟨m0,w0⟩,turn⟩:=h
 refine wpAny_While (codeAny_whileLoop (fun n s'=>∃ σ' H',Inv X pins σ' H' s'∧W n σ' H') ?_ m0 ⟨σ,H,I,w0⟩)
 rintro n s1 ⟨σ1,H1,I1,w1⟩
 refine wpAny_passesOwn hp (thn (hc pins s1 σ1 H1 _ I1 (turn n σ1 H1 w1)) ?_)
 rintro b s2 ⟨H2,I2,q2⟩
 cases b with
 | true =>
  obtain⟨N,hN,q2⟩:=q2
  rw[if_pos rfl]
  refine wpAny_passesOwn hp (thn (hb pins s2 σ1 H2 _ I2 q2) fun f s3 q3=>?_)
  cases f with
  | next =>
   obtain⟨σ3,H3,I3,n3⟩:=q3
   obtain⟨m',hm,w3⟩:=hN σ3 H3 n3
   exact⟨m',hm,σ3,H3,I3,w3⟩
  | cont =>
   obtain⟨σ3,H3,I3,n3⟩:=q3
   obtain⟨m',hm,w3⟩:=hN σ3 H3 n3
   exact⟨m',hm,σ3,H3,I3,w3⟩
  | brk=>exact q3
  | ret v=>exact q3
 | false =>
  rw[if_neg Bool.false_ne_true]
  exact wpAny_execs_nil ⟨σ1,H2,I2,q2⟩
end
structure It where
 go:Nat→Hp→Prop
 yld:Nat→Hp→V→Hp→Prop
 stop:Nat→Hp→Prop
def FpOk(X:Cx)(pins:List (Addr×Obj))(H:Hp)(b:Addr):Prop :=
 H b=none∧b≠X.env.locals∧b ∉ X.fs∧(b∈X.ex∨X.s₀.heap.objs.size≤b)∧(∀ x c,X.env.cells.lookup x=some c→c≠b)∧∀ p∈X.pn++pins,p.1≠b
theorem Inv.fpOk{X:Cx}{pins:List (Addr×Obj)}{σ:St}{H H':Hp}{s:Shared}{b:Addr}(I:Inv X pins σ H s)(hb:s.heap.objs.size≤b)(hn:H' b=none):FpOk X pins H' b:=by
 refine⟨hn,Nat.ne_of_gt (Nat.lt_of_lt_of_le I.lt hb),I.nofs hb,.inr (Nat.le_trans I.sz hb),fun x c e z=>?_,fun p hp z=>?_⟩
 · obtain⟨v,q⟩:=I.cell x c e
   exact absurd (Nat.lt_of_lt_of_le q.lt (by rw[z];exact hb)) (Nat.lt_irrefl _)
 · exact absurd (Nat.lt_of_lt_of_le (Heap.lt_size (I.pin p hp).1) (by rw[z];exact hb)) (Nat.lt_irrefl _)
structure Turn(P:Program)(w:World)(K:PySem.W.Frag)(tg:Expr)(J:It)(fp:List Addr)(it:Addr)(tn:Nat→Heap→Prop):Prop where
 mem:it∈fp
 obj:∀ i h,tn i h→∀ b∈fp,∃ o,h.get? b=some o∧∀ v,o.data ≠ .cell v
 keep:∀ i h h',tn i h→(∀ b∈fp,∀ o,h.get? b=some o→h'.get? b=some o)→tn i h'
 item:∀(X:Cx),X.prog=P→X.w=w→X.K=K→X.calm=true→∀(i:Nat) (pins:List (Addr×Obj)) (s:Shared) (σ:St) (H:Hp) (E:Value→Shared→Prop),Inv X pins σ H s→(∀ b∈fp,FpOk X pins H b)→tn i s.heap→J.go i H →
  wpAny (model P w) X.A (pyNext (.ref it)) (fun r s1=>∃ u,r=some u ∧
   wpAny (model P w) X.A (letOwnedTupleGo tg (.ref it) u) (fun _ s2=>∃ x H',Inv X pins σ H' s2∧RelV x u∧J.yld i H x H'∧tn (i+1) s2.heap∧∀ b∈fp,H' b=none) E s1) E s
 done:∀(X:Cx),X.prog=P→X.w=w→X.K=K→X.calm=true→∀(i:Nat) (pins:List (Addr×Obj)) (s:Shared) (σ:St) (H:Hp) (E:Value→Shared→Prop),Inv X pins σ H s→(∀ b∈fp,FpOk X pins H b)→tn i s.heap→J.stop i H →
  wpAny (model P w) X.A (pyNext (.ref it)) (fun r s1=>r=none∧Inv X pins σ H s1) E s
 self:∀(A:Around) (i:Nat) (s:Shared) (Q:Value→Shared→Prop) (E:Value→Shared→Prop),tn i s.heap→Q (.ref it) s→wpAny (model P w) A (pyIter (.ref it)) Q E s
abbrev TI:=St→Hp→(It→Hp→Prop)→Prop
def PIE(X:Cx)(pins:List (Addr×Obj))(σ:St)(tg:Expr)(R:It→Hp→Prop)(itv:Value)(s2:Shared):Prop :=
 ∃(it:Addr) (fp:List Addr) (tn:Nat→Heap→Prop) (J:It) (H':Hp),itv = .ref it∧Inv X pins σ H' s2∧Turn X.prog X.w X.K tg J fp it tn∧tn 0 s2.heap∧(∀ b∈fp,FpOk X pins H' b)∧R J H'
def PI(X:Cx)(tg iter:Expr)(wi:TI):Prop :=
 ∀(pins:List (Addr×Obj)) (s:Shared) (σ:St) (H:Hp) (R:It→Hp→Prop),Inv X pins σ H s→wi σ H R →
  wpAny (model X.prog X.w) X.A (eval iter X.env) (fun v s1=>wpAny (model X.prog X.w) X.A (pyIter v) (PIE X pins σ tg R) X.xe s1) X.xe s
theorem zhQ{M:Model}{A:Around}{E:Value→Shared→Prop}{s:Shared}{tg:Expr}{it:Addr}{u:Value}{o:Obj}{n:String}{vs:Array Value}{Q:Unit→Shared→Prop}(ho:s.heap.get? it=some o)(hc:o.cls = .type n)(hd:o.data = .fields vs)
    (hn:["enumerate", "zip", "dict_itemiterator", "dict_reverseitemiterator", "odict_iterator", "itertools.zip_longest", "itertools.pairwise"].contains n=false) (hQ:Q () s):wpAny M A (letOwnedTupleGo tg (.ref it) u) Q E s:=by
  unfold letOwnedTupleGo
  cases tg<;>first
    | exact wpAny_pure hQ
    | (cases u<;>first
        | exact wpAny_pure hQ
        | (refine wpAny_bind (wpAny_load ho ?_)
           rw[hc,hd]
           show wpAny M A (if(["enumerate", "zip", "dict_itemiterator", "dict_reverseitemiterator", "odict_iterator", "itertools.zip_longest", "itertools.pairwise"].contains n&&vs[0]?==some (rawInt _))=true then _ else _) Q E s
           rw[if_neg (by intro h;rw[hn,Bool.false_and]at h;cases h)]
           exact wpAny_pure hQ))
def Itl(K:PySem.W.Frag)(a:Addr):It :=
 ⟨fun i H=>∃ xs x,SqL K H a xs∧xs[i]?=some x,fun i H x H'=>H'=H∧∀ xs,SqL K H a xs→xs[i]?=some x,fun i H=>∃ xs,SqL K H a xs∧xs.length≤i⟩
def Itt(K:PySem.W.Frag)(a:Addr):It :=
 ⟨fun i H=>∃ xs x,SqT K H a xs∧xs[i]?=some x,fun i H x H'=>H'=H∧∀ xs,SqT K H a xs→xs[i]?=some x,fun i H=>∃ xs,SqT K H a xs∧xs.length≤i⟩
def Itr(lo:Int)(n:Nat):It:=⟨fun i _=>i<n,fun i H x H'=>H'=H∧x = .int (lo+i),fun i _=>n≤i⟩
theorem ziO{P:Program}{w:World}{K:PySem.W.Frag}{tg:Expr}(a it:Addr):Turn P w K tg (Itl K a) [it] it (fun i h=>h.IsListIter it a i) where
 mem:=by simp
 obj:=fun i h st b hb=>by
  have e:b=it:=by simpa using hb
  subst e
  obtain⟨o,e,c,d⟩:=st
  exact⟨o,e,fun v z=>by rw[d]at z;cases z⟩
 keep:=fun i h h' st k=>st.at fun o e=>k it (by simp) o e
 item:=by
  intro X hP hw hK hc i pins s σ H E I hf st hg
  subst hP hw hK
  obtain⟨xs,x,hq,hx⟩:=hg
  obtain⟨its,rv,p,hz⟩:=I.list hq
  obtain⟨u,hu,ru⟩:=rv.get hx
  obtain⟨f0,f1,f2,f3,f4,f5⟩:=hf it (by simp)
  refine wpAny_pyNext_list_item st p.isList (x:=u) (by simpa using hu) fun h' st' sb=>?_
  have I1:Inv X pins σ H { s with heap:=h' }:=I.turned (t':=s.toks) (fun b o hb e=>(sb.2 b hb).trans e) f0 f1 f3 f4 f5
  obtain⟨o,e,c,d⟩:=id st'
  exact⟨u,rfl,zhQ (s:={ s with heap:=h' }) e c d (by decide) ⟨x,H,I1,ru,⟨rfl,fun ys hy=>by rw[I.list_inj hy hq];exact hx⟩,st',fun b hb=>(hf b hb).1⟩⟩
 done:=by
  intro X hP hw hK hc i pins s σ H E I hf st hg
  subst hP hw hK
  obtain⟨xs,hq,hx⟩:=hg
  obtain⟨its,rv,p,hz⟩:=I.list hq
  obtain⟨f0,f1,f2,f3,f4,f5⟩:=hf it (by simp)
  have hl:=rv.length
  exact wpAny_pyNext_list_end (I.ok.hd hc) st p.isList (by simp;omega) fun h' eb=>⟨rfl,I.turned (t':=s.toks) (fun b o hb e=>eb b o hb e) f0 f1 f3 f4 f5⟩
 self:=fun _ _ _ _ _ st h=>wpAny_pyIter_listiter st h
theorem zdJ{P:Program}{w:World}{K:PySem.W.Frag}{tg:Expr}(a it:Addr):Turn P w K tg (Itt K a) [it] it (fun i h=>h.IsTupleIter it a i) where
 mem:=by simp
 obj:=fun i h st b hb=>by
  have e:b=it:=by simpa using hb
  subst e
  obtain⟨o,e,c,d⟩:=st
  exact⟨o,e,fun v z=>by rw[d]at z;cases z⟩
 keep:=fun i h h' st k=>st.at fun o e=>k it (by simp) o e
 item:=by
  intro X hP hw hK hc i pins s σ H E I hf st hg
  subst hP hw hK
  obtain⟨xs,x,hq,hx⟩:=hg
  obtain⟨its,rv,p,hz⟩:=I.tuple hq
  obtain⟨u,hu,ru⟩:=rv.get hx
  obtain⟨f0,f1,f2,f3,f4,f5⟩:=hf it (by simp)
  refine wpAny_pyNext_tuple_item st (show s.heap.IsTuple a its.toArray from p) (x:=u) (by simpa using hu) fun h' st' sb=>?_
  have I1:Inv X pins σ H { s with heap:=h' }:=I.turned (t':=s.toks) (fun b o hb e=>(sb.2 b hb).trans e) f0 f1 f3 f4 f5
  obtain⟨o,e,c,d⟩:=id st'
  exact⟨u,rfl,zhQ (s:={ s with heap:=h' }) e c d (by decide) ⟨x,H,I1,ru,⟨rfl,fun ys hy=>by rw[I.tuple_inj hy hq];exact hx⟩,st',fun b hb=>(hf b hb).1⟩⟩
 done:=by
  intro X hP hw hK hc i pins s σ H E I hf st hg
  subst hP hw hK
  obtain⟨xs,hq,hx⟩:=hg
  obtain⟨its,rv,p,hz⟩:=I.tuple hq
  obtain⟨f0,f1,f2,f3,f4,f5⟩:=hf it (by simp)
  have hl:=rv.length
  exact wpAny_pyNext_tuple_end (I.ok.hd hc) st (show s.heap.IsTuple a its.toArray from p) (by simp;omega) fun h' eb=>⟨rfl,I.turned (t':=s.toks) (fun b o hb e=>eb b o hb e) f0 f1 f3 f4 f5⟩
 self:=fun _ _ _ _ _ st h=>wpAny_pyIter_tupleiter st h
theorem zdK{P:Program}{w:World}{K:PySem.W.Frag}{tg:Expr}(it:Addr)(lo:Int)(n:Nat):Turn P w K tg (Itr lo n) [it] it (fun i h=>IsRangeIter h it (lo+(i:Nat)*1) ((n:Int)-(i:Nat)) 1) where
 mem:=by simp
 obj:=fun i h st b hb=>by
  have e:b=it:=by simpa using hb
  subst e
  exact⟨_,st,fun v z=>by
   have z':Data.fields _=Data.cell v:=z
   cases z'⟩
 keep:=fun i h h' st k=>k it (by simp) _ st
 item:=by
  intro X hP hw hK hc i pins s σ H E I hf st hg
  subst hP hw hK
  obtain⟨f0,f1,f2,f3,f4,f5⟩:=hf it (by simp)
  have W:=Walks.range (prog:=X.prog) (w:=X.w) (I.ok.hd hc) it lo 1 n
  refine W.item i s _ _ hg st fun v h' tk hv st' kk=>?_
  obtain⟨t,rfl⟩:=hv
  have I1:Inv X pins σ H { s with heap:=h',toks:=tk }:=I.turned (fun b o hb e=>kk b o (by simpa using hb) e) f0 f1 f3 f4 f5
  refine⟨_,rfl,zhQ (s:={ s with heap:=h',toks:=tk }) (n := "range_iterator") st' rfl rfl (by decide) ⟨.int (lo+i),H,I1,⟨t,?_⟩,⟨rfl,rfl⟩,st',fun b hb=>(hf b hb).1⟩⟩
  rw[Int.mul_one]
 done:=by
  intro X hP hw hK hc i pins s σ H E I hf st hg
  subst hP hw hK
  obtain⟨f0,f1,f2,f3,f4,f5⟩:=hf it (by simp)
  exact wpAny_pyNext_range_end (I.ok.hd hc) st (by have:n≤i:=hg;omega) fun h' eb=>⟨rfl,I.turned (t':=s.toks) (fun b o hb e=>eb b o hb e) f0 f1 f3 f4 f5⟩
 self:=fun _ _ _ _ _ st h=>wpAny_pyIter_rangeiter st h
end L2
namespace L2
open PySem PySem.Spec PyProof.Rows
section
variable {X:Cx}{tg:Expr}
theorem zck{pins:List (Addr×Obj)}{σ:St}{H:Hp}{s:Shared}{R:It→Hp→Prop}{E:Value→Shared→Prop}{lo hi:Int}{t u v:Tok}{tk:Nat}(I:Inv X pins σ H s)(h1 : -(2 ^ 62)≤lo)(h2:lo<2 ^ 62)(h3 : -(2 ^ 62)≤hi)(h4:hi<2 ^ 62)
   (q:R (Itr lo (hi-lo).toNat) H):wpAny (model X.prog X.w) X.A (pyIter (.ref s.heap.objs.size)) (PIE X pins σ tg R) E { s with heap:=s.heap.push { cls := .type "range",data := .fields #[.int lo t,.int hi u,.int 1 v] },toks:=tk }:=by
 refine wpAny_pyIter_range (IsRange.new ..) (small_one h1 h2 h3 h4) ?_
 have I1:Inv X pins σ H { s with heap:=s.heap.push { cls := .type "range",data := .fields #[.int lo t,.int hi u,.int 1 v] },toks:=tk }:=I.kept fun b o e=>Heap.get?_push_of_some _ e
 refine⟨(s.heap.push { cls := .type "range",data := .fields #[.int lo t,.int hi u,.int 1 v] }).objs.size,[(s.heap.push { cls := .type "range",data := .fields #[.int lo t,.int hi u,.int 1 v] }).objs.size],_,_,H,rfl,
   I1.kept (t':=tk) fun b o e=>Heap.get?_push_of_some _ e,zdK _ lo (hi-lo).toNat,?_,fun b hb=>?_,q⟩
 · have e1:lo+((0:Nat):Int)*1=lo:=by simp
   have e2:(((hi-lo).toNat:Nat):Int)-((0:Nat):Int)=Builtin.Range.rangeSize lo hi 1:=by rw[rangeSize_one];split<;>omega
   show IsRangeIter _ _ (lo+((0:Nat):Int)*1) ((((hi-lo).toNat:Nat):Int)-((0:Nat):Int)) 1
   rw[e1,e2]
   exact Heap.get?_push_size _ rfl
 · have e:b=(s.heap.push { cls := .type "range",data := .fields #[.int lo t,.int hi u,.int 1 v] }).objs.size:=by simpa using hb
   subst e
   exact I1.fpOk (Nat.le_refl _) (I1.hok.fresh (Nat.le_refl _))
def iRng1(ta:TA):TI:=fun σ H R=>ta σ H fun vs H1=>∃ j:Int,vs=[.int j] ∧ -(2 ^ 62)≤j∧j<2 ^ 62∧R (Itr 0 j.toNat) H1
def iRng2(ta:TA):TI:=fun σ H R=>ta σ H fun vs H1=>∃ i j:Int,vs=[.int i,.int j]∧(-(2 ^ 62)≤i∧i<2 ^ 62 ∧ -(2 ^ 62)≤j∧j<2 ^ 62)∧R (Itr i (j-i).toNat) H1
theorem zag{a:Expr}{ta:TA}{p pos:Pos}(hg:Gl X "range")(hm:X.mg "range" = none)(ha:PA X [a] ta)(hs:starEach [a] X.env=[(false,eval a X.env)]:=by rfl):PI X tg (.Call (.Name "range" p) [a] [] pos) (iRng1 ta):=by
 intro pins s σ H R I h
 refine Call_ (z4b I hg hm boot_range (PyProof.Rows.callWith_type1 (thn (ha pos pins s σ H _ I h) fun us s1 hZ=>hZ.elim fun vs hZ=>hZ.elim fun H1 hZ=>hZ.elim fun I1 hZ=>hZ.elim fun r1 q1=>?_) hs rfl))
 obtain⟨j,e,q1,q2,q⟩:=q1
 subst e
 cases r1 with
 | cons r rr =>
  cases rr
  obtain⟨t,rfl⟩:=r
  exact call_range_1 (zck I1 (by omega) (by omega) q1 q2 (by simpa using q))
theorem ziP{a b:Expr}{ta:TA}{p pos:Pos}(hg:Gl X "range")(hm:X.mg "range" = none)(ha:PA X [a,b] ta)(hs:starEach [a,b] X.env=[(false,eval a X.env),(false,eval b X.env)]:=by rfl)(hs2:starEach [b] X.env=[(false,eval b X.env)]:=by rfl):
  PI X tg (.Call (.Name "range" p) [a,b] [] pos) (iRng2 ta):=by
 intro pins s σ H R I h
 refine Call_ (z4b I hg hm boot_range (PyProof.Rows.callWith_type1 (thn (ha pos pins s σ H _ I h) fun us s1 hZ=>hZ.elim fun vs hZ=>hZ.elim fun H1 hZ=>hZ.elim fun I1 hZ=>hZ.elim fun r1 q1=>?_) (by rw[hs,hs2]) (by rw[hs2];rfl)))
 obtain⟨i,j,e,⟨q1,q2,q3,q4⟩,q⟩:=q1
 subst e
 cases r1 with
 | cons r rr =>
  cases rr with
  | cons r' rr =>
   cases rr
   obtain⟨t,rfl⟩:=r
   obtain⟨t',rfl⟩:=r'
   exact call_range_2 (zck I1 q1 q2 q3 q4 q)
def tFor(wi:TI)(g:TG)(tb:TS):TS:=fun D σ H=>wi σ H fun J H1=>∃ W:Nat→Nat→St→Hp→Prop,(∃ m,W 0 m σ H1)∧∀ i m σ H,W i m σ H →
 (J.stop i H∧D.nx σ H)∨(J.go i H∧∃ N:St→Hp→Prop,(∀ σ' H',N σ' H'→∃ m',m'<m∧W (i+1) m' σ' H')∧∀ x H',J.yld i H x H'→g x σ H' fun σ2 H2=>tb { D with nx:=N,ct:=N,bk:=D.nx } σ2 H2)
def z8F(fp:List Addr)(h:Heap):List (Addr×Obj):=fp.filterMap fun b=>(h.get? b).map fun o=>(b,o)
theorem z4c{fp:List Addr}{h:Heap}{b:Addr}{o:Obj}(hb:b∈fp)(e:h.get? b=some o):(b,o)∈z8F fp h:=List.mem_filterMap.mpr ⟨b,hb,by rw[e];rfl⟩
theorem ziQ{fp:List Addr}{h:Heap}{p:Addr×Obj}(hp:p∈z8F fp h):p.1∈fp∧h.get? p.1=some p.2:=by
 obtain⟨b,hb,e⟩:=List.mem_filterMap.mp hp
 cases q:h.get? b with
 | none=>rw[q]at e;cases e
 | some o =>
  rw[q]at e
  have e':(b,o)=p:=Option.some.inj e
  subst e'
  exact⟨hb,q⟩
theorem Inv.pinned{pins:List (Addr×Obj)}{σ:St}{H:Hp}{s:Shared}{fp:List Addr}(I:Inv X pins σ H s)(hf:∀ b∈fp,FpOk X pins H b)(ho:∀ b∈fp,∃ o,s.heap.get? b=some o∧∀ v,o.data ≠ .cell v):Inv X (pins++z8F fp s.heap) σ H s :=
 I.pins_of fun p hp=>(List.mem_append.mp hp).elim (fun z=>I.pin p (List.mem_append_right _ z)) fun z=>by
  obtain⟨hb,e⟩:=ziQ z
  obtain⟨f0,f1,f2,_⟩:=hf p.1 hb
  obtain⟨o,e',d⟩:=ho p.1 hb
  rw[e]at e';cases e'
  exact⟨e,f0,f1,f2,d⟩
theorem Inv.unpinned{pins pl:List (Addr×Obj)}{σ:St}{H:Hp}{s:Shared}(I:Inv X (pins++pl) σ H s):Inv X pins σ H s:=I.pins_of fun p hp=>I.pin p (List.mem_append_right _ (List.mem_append_left _ hp))
theorem zjJ{iter:Expr}{body:List Stmt}{wi:TI}{g:TG}{tb:TS}{pos:Pos}(hp:PassesOwn (model X.prog X.w) X.A X.env X.xe)(hc:X.calm=true)(hi:PI X tg iter wi)(hg:PG X tg g)(hb:PSs X body tb)
   (hs:∀ x,foldedSetIterable iter X.env x=pure x:=by intro _;rfl):PS X (.For tg iter body [] pos) (tFor wi g tb):=by
 intro pins s σ H D I h
 refine wpAny_For (thn (hi pins s σ H _ I h) fun v s1 h1=>thn h1 fun itv s2 h2=>?_) hs
 obtain⟨it,fp,tn,J,H2,e,I2,T,st2,f2,W,⟨m0,w0⟩,turn⟩:=h2
 subst e
 have stat:∀{H':Hp},(∀ b∈fp,H' b=none)→∀ b∈fp,FpOk X pins H' b:=fun hn b hb=>⟨hn b hb,(f2 b hb).2⟩
 refine codeAny_forLoop_any (fun n s'=>∃ i σ' H',Inv X pins σ' H' s'∧tn i s'.heap∧(∀ b∈fp,H' b=none)∧W i n σ' H') ?_ m0 ⟨0,σ,H2,I2,st2,fun b hb=>(f2 b hb).1,w0⟩
 rintro n s3 ⟨i,σ3,H3,I3,st3,fr3,w3⟩
 rcases turn i n σ3 H3 w3 with⟨stop,qn⟩|⟨go,N,hN,step⟩
 · refine wpAny_passesOwn hp (thn (T.done X rfl rfl rfl hc i pins s3 σ3 H3 X.xe I3 (stat fr3) st3 stop) ?_)
   rintro r s4 ⟨hr,I4⟩
   subst hr
   exact wpAny_execs_nil ⟨σ3,H3,I4,qn⟩
 · refine wpAny_passesOwn hp (thn (T.item X rfl rfl rfl hc i pins s3 σ3 H3 X.xe I3 (stat fr3) st3 go) ?_)
   rintro r s4 ⟨u,hr,h4⟩
   subst hr
   refine wpAny_passesOwn hp (thn h4 ?_)
   rintro _ s5 ⟨x,H5,I5,r5,y5,st5,fr5⟩
   have I5':=I5.pinned (stat fr5) (T.obj _ _ st5)
   refine wpAny_passesOwn hp (thn (hg _ s5 σ3 H5 x u _ I5' r5 (step x H5 y5)) ?_)
   rintro _ s6 ⟨σ6,H6,I6,q6⟩
   refine wpAny_passesOwn hp (thn (hb _ s6 σ6 H6 _ I6 q6) fun f s7 q7=>?_)
   have again:∀{σ7:St} {H7:Hp},Inv X (pins++z8F fp s5.heap) σ7 H7 s7→N σ7 H7→∃ m,m<n∧∃ i σ' H',Inv X pins σ' H' s7∧tn i s7.heap∧(∀ b∈fp,H' b=none)∧W i m σ' H':=fun{σ7 H7} I7 n7=>by
    obtain⟨m',hm,w7⟩:=hN σ7 H7 n7
    refine⟨m',hm,i+1,σ7,H7,I7.unpinned,T.keep _ _ _ st5 fun b hb o e=>(I7.pin (b,o) (List.mem_append_right _ (List.mem_append_right _ (z4c hb e)))).1,fun b hb=>?_,w7⟩
    obtain⟨o,e,d⟩:=T.obj _ _ st5 b hb
    exact(I7.pin (b,o) (List.mem_append_right _ (List.mem_append_right _ (z4c hb e)))).2.1
   cases f with
   | next=>obtain⟨σ7,H7,I7,n7⟩:=q7;exact again I7 n7
   | cont=>obtain⟨σ7,H7,I7,n7⟩:=q7;exact again I7 n7
   | brk=>obtain⟨σ7,H7,I7,q7⟩:=q7;exact⟨σ7,H7,I7.unpinned,q7⟩
   | ret v=>obtain⟨x7,σ7,H7,I7,r7,q7⟩:=q7;exact⟨x7,σ7,H7,I7.unpinned,r7,q7⟩
end
end L2
namespace L2
open PySem PySem.Spec PyProof.Rows
abbrev R2:=V→V→Hp→VK→Prop
def OpR(X:Cx)(f:Value→Value→Sem Value)(r:R2):Prop :=
 ∀(pins:List (Addr×Obj)) (s:Shared) (σ:St) (H:Hp) (x y:V) (v u:Value) (Q:VK),Inv X pins σ H s→RelV x v→RelV y u→r x y H Q →
  wpAny (model X.prog X.w) X.A (f v u) (EP X pins σ Q) X.xe s
def UnR(X:Cx)(f:Value→Sem Value)(r:V→Hp→VK→Prop):Prop :=
 ∀(pins:List (Addr×Obj)) (s:Shared) (σ:St) (H:Hp) (x:V) (v:Value) (Q:VK),Inv X pins σ H s→RelV x v→r x H Q →
  wpAny (model X.prog X.w) X.A (f v) (EP X pins σ Q) X.xe s
def CallR(X:Cx)(f:Value)(r:List V→Hp→VK→Prop):Prop :=
 ∀(pins:List (Addr×Obj)) (s:Shared) (σ:St) (H:Hp) (xs:List V) (us:List Value) (Q:VK),Inv X pins σ H s→Vals xs us→r xs H Q →
  wpAny (model X.prog X.w) X.A (call f us) (EP X pins σ Q) X.xe s
def TruR(X:Cx)(r:V→Hp→(Bool→Hp→Prop)→Prop):Prop :=
 ∀(pins:List (Addr×Obj)) (s:Shared) (σ:St) (H:Hp) (x:V) (v:Value) (Q:Bool→Hp→Prop),Inv X pins σ H s→RelV x v→r x H Q →
  wpAny (model X.prog X.w) X.A (truthy v) (TP X pins σ Q) X.xe s
def tOp(r:R2)(ta tb:TE):TE:=fun σ H Q=>ta σ H fun x H1=>tb σ H1 fun y H2=>r x y H2 Q
def tUn(r:V→Hp→VK→Prop)(ta:TE):TE:=fun σ H Q=>ta σ H fun x H1=>r x H1 Q
def rI(C:Int→Int→Prop)(g:Int→Int→V):R2:=fun x y H Q=>∃ i j,x = .int i∧y = .int j∧C i j∧Q (g i j) H
def rI0(g:Int→Int→V):R2:=fun x y H Q=>∃ i j,x = .int i∧y = .int j∧Q (g i j) H
def rU(g:Int→V):V→Hp→VK→Prop:=fun x H Q=>∃ i,x = .int i∧Q (g i) H
section
variable {X:Cx}{a b c:Expr}{ta tb tc:TE}{pos:Pos}
theorem binT(ha:PE X a ta)(hb:PE X b tb){pins:List (Addr×Obj)}{s:Shared}{σ:St}{H:Hp}{R:V→V→Hp→Prop}(I:Inv X pins σ H s)
  (h:ta σ H fun x H1=>tb σ H1 fun y H2=>R x y H2) {Q:Value→Shared→Prop} {f:Value→Value→Sem Value}
  (hf:∀ v u s2 x y H2,Inv X pins σ H2 s2→RelV x v→RelV y u→R x y H2→wpAny (model X.prog X.w) X.A (f v u) Q X.xe s2) :
  wpAny (model X.prog X.w) X.A (eval a X.env) (fun v s₁=>wpAny (model X.prog X.w) X.A (eval b X.env) (fun u s₂=>wpAny (model X.prog X.w) X.A (f v u) Q X.xe s₂) X.xe s₁) X.xe s:=by
 refine thn (ha pins s σ H _ I h) ?_
 rintro v s1 ⟨x,H1,I1,r1,q1⟩
 refine thn (hb pins s1 σ H1 _ I1 q1) ?_
 rintro u s2 ⟨y,H2,I2,r2,q2⟩
 exact hf v u s2 x y H2 I2 r1 r2 q2
theorem pe_op{op:Operator}{r:R2}(ho:OpR X (binaryOp op) r)(ha:PE X a ta)(hb:PE X b tb):PE X (.BinOp a op b pos) (tOp r ta tb):=by
 intro pins s σ H Q I h
 exact wpAny_BinOp (binT ha hb I h fun v u s2 x y H2 I2 rx ry q=>ho pins s2 σ H2 x y v u Q I2 rx ry q)
theorem pe_un{op:UnaryOp}{r:V→Hp→VK→Prop}(ho:UnR X (unaryOp op) r)(ha:PE X a ta):PE X (.UnaryOp op a pos) (tUn r ta):=by
 intro pins s σ H Q I h
 exact UnaryOp_ (thn (ha pins s σ H _ I h) fun v s1 hZ=>hZ.elim fun x hZ=>hZ.elim fun H1 hZ=>hZ.elim fun I1 hZ=>hZ.elim fun r1 q1=>ho pins s1 σ H1 x v Q I1 r1 q1)
theorem opI{f:Value→Value→Sem Value}{C:Int→Int→Prop}{g:Int→Int→Int}
  (rule:∀(i j:Int) (t u:Tok) (s:Shared) (Q:Value→Shared→Prop) (E:Value→Shared→Prop),C i j→Q (.int (g i j) s.toks) { s with toks:=s.toks+1 }→wpAny (model X.prog X.w) X.A (f (.int i t) (.int j u)) Q E s) :
  OpR X f (rI C fun i j => .int (g i j)):=by
 intro pins s σ H x y v u Q I rx ry h
 obtain⟨i,j,rfl,rfl,hc,q⟩:=h
 obtain⟨t,rfl⟩:=rx
 obtain⟨t',rfl⟩:=ry
 exact rule i j t t' s _ _ hc ⟨.int (g i j),H,I.tok _,⟨_,rfl⟩,q⟩
theorem opI0{f:Value→Value→Sem Value}{g:Int→Int→Int}
  (rule:∀(i j:Int) (t u:Tok) (s:Shared) (Q:Value→Shared→Prop) (E:Value→Shared→Prop),Q (.int (g i j) s.toks) { s with toks:=s.toks+1 }→wpAny (model X.prog X.w) X.A (f (.int i t) (.int j u)) Q E s) :
  OpR X f (rI0 fun i j => .int (g i j)):=by
 intro pins s σ H x y v u Q I rx ry h
 obtain⟨i,j,rfl,rfl,q⟩:=h
 obtain⟨t,rfl⟩:=rx
 obtain⟨t',rfl⟩:=ry
 exact rule i j t t' s _ _ ⟨.int (g i j),H,I.tok _,⟨_,rfl⟩,q⟩
theorem opB0{f:Value→Value→Sem Value}{g:Int→Int→Bool}
  (rule:∀(i j:Int) (t u:Tok) (s:Shared) (Q:Value→Shared→Prop) (E:Value→Shared→Prop),Q (.bool (g i j)) s→wpAny (model X.prog X.w) X.A (f (.int i t) (.int j u)) Q E s) :
  OpR X f (rI0 fun i j => .bl (g i j)):=by
 intro pins s σ H x y v u Q I rx ry h
 obtain⟨i,j,rfl,rfl,q⟩:=h
 obtain⟨t,rfl⟩:=rx
 obtain⟨t',rfl⟩:=ry
 exact rule i j t t' s _ _ ⟨.bl (g i j),H,I,rfl,q⟩
def CPow(i j:Int):Prop:=0≤j∧j≤1000000∧i.natAbs<2 ^ 64
def CMul(i j:Int):Prop:=(-(2 ^ 64)<i∧i<2 ^ 64)∨(-(2 ^ 64)<j∧j<2 ^ 64)
theorem CMul.ok{i j:Int}(h:CMul i j):IntMulOk i j:=by
 rcases h with⟨h1,h2⟩|⟨h1,h2⟩
 · exact .of_left (intBits_le_64 h1 h2)
 · exact .of_right (intBits_le_64 h1 h2)
theorem op_add:OpR X (binaryOp .Add) (rI0 fun i j => .int (i+j)):=opI0 fun _ _ _ _ _ _ _ q=>add_int q
theorem op_sub:OpR X (binaryOp .Sub) (rI0 fun i j => .int (i-j)):=opI0 fun _ _ _ _ _ _ _ q=>sub_int q
theorem znx:OpR X (binaryOp .Mod) (rI (fun _ j=>j≠0) fun i j => .int (i.fmod j)):=opI fun _ _ _ _ _ _ _ hc q=>mod_int' hc q
theorem op_pow:OpR X (binaryOp .Pow) (rI CPow fun i j => .int (i ^ j.toNat)):=opI fun _ _ _ _ _ _ _ hc q=>pow_int_small hc.1 hc.2.1 hc.2.2 q
theorem unI{f:Value→Sem Value}{g:Int→Int}
  (rule:∀(i:Int) (t:Tok) (s:Shared) (Q:Value→Shared→Prop) (E:Value→Shared→Prop),Q (.int (g i) s.toks) { s with toks:=s.toks+1 }→wpAny (model X.prog X.w) X.A (f (.int i t)) Q E s) :
  UnR X f (rU fun i => .int (g i)):=by
 intro pins s σ H x v Q I rx h
 obtain⟨i,rfl,q⟩:=h
 obtain⟨t,rfl⟩:=rx
 exact rule i t s _ _ ⟨.int (g i),H,I.tok _,⟨_,rfl⟩,q⟩
theorem un_neg:UnR X (unaryOp .USub) (rU fun i => .int (-i)):=unI fun _ _ _ _ _ q=>neg_int q
end
def scal:V→V→Bool
 | .non,.non=>true|.non,.int _=>true|.int _,.non=>true|.non,.bl _=>true|.bl _,.non=>true|.non,.str _=>true|.str _,.non=>true
 | .int _,.int _=>true|.bl _,.bl _=>true|.str _,.str _=>true|.byt _,.byt _=>true
 | .int _,.str _=>true|.str _,.int _=>true|.bl _,.str _=>true|.str _,.bl _=>true
 | _,_=>false
section
variable {X:Cx}{a b c:Expr}{ta tb tc:TE}{pos:Pos}
theorem fin_bl{pins:List (Addr×Obj)}{σ:St}{H:Hp}{s:Shared}{Q:VK}{k k':Bool}(I:Inv X pins σ H s)(q:Q (.bl k) H)(e:k=k'):EP X pins σ Q (.bool k') s:=by
 subst e
 exact⟨.bl k,H,I,rfl,q⟩
theorem op_lt:OpR X (compareOp .Lt) (rI0 fun i j => .bl (decide (i<j))):=opB0 fun _ _ _ _ _ _ _ q=>lt_int q
theorem op_le:OpR X (compareOp .LtE) (rI0 fun i j => .bl (decide (i≤j))):=opB0 fun _ _ _ _ _ _ _ q=>le_int q
theorem op_gt:OpR X (compareOp .Gt) (rI0 fun i j => .bl (decide (j<i))):=opB0 fun _ _ _ _ _ _ _ q=>gt_int q
theorem op_ge:OpR X (compareOp .GtE) (rI0 fun i j => .bl (decide (j≤i))):=opB0 fun _ _ _ _ _ _ _ q=>ge_int q
theorem OpR.or{f:Value→Value→Sem Value}{r r':R2}(h:OpR X f r)(h':OpR X f r'):OpR X f (fun x y H Q=>r x y H Q∨r' x y H Q):=by
 intro pins s σ H x y v u Q I rx ry q
 rcases q with q|q
 · exact h pins s σ H x y v u Q I rx ry q
 · exact h' pins s σ H x y v u Q I rx ry q
theorem z0w(b:Expr){op:CmpOp}(h:op ≠ .In:=by decide)(h2:op ≠ .NotIn:=by decide):behindInMarks op b=false:=by
 have e1:(op==CmpOp.In)=false:=by cases op<;>first|rfl|exact absurd rfl h
 have e2:(op==CmpOp.NotIn)=false:=by cases op<;>first|rfl|exact absurd rfl h2
 cases b<;>simp[behindInMarks,e1,e2]
theorem zny{op:CmpOp}{r:R2}(ho:OpR X (compareOp op) r)(ha:PE X a ta)(hb:PE X b tb)(hm:behindInMarks op b=false):PE X (.Compare a [op] [b] pos) (tOp r ta tb):=by
 intro pins s σ H Q I h
 exact wpAny_Compare1 (binT ha hb I h fun v u s2 x y H2 I2 rx ry q=>ho pins s2 σ H2 x y v u Q I2 rx ry q) hm
def tTest(t:TE):TT:=fun σ H Q=>t σ H fun x H'=>∃ k,x = .bl k∧Q k H'
theorem znz{op:CmpOp}{r:R2}(ho:OpR X (compareOp op) r)(ha:PE X a ta)(hb:PE X b tb)(hm:behindInMarks op b=false):PT X (.Compare a [op] [b] pos) (tTest (tOp r ta tb)):=by
 intro pins s σ H Q I h
 refine wpAny_isTrue_Compare1 (thn (ha pins s σ H _ I h) fun v s1 hZ=>hZ.elim fun x hZ=>hZ.elim fun H1 hZ=>hZ.elim fun I1 hZ=>hZ.elim fun r1 q1=>thn (hb pins s1 σ H1 _ I1 q1) fun u s2 ⟨y,H2,I2,r2,q2⟩ =>
  thn (ho pins s2 σ H2 x y v u _ I2 r1 r2 q2) fun c s3 hZ=>hZ.elim fun z hZ=>hZ.elim fun H3 hZ=>hZ.elim fun I3 hZ=>hZ.elim fun r3 hZ=>hZ.elim fun k hZ=>hZ.elim fun e q3=>?_) hm
 subst e
 cases r3
 exact wpAny_truthy_bool ⟨H3,I3,q3⟩
def zjK(r r':R2)(ta tb tc:TE):TE:=fun σ H Q=>ta σ H fun x H1=>tb σ H1 fun y H2=>r x y H2 fun z H3=>∃ k,z = .bl k ∧
 (if k=true then tc σ H3 fun w' H4=>r' y w' H4 Q else Q (.bl false) H3)
theorem zjL{op op':CmpOp}{r r':R2}(ho:OpR X (compareOp op) r)(ho':OpR X (compareOp op') r')(ha:PE X a ta)(hb:PE X b tb)(hc:PE X c tc)
  (hm:lastMarks [op,op'] [b,c]=false:=by with_unfolding_all rfl):PE X (.Compare a [op,op'] [b,c] pos) (zjK r r' ta tb tc):=by
 intro pins s σ H Q I h
 refine Compare_chain (thn (ha pins s σ H _ I h) fun v s1 hZ=>hZ.elim fun x hZ=>hZ.elim fun H1 hZ=>hZ.elim fun I1 hZ=>hZ.elim fun r1 q1=>chain_link (thn (hb pins s1 σ H1 _ I1 q1) fun u s2 ⟨y,H2,I2,r2,q2⟩ =>
  thn (ho pins s2 σ H2 x y v u _ I2 r1 r2 q2) fun d s3 hZ=>hZ.elim fun z hZ=>hZ.elim fun H3 hZ=>hZ.elim fun I3 hZ=>hZ.elim fun r3 hZ=>hZ.elim fun k hZ=>hZ.elim fun e q3=>?_)) hm
 subst e
 cases r3
 refine wpAny_truthy_bool ?_
 cases k with
 | false=>exact ite_ff ⟨.bl false,H3,I3,rfl,q3⟩
 | true=>exact ite_tt (chain_last (thn (hc pins s3 σ H3 _ I3 q3) fun w' s4 hZ=>hZ.elim fun z' hZ=>hZ.elim fun H4 hZ=>hZ.elim fun I4 hZ=>hZ.elim fun r4 q4=>ho' pins s4 σ H4 y z' u w' Q I4 r2 r4 q4))
def TruV(K:PySem.W.Frag)(x:V)(H:Hp)(k:Bool):Prop :=
 match x with
 | .non=>k=false
 | .bl b=>k=b
 | .int i=>k=(i != 0)
 | .str y=>y.length≤sizeLine∧k=((y.length:Int) != 0)
 | .byt y=>y.size≤sizeLine∧k=((y.size:Int) != 0)
 | .ref p=>(∃ xs,SqL K H p xs∧k=!xs.isEmpty)∨(∃ xs,SqT K H p xs∧k=!xs.isEmpty)∨∃ kvs,H p=some (.dK kvs)∧k=!kvs.isEmpty
 | _=>False
theorem zdL{κ:Type}{kvs:List (κ×V)}{vs:List (κ×Value)}(r:KV kvs vs):(!vs.isEmpty)=!kvs.isEmpty:=by
 cases r<;>rfl
theorem z8G{xs:List V}{its:List Value}(r:Vals xs its):(!its.toArray.isEmpty)=!xs.isEmpty:=by
 cases r<;>simp
theorem z75:(sizeLine:Nat)<2 ^ 63:=by rw[sizeLine_eq];decide
theorem tru_ok:TruR X (fun x H Q=>∃ k,TruV X.K x H k∧Q k H):=by
 intro pins s σ H x v Q I rx h
 obtain⟨k,e,q⟩:=h
 have hl:=z75
 have hs:sizeLine=16777216:=sizeLine_eq
 cases x with
 | non =>
  cases rx
  have e':k=false:=e
  subst e'
  exact truthy_none ⟨H,I,q⟩
 | bl b =>
  cases rx
  have e':k=b:=e
  subst e'
  exact wpAny_truthy_bool ⟨H,I,q⟩
 | int i =>
  obtain⟨t,rfl⟩:=rx
  have e':k=(i != 0):=e
  subst e'
  exact PySem.P.truthy_int ⟨H,I,q⟩
 | str y =>
  obtain⟨t,rfl⟩:=rx
  obtain⟨hy,e'⟩:y.length≤sizeLine∧k=((y.length:Int) != 0):=e
  subst e'
  exact PySem.P.truthy_str (by omega) ⟨H,I.tok _,q⟩
 | byt y =>
  obtain⟨t,rfl⟩:=rx
  obtain⟨hy,e'⟩:y.size≤sizeLine∧k=((y.size:Int) != 0):=e
  subst e'
  exact PySem.W.truthy_bytes (by omega) ⟨H,I.tok _,q⟩
 | ref p =>
  cases rx
  have e':(∃ xs,SqL X.K H p xs∧k=!xs.isEmpty)∨(∃ xs,SqT X.K H p xs∧k=!xs.isEmpty)∨∃ kvs,H p=some (.dK kvs)∧k=!kvs.isEmpty:=e
  rcases e' with⟨xs,hx,e'⟩|⟨xs,hx,e'⟩|⟨kvs,hx,e'⟩
  · subst e'
    obtain⟨its,r,pl,hz⟩:=I.list hx
    have hlen:=r.length
    exact wpAny_truthy_list pl.isList (by simp only[List.size_toArray];omega) ⟨H,I.tok _,by rw[z8G r];exact q⟩
  · subst e'
    obtain⟨its,r,pl,hz⟩:=I.tuple hx
    have hlen:=r.length
    exact truthy_tuple pl (by simp only[List.size_toArray];omega) ⟨H,I.tok _,by rw[z8G r];exact q⟩
  · subst e'
    obtain⟨hz,hS,vs,r,m⟩:kvs.length≤sizeLine∧(p==sysModules)=false∧∃ vs,KV kvs vs∧s.heap.DictOf (zbz X.prog X.w) p vs:=I.hok p _ hx
    have hlen:kvs.length=vs.length:=Paired.length r
    exact wpAny_truthy_dict hS m (by omega) ⟨H,I.tok _,by rw[zdL r];exact q⟩
 | _=>exact(show False from e).elim
theorem zjM(ha:PE X a ta)(he:∀ whole,isTrue a X.env whole=(do let v ←whole;standAt a.pos;holding [v] (truthy v))):
  PT X a (fun σ H Q=>ta σ H fun x H'=>∃ k,TruV X.K x H' k∧Q k H'):=by
 intro pins s σ H Q I h
 exact isTrue_plain (thn (ha pins s σ H _ I h) fun v s1 hZ=>hZ.elim fun x hZ=>hZ.elim fun H1 hZ=>hZ.elim fun I1 hZ=>hZ.elim fun r1 q1=>tru_ok pins s1 σ H1 x v Q I1 r1 q1) (he _)
theorem zhR{x:V}{us:List Value}(r:Vals [x] us):∃ u,us=[u]∧RelV x u:=by
 cases r with
 | cons r1 r2=>cases r2;exact⟨_,rfl,r1⟩
theorem vals2{x y:V}{us:List Value}(r:Vals [x,y] us):∃ u w',us=[u,w']∧RelV x u∧RelV y w':=by
 cases r with
 | cons r1 r2 =>
  cases r2 with
  | cons r3 r4=>cases r4;exact⟨_,_,rfl,r1,r3⟩
theorem zjN:CallR X (.builtin "abs") (fun xs H Q=>∃ i,xs=[.int i]∧Q (.int (if i<0 then -i else i)) H):=by
 intro pins s σ H xs us Q I r h
 obtain⟨i,rfl,q⟩:=h
 obtain⟨u,rfl,t,rfl⟩:=zhR r
 exact call_abs_int fun u tk=>⟨.int (if i<0 then -i else i),H,I.tok _,⟨_,rfl⟩,q⟩
end
end L2
namespace L2
open PySem PySem.Spec PyProof.Rows
structure ObjM(h:Heap)(x dx C:Addr)(mA:Str→Option Value):Prop where
 obj:h.get? x=some (PySem.W.instObj C dx)
 ns:h.Ns1 dx mA
 ne:dx≠x
theorem ziR{h:Heap}{dx:Addr}{mA:Str→Option Value}(n:h.Ns1 dx mA):∃ od,h.get? dx=some od∧∀ name,PySem.W.lookIn name od=some (mA name):=by
 obtain⟨o,es,ep,ho,hd,hk,_,hm⟩:=n
 refine⟨o,ho,fun name=>?_⟩
 have e:=hm name
 unfold nsFind findBy at e
 rw[←Array.find?_toList]at e
 unfold PySem.W.lookIn
 rw[hd]
 dsimp only
 split
 · rename_i y q
   rw[q]at e
   exact congrArg some e
 · rename_i q
   rw[q]at e
   have a:es.toList.any (·.refKey)=false:=by
    rw[List.any_eq_false]
    intro y hy
    obtain⟨z,t,hkey⟩:=hk y (Array.mem_toList_iff.mp hy)
    simp[DictEntry.refKey,hkey]
   have a':¬es.toList.any (·.refKey)=true:=by rw[a];exact Bool.false_ne_true
   rw[if_neg a']
   exact congrArg some e
theorem ObjM.look{h:Heap}{x dx C:Addr}{mA:Str→Option Value}(I:ObjM h x dx C mA):∃ od,PySem.W.InstAt h x (PySem.W.instObj C dx) C (some od)∧∀ name,PySem.W.lookIn name od=some (mA name) :=
 let ⟨od,ho,hl⟩:=ziR I.ns
 ⟨od,⟨I.obj,rfl,rfl,ho⟩,hl⟩
section
variable {prog:Program}{w:World}{A:Around}{E:Value→Shared→Prop}{s:Shared}{K:PySem.W.Frag}{x dx C f:Addr}{mA:Str→Option Value}{name:Str}{v:Value}
end
theorem RelO.none_of{o:Option Value}(r:RelO none o):o=none:=by
 cases o with
 | none=>rfl
 | some u=>exact(show False from r).elim
section
variable {P:Program}{w:World}{H H':Hp}{h h':Heap}{a C dx:Addr}{fs fs':List (Str×V)}
theorem znA(hok:HOk P w H h)(e:H a=some (.ins C dx fs)):∃ mA,ObjM h a dx C mA∧(∀ f,RelO (fs.lookup f) (mA f))∧PySem.Within mA (fs.map (·.1))∧fs.length≤1000∧H dx=some (.own a):=by
 obtain⟨d,z,ne,ob,mA,n,r,q⟩:=(show ObjOk P w H h a (.ins C dx fs)from hok a _ e)
 exact⟨mA,⟨ob,n,ne⟩,r,q,z,d⟩
end
structure Cls(K:PySem.W.Frag)(C:Addr):Prop where
 pg:PySem.W.plainGet K C Str.empty=true
 hd:PySem.W.hasDictIn K C=true
 po:PySem.W.plainOver K C=true
 sa:PySem.W.findIn K (.ref C) "__setattr__" = some (some (.builtin "object.__setattr__"))
theorem Cls.get{K:PySem.W.Frag}{C:Addr}(c:Cls K C)(f:Str):PySem.W.plainGet K C f=true:=c.pg
structure Con(K:PySem.W.Frag)(C:Addr)(f:Str)(v:V)(u:Value):Prop where
 at_:PySem.W.findIn K (.ref C) f=some (some u)
 rel:RelV v u
 get:PySem.W.specialIn K u "__get__" = some none
 cp:PySem.W.copiedNames.contains f=false
structure Meth(K:PySem.W.Frag)(C:Addr)(m:Str)(f:Addr):Prop where
 at_:PySem.W.findIn K (.ref C) m=some (some (.ref f))
 fn:PySem.W.isFn K (.ref f)=true
 kp:PySem.W.keepIn K (.ref f)=true
section
variable {X:Cx}{pins:List (Addr×Obj)}{σ:St}{H:Hp}{s:Shared}{a C dx:Addr}{fs:List (Str×V)}{f:Str}{v:V}{A:Around}{E:Value→Shared→Prop}
theorem Inv.made(I:Inv X pins σ H s):Inv X pins σ (upd (upd H s.heap.objs.size (.own (s.heap.objs.size+1))) (s.heap.objs.size+1) (.ins C s.heap.objs.size []))
  { s with heap:=(s.heap.push PySem.W.emptyDict).push (PySem.W.instObj C s.heap.objs.size) }:=by
 have e1:(s.heap.push PySem.W.emptyDict).get? s.heap.objs.size=some PySem.W.emptyDict:=Heap.get?_push_size s.heap rfl
 have e2:((s.heap.push PySem.W.emptyDict).push (PySem.W.instObj C s.heap.objs.size)).get? (s.heap.objs.size+1)=some (PySem.W.instObj C s.heap.objs.size):=by
  have:=Heap.get?_push_size (s.heap.push PySem.W.emptyDict) (o:=PySem.W.instObj C s.heap.objs.size) rfl
  rwa [Heap.size_push]at this
 have e3:(s.heap.push PySem.W.emptyDict).Ns s.heap.objs.size (fun _=>none):=⟨PySem.W.emptyDict,#[],_,e1,rfl,(fun e he=>absurd he (by simp)),fun _=>rfl⟩
 have I1:=I.laid (a:=s.heap.objs.size) (o := .own (s.heap.objs.size+1)) (h':=s.heap.push PySem.W.emptyDict) (t':=s.toks) (fun b u q=>Heap.get?_push_of_some _ q) (Nat.le_refl _) ⟨_,e1⟩
 refine I1.laid (a:=s.heap.objs.size+1) (o := .ins C s.heap.objs.size []) (t':=s.toks) (fun b u q=>Heap.get?_push_of_some _ q) (Nat.le_of_eq (Heap.size_push _ _)) ?_
 have ne:s.heap.objs.size≠s.heap.objs.size+1:=Nat.ne_of_lt (Nat.lt_succ_self _)
 refine⟨by rw[z0v ne,z10],Nat.zero_le _,ne,e2,fun _=>none,(Heap.Ns1.of_empty e3).at fun o q=>Heap.get?_push_of_some _ q,fun _=>True.intro,fun y hy=>absurd rfl hy⟩
end
section
variable {X:Cx}{o e value:Expr}{f:Str}{pos pos' tpos:Pos}{ta tv:TE}
end
section
variable {X:Cx}{pins:List (Addr×Obj)}{σ:St}{H:Hp}{s:Shared}{A:Around}{E:Value→Shared→Prop}{Q:Value→Shared→Prop}{c:Value}{b:Bool}
inductive TyOf (K:PySem.W.Frag) (H:Hp):V→Value→Prop where
 | non:TyOf K H .non (.type "NoneType")
 | bl (x:Bool):TyOf K H (.bl x) (.type "bool")
 | int (i:Int):TyOf K H (.int i) (.type "int")
 | str (x:Str):TyOf K H (.str x) (.type "str")
 | flt (x:UInt64):TyOf K H (.flt x) (.type "float")
 | lst {a:Addr} {xs:List V} (e:H a=some (.lst xs)):TyOf K H (.ref a) (.type "list")
 | frz {a:Addr} {o:Obj} {xs:List V} (e:H a=some (.frz o (.lst xs))):TyOf K H (.ref a) (.type "list")
 | tup {a:Addr} {xs:List V} (e:H a=some (.tup xs)):TyOf K H (.ref a) (.type "tuple")
 | dK {a:Addr} {kvs:List (Key×V)} (e:H a=some (.dK kvs)):TyOf K H (.ref a) (.type "dict")
 | dT {a:Addr} {kvs:List (List Key×V)} (e:H a=some (.dT kvs)):TyOf K H (.ref a) (.type "dict")
 | ins {a C dx:Addr} {fs:List (Str×V)} (e:H a=some (.ins C dx fs)) (cl:Cls K C) (ha:PySem.W.findIn K (.ref C) "__class__" = some (some (.builtin "object.__class__")))
  (hn:PySem.W.specialIn K (.builtin "object.__class__") "__get__" = some (some (.builtin "getset_descriptor.__get__"))) (htk:PySem.W.takesIn K (.builtin "object.__class__")=some true)
  (hm:PySem.W.mroIn K C (.type "object")=some true):TyOf K H (.ref a) (.ref C)
theorem z5r{x:V}{u t:Value}(I:Inv X pins σ H s)(rx:RelV x u)(ty:TyOf X.K H x t)(e:PySem.W.kitOne X.K t c=some b)(h:∀ tk,Q (.bool b) { s with toks:=tk }):
  wpAny (model X.prog X.w) A (call (.builtin "isinstance") [u,c]) Q E s:=by
 cases ty with
 | non=>cases (show u=Value.none from rx);exact PySem.W.kia_one PySem.W.kitx_none I.kIn True.intro e (fun z=>nomatch z) h
 | bl y=>cases (show u=Value.bool y from rx);exact PySem.W.kia_one PySem.W.kitx_bool I.kIn True.intro e (fun z=>nomatch z) h
 | int i=>obtain⟨t,q⟩:=(show ∃ t,u=Value.int i t from rx);cases q;exact PySem.W.kia_one PySem.W.kitx_int I.kIn True.intro e (fun z=>nomatch z) h
 | str y=>obtain⟨t,q⟩:=(show ∃ t,u=Value.str y t from rx);cases q;exact PySem.W.kia_one PySem.W.kitx_str I.kIn True.intro e (fun z=>nomatch z) h
 | flt y=>obtain⟨t,q⟩:=(show ∃ t,u=Value.float y t from rx);cases q;exact PySem.W.kia_one PySem.W.kitx_float I.kIn True.intro e (fun z=>nomatch z) h
 | @lst a xs ea =>
  cases (show u=Value.ref a from rx)
  obtain⟨_,_,n,_,h1⟩:=(show ObjOk X.prog X.w H s.heap a (.lst xs)from I.hok a _ ea)
  exact PySem.W.kia_one PySem.W.kitx_list I.kIn ⟨_,h1,rfl⟩ e (fun z=>nomatch z) h
 | @frz a ob xs ea =>
  cases (show u=Value.ref a from rx)
  obtain⟨_,_,_,n,_,h1⟩:=(show ObjOk X.prog X.w H s.heap a (.frz ob (.lst xs))from I.hok a _ ea)
  exact PySem.W.kia_one PySem.W.kitx_list I.kIn ⟨_,h1,rfl⟩ e (fun z=>nomatch z) h
 | @tup a xs ea =>
  cases (show u=Value.ref a from rx)
  obtain⟨_,_,_,p⟩:=(show ObjOk X.prog X.w H s.heap a (.tup xs)from I.hok a _ ea)
  obtain⟨o,h1,h2,_⟩:=p
  exact PySem.W.kia_one PySem.W.kitx_tuple I.kIn ⟨o,h1,h2⟩ e (fun z=>nomatch z) h
 | @dK a kvs ea =>
  cases (show u=Value.ref a from rx)
  obtain⟨_,_,vs,_,p⟩:=(show ObjOk X.prog X.w H s.heap a (.dK kvs)from I.hok a _ ea)
  obtain⟨o,es,ep,h1,h2,_⟩:=p
  exact PySem.W.kia_one PySem.W.kitx_dict I.kIn ⟨o,h1,h2.1⟩ e (fun z=>nomatch z) h
 | @dT a kvs ea =>
  cases (show u=Value.ref a from rx)
  obtain⟨_,_,xs,_,o,es,ep,h1,h2,_⟩:=(show ObjOk X.prog X.w H s.heap a (.dT kvs)from I.hok a _ ea)
  exact PySem.W.kia_one PySem.W.kitx_dict I.kIn ⟨o,h1,h2.1⟩ e (fun z=>nomatch z) h
 | @ins a C dx fs ea cl ha hn htk hm =>
  cases (show u=Value.ref a from rx)
  obtain⟨mA,O,_⟩:=znA I.hok ea
  obtain⟨od,J,_⟩:=O.look
  exact PySem.W.kia_one (PySem.W.kitx_own (cl.get _) cl.hd ha hn htk hm) I.kIn J e (fun z=>nomatch z) h
end
end L2
namespace L2
open PySem PySem.Spec PyProof.Rows
structure Room(k:Nat)(A:Around):Prop where
 hd:A.handled=none
 dp:A.depth+3*k+5<recursionLimit
 un:A.units+16*k+200<cLine
theorem Room.mono{j k:Nat}{A:Around}(r:Room k A)(h:j≤k):Room j A:=⟨r.hd,by have:=r.dp;omega,by have:=r.un;omega⟩
theorem Room.deeper{k:Nat}{A:Around}(r:Room (k+1) A)(env:Env):Room k (A.deeper env) :=
 ⟨r.hd,by have:=r.dp;show A.depth+1+3*k+5<_;omega,by have:=r.un;show A.units+3+16*k+200<_;omega⟩
theorem Room.in1{k:Nat}{A:Around}(r:Room (k+1) A):Room k A.in1 :=
 ⟨r.hd,by have:=r.dp;show A.depth+3*k+5<_;omega,by have:=r.un;show A.units+1+16*k+200<_;omega⟩
theorem Room.depth{k:Nat}{A:Around}(r:Room k A):A.depth<recursionLimit:=by have:=r.dp;omega
theorem Room.units{k:Nat}{A:Around}(r:Room k A):A.units+64<cLine:=by have:=r.un;omega
def tNil:TA:=fun _ H Q=>Q [] H
def tCons(ta:TE)(tr:TA):TA:=fun σ H Q=>ta σ H fun x H1=>tr σ H1 fun xs H2=>Q (x::xs) H2
section
variable {X:Cx}{e:Expr}{es:List Expr}{te:TE}{t:TA}{pos:Pos}
theorem z8H:PA X [] tNil:=fun _ _ _ _ H Q I h=>Calls.spliced_nil ⟨[],H,I,.nil,h⟩
theorem z4d(ha:PE X e te)(hr:PA X es t)(hs:starEach (e::es) X.env=(false,eval e X.env)::starEach es X.env:=by rfl):PA X (e::es) (tCons te t):=by
 intro pos pins s σ H Q I h
 rw[hs]
 show wpAny _ _ (spliced ((false,eval e X.env)::backTo pos (starEach es X.env))) _ _ s
 refine Calls.spliced_cons (thn (ha pins s σ H _ I h) ?_)
 rintro u s1 ⟨x,H1,I1,r1,q1⟩
 exact thn (hr pos pins s1 σ H1 _ I1 q1) fun us s2 hZ=>hZ.elim fun xs hZ=>hZ.elim fun H2 hZ=>hZ.elim fun I2 hZ=>hZ.elim fun r2 q2=>⟨x::xs,H2,I2,.cons r1 r2,q2⟩
def tTup(t:TA):TE:=fun σ H Q=>t σ H fun xs H1=>xs.length≤sizeLine∧∀ p,H1 p=none→Q (.ref p) (upd H1 p (.tup xs))
def tLst(t:TA):TE:=fun σ H Q=>t σ H fun xs H1=>xs.length≤sizeLine∧∀ p,H1 p=none→Q (.ref p) (upd H1 p (.lst xs))
theorem pe_tup{x1}(h:PA X es t):PE X (.Tuple es x1 pos) (tTup t):=by
 intro pins s σ H Q I hq
 refine wpAny_Tuple_spliced (thn (h pos pins s σ H _ I hq) fun us s1 hZ=>hZ.elim fun xs hZ=>hZ.elim fun H1 hZ=>hZ.elim fun I1 hZ=>hZ.elim fun r hZ=>hZ.elim fun z q=>⟨by rw[←r.length];exact z,?_⟩)
 have hf:H1 s1.heap.objs.size=none:=I1.hok.fresh (Nat.le_refl _)
 refine⟨.ref s1.heap.objs.size,upd H1 s1.heap.objs.size (.tup xs),I1.laid (t':=s1.toks) (fun b u e=>Heap.get?_push_of_some _ e) (Nat.le_refl _) ?_,rfl,q _ hf⟩
 exact⟨z,us,r,⟨_,Heap.get?_push_size _ rfl,rfl,_,rfl⟩⟩
theorem pe_lst(h:PA X es t):PE X (.List es pos) (tLst t):=by
 intro pins s σ H Q I hq
 refine wpAny_List_spliced (thn (h pos pins s σ H _ I hq) fun us s1 hZ=>hZ.elim fun xs hZ=>hZ.elim fun H1 hZ=>hZ.elim fun I1 hZ=>hZ.elim fun r hZ=>hZ.elim fun z q=>⟨by rw[←r.length];exact z,?_⟩)
 have hf:H1 s1.heap.objs.size=none:=I1.hok.fresh (Nat.le_refl _)
 refine⟨.ref s1.heap.objs.size,upd H1 s1.heap.objs.size (.lst xs),I1.laid (t':=s1.toks) (fun b u e=>Heap.get?_push_of_some _ e) (Nat.le_refl _) ?_,rfl,q _ hf⟩
 exact⟨z,us,0,r,Heap.get?_push_size _ rfl⟩
end
abbrev Sp:=List V→Hp→VK→XK→Prop
abbrev CXT:=List Env→Hp→Shared→XK→Value→Shared→Prop
structure Env0(P:Program)(w:World)(K:PySem.W.Frag)(mg:Str→Option Value)(base:Heap)(A:Around)(outer:List Env)(s:Shared)(H:Hp):Prop where
 frames:A.frames=some outer
 mod:Mod K mg base
 bs:∀ b o,base.get? b=some o→s.heap.get? b=some o∧H b=none
 bsz:base.objs.size≤s.heap.objs.size
 funs:s.heap.FunFrames base outer
 frf:∀ b∈frs outer,H b=none
 hok:HOk P w H s.heap
 bare:AllBare s.gens
def CE(outer:List Env)(P:Program)(w:World)(H:Hp)(s:Shared)(Q:VK)(u:Value)(s':Shared):Prop :=
 ∃ v H',s'.os=s.os∧AllBare s'.gens∧Un (frs outer) [] H H' s.heap s'.heap∧HOk P w H' s'.heap∧RelV v u∧Q v H'
def CR(CX:CXT)(outer:List Env)(P:Program)(w:World)(H:Hp)(s:Shared)(Q:VK)(E:XK)(r:Result)(s':Shared):Prop :=
 match r with
 | .ok (.ret u)=>CE outer P w H s Q u s'
 | .ok _=>False
 | .error e=>CX outer H s E e s'
structure FnOk(P:Program)(w:World)(K:PySem.W.Frag)(mg:Str→Option Value)(base:Heap)(CX:CXT)(k:Nat)(f:Addr)(fd:FuncData)(ps:List Str)(sp:Sp):Prop where
 len:∀ vs H Q E,sp vs H Q E→vs.length=ps.length
 run:∀(A:Around) (outer:List Env) (s:Shared) (H:Hp) (args:Args) (us:List Value) (vs:List V) (Q:VK) (E:XK),Room k A→Env0 P w K mg base A outer s H→BindsTo s fd args (ps.zip us)→Vals vs us→sp vs H Q E →
  codeAny (model P w) A (.call (.ref f) args) (CR CX outer P w H s Q E) s
theorem FnOk.mono{P:Program}{w:World}{K:PySem.W.Frag}{mg:Str→Option Value}{base:Heap}{CX:CXT}{j k:Nat}{f:Addr}{fd:FuncData}{ps:List Str}{sp:Sp}(F:FnOk P w K mg base CX j f fd ps sp)(h:j≤k):
 FnOk P w K mg base CX k f fd ps sp:=⟨F.len,fun A outer s H args us vs Q E hr=>F.run A outer s H args us vs Q E (hr.mono h)⟩
theorem FnOk.imp{P:Program}{w:World}{K:PySem.W.Frag}{mg:Str→Option Value}{base:Heap}{CX:CXT}{k:Nat}{f:Addr}{fd:FuncData}{ps:List Str}{sp sp':Sp}(F:FnOk P w K mg base CX k f fd ps sp)
  (h:∀ vs H Q E,sp' vs H Q E→sp vs H Q E):FnOk P w K mg base CX k f fd ps sp' :=
 ⟨fun vs H Q E q=>F.len vs H Q E (h _ _ _ _ q),fun A outer s H args us vs Q E hr he hb hv hs=>F.run A outer s H args us vs Q E hr he hb hv (h _ _ _ _ hs)⟩
theorem Env0.in1{P:Program}{w:World}{K:PySem.W.Frag}{mg:Str→Option Value}{base:Heap}{A:Around}{outer:List Env}{s:Shared}{H:Hp}(e:Env0 P w K mg base A outer s H):
 Env0 P w K mg base A.in1 outer s H:=⟨e.frames,e.mod,e.bs,e.bsz,e.funs,e.frf,e.hok,e.bare⟩
section
variable {X:Cx}{pins:List (Addr×Obj)}{σ:St}{H:Hp}{s s':Shared}
theorem Inv.env0(I:Inv X pins σ H s):Env0 X.prog X.w X.K X.mg X.base X.A X.stack s H :=
 ⟨I.ok.frames,I.ok.mod,I.bs,Nat.le_trans I.ok.bsz I.sz,I.stack,I.stkFree,I.hok,I.bare⟩
theorem Inv.after{Q:VK}{u:Value}(I:Inv X pins σ H s)(h:CE X.stack X.prog X.w H s Q u s'):EP X pins σ Q u s':=by
 obtain⟨v,H',os,bare,un,hok,r,q⟩:=h
 obtain⟨hh,g,d,t,os'⟩:=s'
 obtain rfl:os'=s.os:=os
 exact⟨v,H',I.call (h':=hh) (g':=g) (d':=d) (t':=t) (ch:=[]) un hok bare (fun b z=>absurd z (by simp)),r,q⟩
end
def tCall(sp:Sp)(dvs:List V)(E:XK)(t:TA):TE:=fun σ H Q=>t σ H fun vs H1=>sp (vs++dvs) H1 Q E
def Binds(K:PySem.W.Frag)(fd:FuncData)(ps:List Str)(ds:List Value):Prop :=
 ∀(s:Shared) (us:List Value),K.In s.heap→(us++ds).length=ps.length→BindsTo s fd ⟨us,[]⟩ (ps.zip (us++ds))
theorem Binds.all{K:PySem.W.Frag}{fd:FuncData}{ps:List Str}(h:∀ us:List Value,us.length=ps.length→bindArgs fd ⟨us,[]⟩=pure (ps.zip us)):Binds K fd ps []:=fun s us _ hl=>by
 rw[List.append_nil]at hl ⊢
 exact .of_eq (h us hl)
def zdM(CX:CXT)(X:Cx)(E:XK):Prop:=∀(pins:List (Addr×Obj)) (σ:St) (H:Hp) (s:Shared) (e:Value) (s':Shared),Inv X pins σ H s→CX X.stack H s E e s'→X.xe e s'
section
variable {X:Cx}{CX:CXT}{k:Nat}{f C:Addr}{fd:FuncData}{ps:List Str}{sp:Sp}{dvs:List V}{ds:List Value}{E:XK}{x m:Str}{p pos apos:Pos}{e o:Expr}{es:List Expr}{ta:TE}{t:TA}
theorem run_fn{pins:List (Addr×Obj)}{σ:St}{H:Hp}{s:Shared}{Q:VK}{us:List Value}{vs:List V}(F:FnOk X.prog X.w X.K X.mg X.base CX k f fd ps sp)(hr:Room k X.A)(hb:Binds X.K fd ps ds)(hd:Vals dvs ds)(hx:zdM CX X E)
  (I:Inv X pins σ H s) (r:Vals vs us) (h:sp (vs++dvs) H Q E):wpAny (model X.prog X.w) X.A (call (.ref f) us) (EP X pins σ Q) X.xe s:=by
 have r2:Vals (vs++dvs) (us++ds):=r.append hd
 have hl:(us++ds).length=ps.length:=by rw[←r2.length];exact F.len _ _ _ _ h
 refine wpAny_call (codeAny_mono (F.run X.A X.stack s H ⟨us,[]⟩ (us++ds) (vs++dvs) Q E hr I.env0 (hb s us I.kIn hl) r2 h) fun r s' hq=>?_)
 cases r with
 | error e=>exact hx pins σ H s e s' I hq
 | ok fl =>
  cases fl with
  | ret u=>exact I.after hq
  | next=>exact False.elim hq
  | brk=>exact False.elim hq
  | cont=>exact False.elim hq
theorem znB(F:FnOk X.prog X.w X.K X.mg X.base CX k f fd ps sp)(hr:Room k X.A)(hg:Gl X x)(hm:X.mg x=some (.ref f))(hk:PySem.W.keepIn X.K (.ref f)=true)(hb:Binds X.K fd ps ds)(hd:Vals dvs ds)(hx:zdM CX X E)
  (ha:PA X (e::es) t) (hdb:(x==("__debug__" : Str))=false:=by decide) (he:starEach (e::es) X.env=(false,eval e X.env)::starEach es X.env:=by rfl) (hpl:(backTo pos (starEach es X.env)).any (·.1)=false:=by rfl) :
  PE X (.Call (.Name x p) (e::es) [] pos) (tCall sp dvs E t):=by
 intro pins s σ H Q I h
 refine wpAny_Call_Name_kw (zhO I hg hm ?_ hdb)
 refine PySem.W.callWith_K (h₀:=X.base) I.ok.mod.kin hk (thn (ha pos pins s σ H _ I h) fun us s1 hZ=>hZ.elim fun vs hZ=>hZ.elim fun H1 hZ=>hZ.elim fun I1 hZ=>hZ.elim fun r q=>⟨I1.kIn,?_⟩) he hpl
 exact run_fn F hr hb hd hx I1 r q
structure Mk(K:PySem.W.Frag)(C f:Addr):Prop where
 makes:PySem.W.makesIn K C=true
 init:PySem.W.findIn K (.ref C) "__init__" = some (some (.ref f))
 fn:PySem.W.isFn K (.ref f)=true
 kp:PySem.W.keepIn K (.ref C)=true
end
def PK(X:Cx)(kws:List Keyword)(t:TA):Prop :=
 ∀(pos:Pos) (pins:List (Addr×Obj)) (s:Shared) (σ:St) (H:Hp) (Q:List V→Hp→Prop),Inv X pins σ H s→t σ H Q→wpAny (model X.prog X.w) X.A (evalAll ((backToKw pos (keywordEach kws X.env)).map (·.2))) (AP X pins σ Q) X.xe s
section
variable {X:Cx}{CX:CXT}{k:Nat}{f C:Addr}{fd:FuncData}{ps ks:List Str}{sp:Sp}{E:XK}{x m:Str}{p pos apos kpos:Pos}{e o:Expr}{es:List Expr}{kws:List Keyword}{te ta:TE}{t tk:TA}{nm:Option Str}
theorem zjO:PK X [] tNil:=fun _ _ _ _ H Q I h=>wpAny_evalAll_nil ⟨[],H,I,.nil,h⟩
theorem zhS(ha:PE X e te)(hr:PK X kws t):PK X (⟨nm,e,kpos⟩::kws) (tCons te t):=by
 intro pos pins s σ H Q I h
 show wpAny _ _ (evalAll ((do let v ←eval e X.env;standAt pos;pure v)::(backToKw pos (keywordEach kws X.env)).map (·.2))) _ _ s
 refine wpAny_evalAll_cons (wpAny_bind (thn (ha pins s σ H _ I h) fun u s1 hZ=>hZ.elim fun x hZ=>hZ.elim fun H1 hZ=>hZ.elim fun I1 hZ=>hZ.elim fun r1 q1=>wpAny_bind (wpAny_standAt (wpAny_pure ?_))))
 exact thn (hr pos pins s1 σ H1 _ I1 q1) fun us s2 hZ=>hZ.elim fun xs hZ=>hZ.elim fun H2 hZ=>hZ.elim fun I2 hZ=>hZ.elim fun r2 q2=>⟨x::xs,H2,I2,.cons r1 r2,q2⟩
structure KBinds(K:PySem.W.Frag)(fd:FuncData)(ps ks:List Str)(g:List Value→List Value→List Value)(gV:List V→List V→List V):Prop where
 to:∀(s:Shared) (us ws:List Value),K.In s.heap→(g us ws).length=ps.length→BindsTo s fd ⟨us,ks.zip ws⟩ (ps.zip (g us ws))
 rel:∀{vs:List V} {us:List Value} {zs:List V} {ws:List Value},Vals vs us→Vals zs ws→Vals (gV vs zs) (g us ws)
variable {g:List Value→List Value→List Value}{gV:List V→List V→List V}
end
structure FnScope(N P:List Str)(sc:Scope):Prop where
 kind:sc.kind = .function
 co:sc.isCoroutine=false
 gen:sc.isGenerator=false
 nd:N.Nodup
 pre:N.take P.length=P
 par:∀ x∈P,sc.names.lookup x=some .local∨sc.names.lookup x=some .cell
 nofree:∀ y∈sc.names,y.2 ≠ .free
theorem zah{kindOf:Str→Option NameKind}{x:Str}:∀{binds:List (Str×Value)} {m:Str→Option Value},(∀ v,(x,v) ∉ binds)→bindL kindOf binds m x=m x
 | [],_,_=>rfl
 | (n,v)::r,m,h=>by
  unfold bindL
  rw[zah fun w hw=>h w (List.mem_cons_of_mem _ hw)]
  split
  · have:x≠n:=by rintro rfl;exact h v List.mem_cons_self
    simp[this]
  · rfl
theorem zai{kindOf:Str→Option NameKind}{x:Str}:∀{binds:List (Str×Value)} {m:Str→Option Value},(∀ v,(x,v) ∉ binds)→bindC kindOf binds m x=m x
 | [],_,_=>rfl
 | (n,v)::r,m,h=>by
  unfold bindC
  rw[zai fun w hw=>h w (List.mem_cons_of_mem _ hw)]
  split
  · rfl
  · have:x≠n:=by rintro rfl;exact h v List.mem_cons_self
    simp[this]
theorem zaj{kindOf:Str→Option NameKind}{x:Str}{v:Value}:∀{P:List Str} {vs:List Value} {i:Nat} {m:Str→Option Value},P.Nodup→P[i]?=some x→vs[i]?=some v→kindOf x=some .local →
  bindL kindOf (P.zip vs) m x=some v
 | [],_,_,_,_,h,_,_=>by simp at h
 | _::_,[],_,_,_,_,h,_=>by simp at h
 | p::P,w::vs,0,m,nd,h1,h2,hk=>by
  simp at h1 h2;subst h1;subst h2
  show bindL kindOf ((p,w)::P.zip vs) m p=_
  unfold bindL
  rw[zah fun v hv=>(List.nodup_cons.mp nd).1 (List.of_mem_zip hv).1,if_pos hk]
  simp
 | p::P,w::vs,i+1,m,nd,h1,h2,hk=>by
  show bindL kindOf ((p,w)::P.zip vs) m x=_
  unfold bindL
  exact zaj (i:=i) (List.nodup_cons.mp nd).2 (by simpa using h1) (by simpa using h2) hk
theorem zak{kindOf:Str→Option NameKind}{x:Str}{v:Value}:∀{P:List Str} {vs:List Value} {i:Nat} {m:Str→Option Value},P.Nodup→P[i]?=some x→vs[i]?=some v→kindOf x≠some .local →
  bindC kindOf (P.zip vs) m x=some v
 | [],_,_,_,_,h,_,_=>by simp at h
 | _::_,[],_,_,_,_,h,_=>by simp at h
 | p::P,w::vs,0,m,nd,h1,h2,hk=>by
  simp at h1 h2;subst h1;subst h2
  show bindC kindOf ((p,w)::P.zip vs) m p=_
  unfold bindC
  rw[zai fun v hv=>(List.nodup_cons.mp nd).1 (List.of_mem_zip hv).1,if_neg hk]
  simp
 | p::P,w::vs,i+1,m,nd,h1,h2,hk=>by
  show bindC kindOf ((p,w)::P.zip vs) m x=_
  unfold bindC
  exact zak (i:=i) (List.nodup_cons.mp nd).2 (by simpa using h1) (by simpa using h2) hk
def start(N:List Str)(vs:List V):St:=vs.map some++List.replicate (N.length-vs.length) none
def cxOf(CX:CXT)(P:Program)(w:World)(K:PySem.W.Frag)(mg:Str→Option Value)(base:Heap)(N:List Str)(qual:Str)(scope:Scope)(f:Addr)(cd:Value)(A:Around)(outer:List Env)(s:Shared)(H:Hp)(E:XK):Cx where
 prog:=P
 w:=w
 K:=K
 mg:=mg
 base:=base
 A:=A.deeper (envOfC qual scope s.heap.objs.size f cd)
 N:=N
 s₀:=s
 H₀:=H
 env:=envOfC qual scope s.heap.objs.size f cd
 outer:=outer
 stack:=envOfC qual scope s.heap.objs.size f cd::outer
 ex:=[]
 calm:=true
 fn:=fun _=>true
 pn:=[]
 xe:=fun e s'=>wpAny (model P w) (A.deeper (envOfC qual scope s.heap.objs.size f cd)) (leaving (envOfC qual scope s.heap.objs.size f cd) e) (fun _ s''=>CX outer H s E e s'') (fun e' s''=>CX outer H s E e' s'') s'
theorem zcl{sc:Scope}{n:Nat}{x:Str}(h:sc.names.lookup x=some .cell):∃ c,(cellsFrom n sc.names []).lookup x=some c:=by
 have q:=PySem.W.cellsFrom_some sc.names n [] (.inl h)
 exact Option.isSome_iff_exists.mp q
theorem ziS{CX:CXT}{P:Program}{w:World}{K:PySem.W.Frag}{mg:Str→Option Value}{base:Heap}{N ps:List Str}{qual:Str}{scope:Scope}{f:Addr}{cd:Value}{A:Around}{outer:List Env}{s s1:Shared}{H:Hp}{E:XK}{us:List Value}{vs:List V}
   (S:FnScope N ps scope) (hd:A.handled=none) (e0:Env0 P w K mg base A outer s H) (hl:vs.length=ps.length) (r:Vals vs us)
   (x:InCallC s s.heap.objs.size (bindL (envOfC qual scope s.heap.objs.size f cd).kindOf (ps.zip us) fun _=>none) (cellsFrom (s.heap.objs.size+1) scope.names []) (bindC (envOfC qual scope s.heap.objs.size f cd).kindOf (ps.zip us) fun _=>none) s1) :
   Inv (cxOf CX P w K mg base N qual scope f cd A outer s H E) [] (start N vs) H s1:=by
 have hpl:ps.length≤N.length:=by have:=congrArg List.length S.pre;rw[List.length_take]at this;omega
 obtain⟨h1,tk,rfl,hk⟩:=x.done
 have noA:∀ b:Addr,b ∉ (cxOf CX P w K mg base N qual scope f cd A outer s H E).ex:=fun b z=>absurd (show b∈([]:List Addr)from z) (by simp)
 refine⟨⟨e0.mod,S.kind,rfl,rfl,Nat.le_refl _,fun y z c h1 h2=>?_,fun y hy=>?_,fun y c _ h=>?_,fun _=>hd,Around.frames_deeper e0.frames,.inr ⟨rfl,rfl⟩,fun b z=>absurd z (noA b),e0.bs,e0.bsz,fun b _ _=>noA b,fun b z=>absurd z (noA b),e0.funs,e0.frf⟩,
   rfl,e0.bare,Un.kept hk,⟨_,x.toInCall.ns,fun i y v h1 h2 h3=>?_⟩,fun y c h=>⟨_,x.cell y c h⟩,e0.hok.fresh (Nat.le_refl _),fun y c h=>?_,fun p hp=>absurd (show p∈([]:List (Addr×Obj))from hp) (by simp),e0.hok.kept hk,?_⟩
 · exact name_of_addr x.apart (PySem.mem_of_lookup h1) (PySem.mem_of_lookup h2)
 · have hy:scope.names.lookup y=some .cell∨scope.names.lookup y=some .free:=hy
   rcases hy with hy|hy
   · exact zcl hy
   · exact absurd rfl (S.nofree _ (PySem.mem_of_lookup hy))
 · exact Nat.le_of_lt (x.above y c (PySem.mem_of_lookup h))
 · have hi:i<vs.length:=by
     unfold start at h2
     by_cases hi:i<vs.length
     · exact hi
     · rw[List.getElem?_append_right (by simpa using hi)]at h2
       rw[List.getElem?_replicate]at h2
       split at h2<;>cases h2
   have ha:vs[i]?=some v:=by
     unfold start at h2
     rw[List.getElem?_append_left (by simpa using hi),List.getElem?_map]at h2
     cases e:vs[i]? with
     | none=>rw[e]at h2;cases h2
     | some a=>rw[e]at h2;cases h2;rfl
   obtain⟨u,hu,rv⟩:=r.get ha
   have hp:ps[i]?=some y:=by
     rw[←S.pre,List.getElem?_take_of_lt (by omega)];exact h1
   have ndP:ps.Nodup:=by rw[←S.pre];exact S.nd.sublist (List.take_sublist _ _)
   refine⟨u,rv,?_⟩
   rcases S.par y (List.mem_of_getElem? hp)with k|k
   · exact .inl ⟨k,zaj ndP hp hu k⟩
   · obtain⟨c,e⟩:=zcl (n:=s.heap.objs.size+1) k
     refine .inr ⟨.inl k,c,e,?_⟩
     have q:=x.cell y c e
     rw[zak ndP hp hu (by show scope.names.lookup y≠_;rw[k];decide)]at q
     exact q
 · exact e0.hok.fresh (Nat.le_of_lt (x.above y c (PySem.mem_of_lookup h)))
 · unfold start
   show _=N.length
   rw[List.length_append,List.length_map,List.length_replicate]
   omega
theorem fn_of{CX:CXT}{P:Program}{w:World}{K:PySem.W.Frag}{mg:Str→Option Value}{base:Heap}{k:Nat}{f:Addr}{name qual:Str}{params:Arguments}{body:List Stmt}{scope:Scope}{dV kV doc pm cdv ct oc:Value}{an od:Option Addr}
  {osl:Array (Option Value)} {N ps:List Str} {sp:Sp} (lk:K.lookup f=some ⟨oc,od,.func (PySem.W.fnOf name qual params body scope dV kV doc pm an cdv ct),osl⟩) (hcd:PySem.W.codeIn K cdv qual=true) (S:FnScope N ps scope)
  (len:∀ vs H Q E,sp vs H Q E→vs.length=ps.length)
  (hbody:∀(A:Around) (outer:List Env) (s:Shared) (H:Hp) (vs:List V) (Q:VK) (E:XK),Room k (A.deeper (envOfC qual scope s.heap.objs.size f cdv))→sp vs H Q E →
    ∃ t,PSs (cxOf CX P w K mg base N qual scope f cdv A outer s H E) body t∧t { nx:=fun _ H'=>Q .non H',rt:=Q } (start N vs) H) :
  FnOk P w K mg base CX (k+1) f (PySem.W.fnOf name qual params body scope dV kV doc pm an cdv ct) ps sp:=by
 refine⟨len,fun A outer s H args us vs Q E hr e0 hb r hsp=>?_⟩
 have hl:=len _ _ _ _ hsp
 have KX:K.In s.heap:=e0.mod.kin.keeps fun b o e=>(e0.bs b o e).1
 have lim:s.heap.NoLimit:=e0.mod.nolimit.keeps fun b o e=>(e0.bs b o e).1
 have hkind:∀ y∈ps.zip us,scope.names.lookup y.1=some .local∨(scope.names.lookup y.1=some .cell∧((cellsFrom (s.heap.objs.size+1) scope.names []).lookup y.1).isSome=true):=fun⟨n,v⟩ hy=>by
  rcases S.par n (List.of_mem_zip hy).1 with q|q
  · exact .inl q
  · exact .inr ⟨q,PySem.W.cellsFrom_some _ _ _ (.inl q)⟩
 refine codeAny_call_function hr.depth (KX _ _ lk) rfl S.co S.gen rfl (PySem.W.codeRec_of KX hcd) (hb _ _ _ _ ?_)
 refine wpAny_newFunctionEnv_cells S.kind hkind fun env he s1 x=>?_
 subst he
 refine⟨lim.keeps x.toInCall.keep,codeAny_func ?_⟩
 obtain⟨t,ht,hq⟩:=hbody A outer s H vs Q E (hr.deeper _) hsp
 have I:Inv (cxOf CX P w K mg base N qual scope f cdv A outer s H E) [] (start N vs) H s1:=ziS S hr.hd e0 hl r x
 refine wpAny_mono (ht [] s1 (start N vs) H _ I hq) (fun fl s' hs=>?_) fun e s' hs=>hs
 have fin:∀{σ':St} {H':Hp} {v:V} {u:Value},Inv (cxOf CX P w K mg base N qual scope f cdv A outer s H E) [] σ' H' s'→RelV v u→Q v H'→CE outer P w H s Q u s' :=
  fun{σ' H' v u} J rv q=>⟨v,H',J.os,J.bare,J.base,J.hok,rv,q⟩
 cases fl with
 | ret u =>
  obtain⟨v,σ',H',J,rv,q⟩:=hs
  exact fin J rv q
 | next =>
  obtain⟨σ',H',J,q⟩:=hs
  exact fin (v:=V.non) (u:=Value.none) J rfl q
 | brk =>
  obtain⟨_,_,_,q⟩:=hs
  exact False.elim q
 | cont =>
  obtain⟨_,_,_,q⟩:=hs
  exact False.elim q
end L2
namespace L2
open PySem PySem.Spec PyProof.Rows
section
variable {X:Cx}{x:Str}{p pos:Pos}{e:Expr}{es:List Expr}{t:TA}{id T:String}{r:List V→Hp→VK→Prop}
def tCB(r:List V→Hp→VK→Prop)(t:TA):TE:=fun σ H Q=>t σ H fun vs H1=>r vs H1 Q
theorem zcm(hc:CallR X (.builtin id) r)(hg:Gl X x)(hm:X.mg x=none)(hv:bootBuiltins x=some (.builtin id))(ha:PA X (e::es) t)(hn:x ≠ "__name__" := by decide)(hdb:(x==("__debug__" : Str))=false:=by decide)
  (he:starEach (e::es) X.env=(false,eval e X.env)::starEach es X.env:=by rfl) (hpl:(backTo pos (starEach es X.env)).any (·.1)=false:=by rfl):PE X (.Call (.Name x p) (e::es) [] pos) (tCB r t):=by
 intro pins s σ H Q I h
 refine wpAny_Call_Name_kw (z4b I hg hm hv ?_ hn hdb)
 exact PyProof.Rows.callWith_builtin1 (thn (ha pos pins s σ H _ I h) fun us s1 hZ=>hZ.elim fun vs hZ=>hZ.elim fun H1 hZ=>hZ.elim fun I1 hZ=>hZ.elim fun r1 q1=>hc pins s1 σ H1 vs us Q I1 r1 q1) he hpl
theorem ziT(hc:CallR X (.type T) r)(hg:Gl X x)(hm:X.mg x=none)(hv:bootBuiltins x=some (.type T))(ha:PA X (e::es) t)(hn:x ≠ "__name__" := by decide)(hdb:(x==("__debug__" : Str))=false:=by decide)
  (he:starEach (e::es) X.env=(false,eval e X.env)::starEach es X.env:=by rfl) (hpl:(backTo pos (starEach es X.env)).any (·.1)=false:=by rfl):PE X (.Call (.Name x p) (e::es) [] pos) (tCB r t):=by
 intro pins s σ H Q I h
 refine wpAny_Call_Name_kw (z4b I hg hm hv ?_ hn hdb)
 exact PyProof.Rows.callWith_type1 (thn (ha pos pins s σ H _ I h) fun us s1 hZ=>hZ.elim fun vs hZ=>hZ.elim fun H1 hZ=>hZ.elim fun I1 hZ=>hZ.elim fun r1 q1=>hc pins s1 σ H1 vs us Q I1 r1 q1) he hpl
end
end L2
namespace HT
open PySem PyProof.Rows
section
open PySem.SeqAt
open PySem.AutoSeq1 (wpAny_loadPart')
open PySem.MeetsSeq PySem.MeetsSeq2 PySem.MeetsSeq3
end
section
variable {prog:Program}{w:World}{A:Around}{E:Value→Shared→Prop}{s:Shared}
def sIx(n d:Nat):Option Int→Nat
 | none=>d
 | some v=>if v<0 then(v+(n:Int)).toNat else min v.toNat n
theorem sIx_none(n d:Nat):sIx n d none=d:=rfl
theorem sIx_nat(n d k:Nat):sIx n d (some (k:Int))=min k n:=by
 show(if(k:Int)<0 then((k:Int)+(n:Int)).toNat else min (k:Int).toNat n)=min k n
 rw[if_neg (by omega),Int.toNat_natCast]
end
end HT
namespace L2
open PySem PySem.Spec PyProof.Rows
abbrev TO:=St→Hp→(Option Int→Hp→Prop)→Prop
def PO(X:Cx)(e:Option Expr)(t:TO):Prop :=
 ∀(pins:List (Addr×Obj)) (s:Shared) (σ:St) (H:Hp) (Q:Option Int→Hp→Prop),Inv X pins σ H s→t σ H Q →
  wpAny (model X.prog X.w) X.A (evalPart e X.env) (fun u s'=>∃ o H',Inv X pins σ H' s'∧IsPart u o∧Q o H') X.xe s
def znC:TO:=fun _ H Q=>Q none H
def tPart(t:TE):TO:=fun σ H Q=>t σ H fun x H1=>∃ i,x = .int i∧Q (some i) H1
section
variable {X:Cx}{e:Expr}{te:TE}{lo hi:Option Expr}{tl th:TO}{pos p2:Pos}
theorem znD:PO X none znC:=by
 intro pins s σ H Q I h
 rw[evalPart_none]
 exact wpAny_pure ⟨none,H,I,.none,h⟩
theorem znE(h:PE X e te):PO X (some e) (tPart te):=by
 intro pins s σ H Q I hw
 rw[evalPart_some]
 refine thn (h pins s σ H _ I hw) ?_
 rintro u s1 ⟨x,H1,I1,r1,q1⟩
 obtain⟨i,rfl,q⟩:=q1
 obtain⟨t,rfl⟩:=r1
 exact⟨some i,H1,I1,.int i t,q⟩
def SlR(X:Cx)(r:V→Option Int→Option Int→Hp→VK→Prop):Prop :=
 ∀(pins:List (Addr×Obj)) (s:Shared) (σ:St) (H:Hp) (x:V) (v vl vu:Value) (lo hi:Option Int) (sl:Addr) (Q:VK),Inv X pins σ H s→RelV x v→s.heap.IsSliceOf sl vl vu .none→IsPart vl lo→IsPart vu hi→r x lo hi H Q →
  ∃ T id,typeLookup (.type T) "__getitem__" = pure (some (.builtin id))∧s.TypeIs v T∧wpAny (model X.prog X.w) X.A (getItem v (.ref sl)) (EP X pins σ Q) X.xe s
theorem SlR.or{r r':V→Option Int→Option Int→Hp→VK→Prop}(h:SlR X r)(h':SlR X r'):SlR X (fun x lo hi H Q=>r x lo hi H Q∨r' x lo hi H Q):=by
 intro pins s σ H x v vl vu lo hi sl Q I rx hs pl pu q
 rcases q with q|q
 · exact h pins s σ H x v vl vu lo hi sl Q I rx hs pl pu q
 · exact h' pins s σ H x v vl vu lo hi sl Q I rx hs pl pu q
def tSl(r:V→Option Int→Option Int→Hp→VK→Prop)(te:TE)(tl th:TO):TE:=fun σ H Q=>te σ H fun x H1=>tl σ H1 fun l H2=>th σ H2 fun u H3=>r x l u H3 Q
theorem zjP{r:V→Option Int→Option Int→Hp→VK→Prop}(hr:SlR X r)(he:PE X e te)(hl:PO X lo tl)(hu:PO X hi th):PE X (.Subscript e (.Slice lo hi none p2) pos) (tSl r te tl th):=by
 intro pins s σ H Q I h
 refine Subscript_ (thn (he pins s σ H _ I h) ?_)
 rintro v s1 ⟨x,H1,I1,r1,q1⟩
 refine wpAny_Slice (thn (hl pins s1 σ H1 _ I1 q1) fun vl s2 hZ=>hZ.elim fun l hZ=>hZ.elim fun H2 hZ=>hZ.elim fun I2 hZ=>hZ.elim fun pl q2=>thn (hu pins s2 σ H2 _ I2 q2) ?_)
 rintro vu s3 ⟨u,H3,I3,pu,q3⟩
 rw[evalPart_none]
 refine wpAny_pure ?_
 have I4:Inv X pins σ H3 { s3 with heap:=s3.heap.push { cls := .type "slice",data := .fields #[vl,vu,.none] } }:=I3.kept (t':=s3.toks) fun b ob q=>Heap.get?_push_of_some _ q
 obtain⟨T,id,hT,ht,hg⟩:=hr pins { s3 with heap:=s3.heap.push { cls := .type "slice",data := .fields #[vl,vu,.none] } } σ H3 x v vl vu l u s3.heap.objs.size Q I4 r1 (Heap.IsSliceOf.new ..) pl pu q3
 show wpAny (model X.prog X.w) X.A (subscriptTail e (.Slice lo hi none p2) v (.ref s3.heap.objs.size)) (EP X pins σ Q) X.xe { s3 with heap:=s3.heap.push { cls := .type "slice",data := .fields #[vl,vu,.none] } }
 exact tail_any (ops:=[.ref s3.heap.objs.size,v]) ht hT hg (by with_unfolding_all rfl)
def cutV(xs:List V)(lo hi:Option Int):List V:=(xs.drop (HT.sIx xs.length 0 lo)).take (HT.sIx xs.length xs.length hi-HT.sIx xs.length 0 lo)
theorem zcn(xs:List V)(lo hi:Option Int):(cutV xs lo hi).length≤xs.length:=by
 unfold cutV
 rw[List.length_take,List.length_drop]
 omega
end
end L2
namespace L2
open PySem PySem.Spec PyProof.Rows
def ixN(n:Nat)(i:Int):Option Nat:=if 0≤i then(if i<n then some i.toNat else none) else if -(n:Int)≤i then some (i+n).toNat else none
def atI{α:Type}(xs:List α)(i:Int):Option α:=(ixN xs.length i).bind fun j=>xs[j]?
theorem zhT{n:Nat}{i:Int}{j:Nat}(h:ixN n i=some j):seqIndex? i n=some j∧j<n ∧ -(n:Int)≤i∧i<n:=by
 unfold ixN at h
 by_cases h0:0≤i
 · rw[if_pos h0]at h
   by_cases h1:i<n
   · rw[if_pos h1]at h
     have e:i.toNat=j:=Option.some.inj h
     exact⟨by rw[seqIndex_of h0 h1,e],by omega,by omega,h1⟩
   · rw[if_neg h1]at h;cases h
 · rw[if_neg h0]at h
   by_cases h1 : -(n:Int)≤i
   · rw[if_pos h1]at h
     have e:(i+n).toNat=j:=Option.some.inj h
     exact⟨by rw[seqIndex_neg (by omega) h1,e],by omega,h1,by omega⟩
   · rw[if_neg h1]at h;cases h
theorem zbC{α:Type}{xs:List α}{i:Int}{v:α}(h:atI xs i=some v):∃ j,seqIndex? i xs.length=some j∧xs[j]?=some v∧j<xs.length ∧ -(xs.length:Int)≤i∧i<xs.length:=by
 unfold atI at h
 cases e:ixN xs.length i with
 | none=>rw[e]at h;cases h
 | some j =>
  rw[e]at h
  obtain⟨h1,h2,h3,h4⟩:=zhT e
  exact⟨j,h1,h,h2,h3,h4⟩
theorem z4e{α:Type}{xs:List α}{j:Nat}{v:α}(h:xs[j]?=some v):atI xs (j:Int)=some v:=by
 have hj:j<xs.length:=(List.getElem?_eq_some_iff.mp h).1
 have e:ixN xs.length (j:Int)=some j:=by
  unfold ixN
  rw[if_pos (by omega),if_pos (by omega)];simp
 unfold atI;rw[e];exact h
def zhU(b:Expr):Prop:=∀ o i,subscripted b false o i=operate [o,i] (getItem o i)
def IxR(X:Cx)(r:R2):Prop :=
 ∀(value slice:Expr) (pins:List (Addr×Obj)) (s:Shared) (σ:St) (H:Hp) (x y:V) (v u:Value) (Q:VK),Inv X pins σ H s→RelV x v→RelV y u→r x y H Q →
  subscripted slice false v u=operate [v,u] (getItem v u)→wpAny (model X.prog X.w) X.A (subscriptTail value slice v u) (EP X pins σ Q) X.xe s
def MtR(X:Cx)(id:String)(r:V→List V→Hp→VK→Prop):Prop :=
 ∀(pins:List (Addr×Obj)) (s:Shared) (σ:St) (H:Hp) (x:V) (xs:List V) (v:Value) (us:List Value) (Q:VK),Inv X pins σ H s→RelV x v→Vals xs us→r x xs H Q →
  wpAny (model X.prog X.w) X.A (call (.builtin id) (v::us)) (EP X pins σ Q) X.xe s
section
variable {X:Cx}{a b:Expr}{ta tb:TE}{pos:Pos}
theorem IxR.or{r r':R2}(h:IxR X r)(h':IxR X r'):IxR X (fun x y H Q=>r x y H Q∨r' x y H Q):=by
 intro value slice pins s σ H x y v u Q I rx ry q hs
 rcases q with q|q
 · exact h value slice pins s σ H x y v u Q I rx ry q hs
 · exact h' value slice pins s σ H x y v u Q I rx ry q hs
theorem MtR.or{id:String}{r r':V→List V→Hp→VK→Prop}(h:MtR X id r)(h':MtR X id r'):MtR X id (fun x xs H Q=>r x xs H Q∨r' x xs H Q):=by
 intro pins s σ H x xs v us Q I rx rs q
 rcases q with q|q
 · exact h pins s σ H x xs v us Q I rx rs q
 · exact h' pins s σ H x xs v us Q I rx rs q
theorem pe_ix{r:R2}(hr:IxR X r)(ha:PE X a ta)(hb:PE X b tb)(hs:zhU b):PE X (.Subscript a b pos) (tOp r ta tb):=by
 intro pins s σ H Q I h
 exact Subscript_ (binT ha hb I h fun v u s2 x y H2 I2 rx ry q=>hr a b pins s2 σ H2 x y v u Q I2 rx ry q (hs _ _))
def rIxL(K:PySem.W.Frag):R2:=fun x y H Q=>∃ p xs i v,x = .ref p∧y = .int i∧SqL K H p xs∧atI xs i=some v∧Q v H
def rIxT(K:PySem.W.Frag):R2:=fun x y H Q=>∃ p xs i v,x = .ref p∧y = .int i∧SqT K H p xs∧atI xs i=some v∧Q v H
def rIxS:R2:=fun x y H Q=>∃ z i c,x = .str z∧y = .int i∧z.length≤sizeLine∧atI z.cps.toList i=some c∧Q (.str ⟨#[c]⟩) H
theorem znF:IxR X (rIxL X.K):=by
 intro value slice pins s σ H x y v u Q I rx ry h hs
 obtain⟨p,xs,i,z,rfl,rfl,hq,he,q⟩:=h
 cases rx
 obtain⟨t,rfl⟩:=ry
 obtain⟨its,r,pl,hz⟩:=I.list hq
 obtain⟨j,h1,h2,h3,h4,h5⟩:=zbC he
 obtain⟨w,ew,rw'⟩:=r.get h2
 have hl:=r.length
 have hn:=z75
 have fin:EP X pins σ Q w s:=⟨z,H,I,rw',q⟩
 by_cases h0:0≤i
 · have hj:i.toNat=j:=by
    rw[seqIndex_of h0 h5]at h1
    exact Option.some.inj h1
   exact item_listR pl.isList h0 (by omega) (by rw[hj];simpa using ew) fin hs
 · have hj:(i+(its.toArray.size:Int)).toNat=j:=by
    rw[seqIndex_neg (by omega) h4]at h1
    rw[List.size_toArray,←hl]
    exact Option.some.inj h1
   exact subscriptTail_builtinR (x:=w) pl.isList.typeIs slot_list_getitem.lookup
    (wpAny_getItem_list_neg (Q:=fun r s'=>r=w∧EP X pins σ Q r s') pl.isList (by omega) (by rw[List.size_toArray]<;>omega) (by omega) (by rw[hj];simpa using ew) ⟨rfl,fin⟩) hs
theorem ix_tup:IxR X (rIxT X.K):=by
 intro value slice pins s σ H x y v u Q I rx ry h hs
 obtain⟨p,xs,i,z,rfl,rfl,hq,he,q⟩:=h
 cases rx
 obtain⟨t,rfl⟩:=ry
 obtain⟨its,r,pl,hz⟩:=I.tuple hq
 obtain⟨j,h1,h2,h3,h4,h5⟩:=zbC he
 obtain⟨w,ew,rw'⟩:=r.get h2
 have hl:=r.length
 have hn:=z75
 have fin:EP X pins σ Q w s:=⟨z,H,I,rw',q⟩
 exact subscriptTail_builtinR (x:=w) pl.typeIs slot_tuple_getitem.lookup
  (getItem_tuple (j:=j) (Q:=fun r s'=>r=w∧EP X pins σ Q r s') pl (by omega) (by omega) (by rw[List.size_toArray,←hl];exact h1) (by simpa using ew) ⟨rfl,fin⟩) hs
theorem ix_str:IxR X rIxS:=by
 intro value slice pins s σ H x y v u Q I rx ry h hs
 obtain⟨z,i,c,rfl,rfl,hz,he,q⟩:=h
 obtain⟨t,rfl⟩:=rx
 obtain⟨t',rfl⟩:=ry
 obtain⟨j,h1,h2,h3,h4,h5⟩:=zbC he
 have hl:z.cps.toList.length=z.length:=by simp[Str.length]
 rw[hl]at h1 h4 h5
 have hn:=z75
 exact tail_any (typeIs_str s z t) slot_str_getitem.lookup (getItem_str (c:=c) (by
  have e1:decide (i < -(2 ^ 63:Int))=false:=decide_eq_false (by omega)
  have e2:decide (i≥2 ^ 63)=false:=decide_eq_false (by omega)
  rw[e1,e2,Bool.or_false]) (by rw[h1];simpa using h2) ⟨.str ⟨#[c]⟩,H,I.tok _,⟨_,rfl⟩,q⟩) hs
def rIx(K:PySem.W.Frag):R2:=fun x y H Q=>rIxL K x y H Q∨rIxT K x y H Q∨rIxS x y H Q
theorem ix_seq:IxR X (rIx X.K):=znF.or (ix_tup.or ix_str)
theorem zdN(its:List Value)(n j:Nat)(u:Value):Obj.mapSeq (·.setIfInBounds j u) { cls := .type "list",data := .seq its.toArray n }={ cls := .type "list",data := .seq (its.set j u).toArray n }:=by
 simp[Obj.mapSeq]
theorem Inv.lst{pins:List (Addr×Obj)}{σ:St}{H:Hp}{s:Shared}{p:Addr}{xs:List V}(I:Inv X pins σ H s)(h:H p=some (.lst xs)):
  ∃(its:List Value) (n:Nat),Vals xs its∧s.heap.get? p=some { cls := .type "list",data := .seq its.toArray n }∧xs.length≤sizeLine:=by
 obtain⟨z,its,n,r,e⟩:=I.hok p _ h
 exact⟨its,n,r,e,z⟩
theorem Inv.lstUpd{pins:List (Addr×Obj)}{σ:St}{H:Hp}{s:Shared}{p:Addr}{xs ys:List V}{its its':List Value}{n n':Nat}{f:Obj→Obj}(I:Inv X pins σ H s)(h:H p=some (.lst xs))
  (ho:s.heap.get? p=some { cls := .type "list",data := .seq its.toArray n }) (hf:f { cls := .type "list",data := .seq its.toArray n }={ cls := .type "list",data := .seq its'.toArray n' }) (r:Vals ys its') (hz:ys.length≤sizeLine) (t:Nat) :
  Inv X pins σ (upd H p (.lst ys)) { s with heap:=s.heap.update p f,toks:=t }:=by
 have e:(s.heap.update p f).get? p=some { cls := .type "list",data := .seq its'.toArray n' }:=by
  rw[Heap.get?_update_self f ho (by rw[hf]<;>rfl),hf]
 refine I.write (x:=p) (e:=p) (by rw[h];trivial) (.inl rfl) (fun b u hb q=>(Heap.get?_update_other _ _ (Ne.symm hb)).trans q) ⟨_,e⟩ ?_
 exact⟨hz,its',n',r,e⟩
def rSetL:V→V→V→Hp→(Hp→Prop)→Prop:=fun o i v H Q=>∃ p xs k j,o = .ref p∧i = .int k∧H p=some (.lst xs)∧ixN xs.length k=some j∧Q (upd H p (.lst (xs.set j v)))
theorem zjQ:PSet X rSetL:=by
 intro pins s σ H o i v ov iv u Q I ro ri rv h
 obtain⟨p,xs,k,j,rfl,rfl,hp,hj,q⟩:=h
 cases ro
 obtain⟨t,rfl⟩:=ri
 obtain⟨its,n,r,ho,hz⟩:=I.lst hp
 obtain⟨h1,h2,h3,h4⟩:=zhT hj
 have hl:=r.length
 have hn:=z75
 have I':Inv X pins σ (upd H p (.lst (xs.set j v))) { s with heap:=s.heap.update p (Obj.mapSeq (·.setIfInBounds j u)) } :=
   I.lstUpd hp ho (zdN its n j u) (r.set rv j) (by rw[List.length_set];exact hz) s.toks
 by_cases h0:0≤k
 · have hk:k.toNat=j:=by
    rw[seqIndex_of h0 h4]at h1
    exact Option.some.inj h1
   exact PySem.W.ki_setAt ho h0 (by omega) (by rw[List.size_toArray,←hl];exact h4) (by rw[hk];exact⟨_,I',q⟩)
 · have hk:(k+(its.toArray.size:Int)).toNat=j:=by
    rw[seqIndex_neg (by omega) h3]at h1
    rw[List.size_toArray,←hl]
    exact Option.some.inj h1
   exact PySem.W.ki_setBack ho (by omega) (by rw[List.size_toArray,←hl];exact h3) (by omega) (by rw[hk];exact⟨_,I',q⟩)
theorem zbD(lo hi:Option Int)(n:Nat):(sliceBounds lo hi none n).1=((HT.sIx n 0 lo:Nat):Int)∧(sliceBounds lo hi none n).2.1=((HT.sIx n n hi:Nat):Int)∧(sliceBounds lo hi none n).2.2=1:=by
 refine⟨?_,?_,rfl⟩
 · cases lo with
   | none=>simp[sliceBounds,HT.sIx]
   | some i =>
    simp only[sliceBounds,HT.sIx,Option.getD_none,show(1:Int) > 0 by decide,if_true]
    by_cases h:i<0
    · simp only[h,if_true]<;>omega
    · simp only[h,if_false]<;>omega
 · cases hi with
   | none=>simp[sliceBounds,HT.sIx]
   | some i =>
    simp only[sliceBounds,HT.sIx,Option.getD_none,show(1:Int) > 0 by decide,if_true]
    by_cases h:i<0
    · simp only[h,if_true]<;>omega
    · simp only[h,if_false]<;>omega
theorem za8(its:List Value)(lo hi:Option Int):slicePick its.toArray lo hi none=((its.drop (HT.sIx its.length 0 lo)).take (HT.sIx its.length its.length hi-HT.sIx its.length 0 lo)).toArray:=by
 obtain⟨h1,h2,h3⟩:=zbD lo hi its.toArray.size
 unfold slicePick
 rw[h1,h2,h3]
 simp only[sliceRange_one,pick_run,List.size_toArray]<;>rfl
def rSlL(K:PySem.W.Frag):V→Option Int→Option Int→Hp→VK→Prop:=fun x lo hi H Q=>∃ a xs,x = .ref a∧SqL K H a xs∧∀ p,H p=none→Q (.ref p) (upd H p (.lst (cutV xs lo hi)))
theorem znG:SlR X (rSlL X.K):=by
 intro pins s σ H x v vl vu lo hi sl Q I rx hs pl pu h
 obtain⟨a,xs,rfl,hx,q⟩:=h
 cases rx
 obtain⟨its,r,ht,hz⟩:=I.list hx
 have hlen:=r.length
 refine⟨"list",_,slot_list_getitem.lookup,ht.isList.typeIs,?_⟩
 refine wpAny_getItem_list_slice ht.isList hs pl pu .none (by simp) ?_ (by rw[List.size_toArray]<;>omega)
 rw[za8,←hlen]
 refine⟨.ref s.heap.objs.size,_,I.laid (t':=s.toks) (o := .lst (cutV xs lo hi)) (fun b ob q=>Heap.get?_push_of_some _ q) (Nat.le_refl _) ?_,rfl,q _ (I.hok.fresh (Nat.le_refl _))⟩
 exact⟨Nat.le_trans (zcn xs lo hi) hz,_,0,(r.drop (HT.sIx xs.length 0 lo)).take (HT.sIx xs.length xs.length hi-HT.sIx xs.length 0 lo),Heap.get?_push_size _ rfl⟩
theorem z4f:CallR X (.builtin "len") (fun xs H Q=>∃ p ys,xs=[.ref p]∧(SqL X.K H p ys∨SqT X.K H p ys)∧Q (.int ys.length) H):=by
 intro pins s σ H xs us Q I r h
 obtain⟨p,ys,rfl,hq,q⟩:=h
 obtain⟨u,rfl,rx⟩:=zhR r
 cases rx
 have hn:=z75
 rcases hq with hq|hq
 · obtain⟨its,r',pl,hz⟩:=I.list hq
   have hlen:=r'.length
   exact Calls.call_len_list pl.isList (by simp only[List.size_toArray]<;>omega) ⟨.int ys.length,H,I.tok _,⟨s.toks+1,by rw[List.size_toArray,hlen]⟩,q⟩
 · obtain⟨its,r',pl,hz⟩:=I.tuple hq
   have hlen:=r'.length
   exact len_tuple pl (by simp only[List.size_toArray]<;>omega) ⟨.int ys.length,H,I.tok _,⟨s.toks+1,by rw[List.size_toArray,hlen]⟩,q⟩
theorem CallR.or{f:Value}{r r':List V→Hp→VK→Prop}(h:CallR X f r)(h':CallR X f r'):CallR X f (fun xs H Q=>r xs H Q∨r' xs H Q):=by
 intro pins s σ H xs us Q I rs q
 rcases q with q|q
 · exact h pins s σ H xs us Q I rs q
 · exact h' pins s σ H xs us Q I rs q
theorem z6m:CallR X (.type "list") (fun xs H Q=>∃ p ys,xs=[.ref p]∧(SqL X.K H p ys∨SqT X.K H p ys)∧∀ l,H l=none→Q (.ref l) (upd H l (.lst ys))):=by
 intro pins s σ H xs us Q I r h
 obtain⟨p,ys,rfl,hq,q⟩:=h
 obtain⟨u,rfl,rx⟩:=zhR r
 cases rx
 have fin:∀(its:List Value),Vals ys its→ys.length≤sizeLine→∀(h':Heap) (c':Nat),(∀ b o',s.heap.get? b=some o'→h'.get? b=some o') →
    h'.get? s.heap.objs.size=some { cls := .type "list",dict:=none,data := .seq its.toArray c',slots:=#[] }→EP X pins σ Q (.ref s.heap.objs.size) { s with heap:=h' }:=fun its r' hz h' c' kp e =>
   ⟨.ref s.heap.objs.size,_,I.laid (t':=s.toks) kp (Nat.le_refl _) (show ObjOk X.prog X.w _ h' _ (.lst ys) from⟨hz,its,c',r',e⟩),rfl,q _ (I.hok.fresh (Nat.le_refl _))⟩
 rcases hq with hq|hq
 · obtain⟨its,r',pl,hz⟩:=I.list hq
   have hlen:=r'.length
   obtain⟨o,ho,hc,n,hd⟩:=pl.isList
   exact call_list_seq p (.inl rfl) ho hc hd (fun h' c' kp e=>fin its r' hz h' c' kp e) (by simp only[List.size_toArray]<;>omega)
 · obtain⟨its,r',pl,hz⟩:=I.tuple hq
   have hlen:=r'.length
   obtain⟨o,ho,hc,n,hd⟩:=pl
   exact call_list_seq p (.inr rfl) ho hc hd (fun h' c' kp e=>fin its r' hz h' c' kp e) (by simp only[List.size_toArray]<;>omega)
theorem z5U:CallR X (.type "tuple") (fun xs H Q=>∃ p ys,xs=[.ref p]∧((SqL X.K H p ys∧∀ l,H l=none→Q (.ref l) (upd H l (.tup ys)))∨(SqT X.K H p ys∧Q (.ref p) H))):=by
 intro pins s σ H xs us Q I r h
 obtain⟨p,ys,rfl,h⟩:=h
 obtain⟨u,rfl,rx⟩:=zhR r
 cases rx
 rcases h with⟨hq,q⟩|⟨hq,q⟩
 · obtain⟨its,r',pl,hz⟩:=I.list hq
   have hlen:=r'.length
   refine call_tuple_list pl.isList (fun h' kp=>?_) (by simp only[List.size_toArray]<;>omega)
   have I1:Inv X pins σ H { s with heap:=h' }:=I.kept (t':=s.toks) kp
   have I2:Inv X pins σ (upd H h'.objs.size (.tup ys)) { s with heap:=h'.push { cls := .type "tuple",data := .seq its.toArray } } :=
    I1.laid (t':=s.toks) (fun b o e=>Heap.get?_push_of_some _ e) (Nat.le_refl _) (show ObjOk X.prog X.w _ _ _ (.tup ys) from⟨hz,its,r',IsTup.new _ _⟩)
   exact⟨.ref h'.objs.size,_,I2,rfl,q _ (I1.hok.fresh (Nat.le_refl _))⟩
 · obtain⟨its,r',pl,hz⟩:=I.tuple hq
   exact call_tuple_same pl ⟨.ref p,H,I,rfl,q⟩
def tyV(K:PySem.W.Frag)(T:String)(x:V)(H:Hp):Prop:=match x with
 | .str _=>T = "str"
 | .int _=>T = "int"
 | .ref p=>(T = "list" ∧ ∃ xs,SqL K H p xs)∨(T = "tuple" ∧ ∃ o,K.lookup p=some o∧o.cls = .type "tuple" ∧ o.dict=none) ∨
  (T = "dict" ∧ ((∃ kvs,H p=some (.dK kvs))∨∃ kvs,H p=some (.dT kvs)))∨(T = "set" ∧ ∃ S n,H p=some (.set S n))
 | _=>False
theorem tyV_is{pins:List (Addr×Obj)}{σ:St}{H:Hp}{s:Shared}{T:String}{x:V}{v:Value}(I:Inv X pins σ H s)(r:RelV x v)(ty:tyV X.K T x H):
  s.TypeIs v T∧∀ a,v = .ref a→∃ ob,s.heap.get? a=some ob∧ob.dict=none:=by
 cases x with
 | str z =>
  obtain⟨t,rfl⟩:=r
  cases (show T = "str" from ty)
  exact⟨typeIs_str s z t,fun _ e=>nomatch e⟩
 | int i =>
  obtain⟨t,rfl⟩:=r
  cases (show T = "int" from ty)
  exact⟨typeIs_int s i t,fun _ e=>nomatch e⟩
 | ref p =>
  cases r
  rcases ty with⟨rfl,xs,hq⟩|⟨rfl,o,hk,hc,hd⟩|⟨rfl,hk⟩|⟨rfl,S,n,hk⟩
  · obtain⟨its,_,pl,_⟩:=I.list hq
    refine⟨pl.isList.typeIs,fun a e=>?_⟩
    cases e
    obtain⟨o,n,e,c,hd,_⟩:=pl
    exact⟨o,e,hd⟩
  · refine⟨⟨o,I.kIn p o hk,hc⟩,fun a e=>?_⟩
    cases e
    exact⟨o,I.kIn _ o hk,hd⟩
  · have z:∃ o,s.heap.get? p=some o∧o.ExactDict:=by
     rcases hk with⟨kvs,hk⟩|⟨kvs,hk⟩
     · obtain⟨_,_,_,_,o,_,_,e,ex,_⟩:=I.hok p _ hk
       exact⟨o,e,ex⟩
     · obtain⟨_,_,_,_,o,_,_,e,ex,_⟩:=I.hok p _ hk
       exact⟨o,e,ex⟩
    obtain⟨o,e,ex⟩:=z
    refine⟨⟨o,e,ex.1⟩,fun a e2=>?_⟩
    cases e2
    exact⟨o,e,ex.2.1⟩
  · obtain⟨o,_,_,_,e,ex,_⟩:=I.hok p _ hk
    refine⟨⟨o,e,ex.1⟩,fun a e2=>?_⟩
    cases e2
    exact⟨o,e,ex.2.1⟩
 | _=>exact False.elim ty
def tBM(K:PySem.W.Frag)(T:String)(r:V→List V→Hp→VK→Prop)(to:TE)(t:TA):TE:=fun σ H Q=>to σ H fun x H1=>tyV K T x H1∧t σ H1 fun xs H2=>r x xs H2 Q
variable {o e:Expr}{es:List Expr}{to:TE}{t:TA}{name:Str}{apos cpos:Pos}{T id:String}{r:V→List V→Hp→VK→Prop}
theorem pe_bm(pa:PlainAttrs T)(slot:Slot T name id)(hty:typeOf (.builtin id)=pure (.type "method_descriptor"))(hm:MtR X id r)(ho:PE X o to)(ha:PA X (e::es) t)
  (hbase:attributeBase o name X.env (eval o X.env)=eval o X.env:=by rfl)
  (hfew:((backTo cpos (starEach (e::es) X.env)).all (fun x=>!x.1)&&(backToKw cpos (keywordEach [] X.env)).all (fun x=>x.1.isSome)
   && decide ((e::es).length+([]:List Keyword).length+(if([]:List Keyword).isEmpty then 0 else 1)<30))=true:=by rfl)
  (hline:(apos.endLine==cpos.line)=true:=by rfl) (hs:starEach (e::es) X.env=(false,eval e X.env)::starEach es X.env:=by rfl) (hplain:(backTo cpos (starEach es X.env)).any (·.1)=false:=by rfl) :
  PE X (.Call (.Attribute o name apos) (e::es) [] cpos) (tBM X.K T r to t):=by
 intro pins s σ H Q I h
 refine wpAny_Call_method_late hbase hfew hline rfl (thn (ho pins s σ H _ I h) ?_)
 rintro v s1 ⟨x,H1,I1,r1,ty,q1⟩
 obtain⟨h1,h2⟩:=tyV_is I1 r1 ty
 refine⟨T,id,pa,slot,hty,h1,h2,?_⟩
 have hA:=ha cpos pins s1 σ H1 _ I1 q1
 rw[hs]at hA ⊢
 refine Calls.callWith_builtin (by show(false||(backTo cpos (starEach es X.env)).any (·.1))=false;rw[hplain]<;>rfl) (Calls.evalArgs_plain ?_)
 exact thn hA fun us s2 hZ=>hZ.elim fun vs hZ=>hZ.elim fun H2 hZ=>hZ.elim fun I2 hZ=>hZ.elim fun r2 q2=>hm pins s2 σ H2 x vs v us Q I2 r1 r2 q2
end
end L2
namespace L2
open PySem PySem.Spec PyProof.Rows
def MtM(X:Cx)(id:String)(r:V→List V→Hp→VK→Prop):Prop :=
 ∀(pins:List (Addr×Obj)) (s:Shared) (σ:St) (H:Hp) (x:V) (xs:List V) (v:Value) (us:List Value) (Q:VK),Inv X pins σ H s→RelV x v→Vals xs us→r x xs H Q →
  wpAny (model X.prog X.w) X.A (call (.builtin id) (v::us)) (EP X pins σ Q) X.xe s
theorem Vals.zero:∀{us:List Value},Vals [] us→us=[]
 | _,.nil=>rfl
theorem Vals.uncons{x:V}{xs:List V}{us:List Value}(h:Vals (x::xs) us):∃ u vs,us=u::vs∧RelV x u∧Vals xs vs:=by
 cases h with
 | cons r t=>exact⟨_,_,rfl,r,t⟩
theorem Vals.one{x:V}{us:List Value}(h:Vals [x] us):∃ u,us=[u]∧RelV x u:=by
 obtain⟨u,vs,e,r,t⟩:=h.uncons
 rw[t.zero]at e
 exact⟨u,e,r⟩
theorem Vals.two{x y:V}{us:List Value}(h:Vals [x,y] us):∃ u v,us=[u,v]∧RelV x u∧RelV y v:=by
 obtain⟨u,vs,e,r,t⟩:=h.uncons
 obtain⟨v,e2,q⟩:=t.one
 rw[e2]at e
 exact⟨u,v,e,r,q⟩
theorem Vals.reverse{xs:List V}{us:List Value}(h:Vals xs us):Vals xs.reverse us.reverse:=by
 induction h with
 | nil=>exact .nil
 | cons r t ih=>rw[List.reverse_cons,List.reverse_cons];exact Vals.append ih (.cons r .nil)
section
variable {X:Cx}{pins:List (Addr×Obj)}{σ:St}{H:Hp}{s:Shared}{l b:Addr}{xs ys zs:List V}
theorem Inv.lset{its its':List Value}{n:Nat}{f:Array Value→Array Value}{t':Nat}(I:Inv X pins σ H s)(hH:H l=some (.lst xs))
  (e:s.heap.get? l=some { cls := .type "list",data := .seq its.toArray n }) (hf:f its.toArray=its'.toArray) (hv:Vals ys its') (hz:ys.length≤sizeLine) :
  Inv X pins σ (upd H l (.lst ys)) { s with heap:=s.heap.update l (Obj.mapSeq f),toks:=t' }:=by
 have q:=PySem.IsL.update e f
 rw[hf]at q
 refine I.write (x:=l) (e:=l) (by rw[hH];exact trivial) (.inl rfl) (fun b' u hb hu=>(Heap.get?_update_other s.heap (Obj.mapSeq f) (Ne.symm hb)).trans hu) ⟨_,q⟩ ?_
 exact⟨hz,its',_,hv,q⟩
theorem Inv.lnew{its:List Value}{t':Nat}(I:Inv X pins σ H s)(hv:Vals ys its)(hz:ys.length≤sizeLine):
  Inv X pins σ (upd H s.heap.objs.size (.lst ys)) { s with heap:=s.heap.push { cls := .type "list",data := .seq its.toArray },toks:=t' } :=
 I.laid (fun _ _ q=>Heap.get?_push_of_some _ q) (Nat.le_refl _) ⟨hz,its,0,hv,Heap.get?_push_size _ rfl⟩
theorem Inv.fresh(I:Inv X pins σ H s):H s.heap.objs.size=none:=I.hok.fresh (Nat.le_refl _)
theorem Inv.lstM(I:Inv X pins σ H s)(hH:H l=some (.lst xs)):xs.length≤sizeLine∧∃(its:List Value) (n:Nat),Vals xs its∧xs.length=its.length∧s.heap.get? l=some { cls := .type "list",data := .seq its.toArray n }:=by
 obtain⟨z,its,n,r,e⟩:=I.hok l _ hH
 exact⟨z,its,n,r,r.length,e⟩
theorem zjR{n:Nat}(h:n≤sizeLine):Builtin.List.listTooLong n=false:=by
 unfold Builtin.List.listTooLong
 exact decide_eq_false (by omega)
end
section
variable {X:Cx}
def znH:V→List V→Hp→VK→Prop:=fun x vs H Q=>∃ l xs y,x = .ref l∧vs=[y]∧H l=some (.lst xs)∧xs.length<sizeLine∧Q .non (upd H l (.lst (xs++[y])))
theorem zal:MtM X "list.append" znH:=by
 intro pins s σ H x vs v us Q I rx rv h
 obtain⟨l,xs,y,rfl,rfl,hH,hz,q⟩:=h
 cases rx
 obtain⟨u,rfl,ru⟩:=rv.one
 obtain⟨z,its,n,r,hl,e⟩:=I.lstM hH
 refine call_meets F.slot_list_append ⟨_,e,rfl⟩ F.entry_list_append (F.args_list_append_2 _ _) (PySem.list_append l its.toArray n u (by rw[List.size_toArray];omega)) ⟨e,?_⟩
 refine⟨.non,_,I.lset (its':=its++[u]) hH e (by simp) (r.append (.cons ru .nil)) ?_,rfl,q⟩
 rw[List.length_append,List.length_singleton]
 omega
def znI:V→List V→Hp→VK→Prop:=fun x vs H Q=>∃ l b xs zs,x = .ref l∧vs=[.ref b]∧H l=some (.lst xs)∧H b=some (.lst zs)∧xs.length+zs.length≤sizeLine∧Q .non (upd H l (.lst (xs++zs)))
theorem ziU:MtM X "list.extend" znI:=by
 intro pins s σ H x vs v us Q I rx rv h
 obtain⟨l,b,xs,zs,rfl,rfl,hH,hB,hz,q⟩:=h
 cases rx
 obtain⟨u,rfl,ru⟩:=rv.one
 cases ru
 obtain⟨z,its,n,r,hl,e⟩:=I.lstM hH
 obtain⟨z2,its2,n2,r2,hl2,e2⟩:=I.lstM hB
 have hsz:its.toArray.size+its2.toArray.size≤sizeLine:=by rw[List.size_toArray,List.size_toArray];omega
 have hlong:¬(!its.toArray.isEmpty&&Builtin.List.listTooLong (its.toArray.size+its2.toArray.size))=true:=by
  rw[zjR hsz,Bool.and_false]
  exact Bool.false_ne_true
 refine call_meets F.slot_list_extend ⟨_,e,rfl⟩ F.entry_list_extend (F.args_list_extend_2 _ _)
  (AutoSeq1.list_extend_list_list_0 l its.toArray n b its2.toArray n2 hlong (by rw[List.size_toArray];omega) (by omega)) ⟨e,e2,?_⟩
 refine⟨.non,_,I.lset (its':=its++its2) hH e (by simp) (r.append r2) ?_,rfl,q⟩
 rw[List.length_append]
 omega
def rCat:R2:=fun x y H Q=>∃ l b xs zs,x = .ref l∧y = .ref b∧H l=some (.lst xs)∧H b=some (.lst zs)∧xs.length+zs.length≤sizeLine∧∀ p,H p=none→Q (.ref p) (upd H p (.lst (xs++zs)))
theorem op_cat:OpR X (binaryOp .Add) rCat:=by
 intro pins s σ H x y v u Q I rx ry h
 obtain⟨l,b,xs,zs,rfl,rfl,hH,hB,hz,q⟩:=h
 cases rx
 cases ry
 obtain⟨z,its,n,r,hl,e⟩:=I.lstM hH
 obtain⟨z2,its2,n2,r2,hl2,e2⟩:=I.lstM hB
 refine PySem.P.add_list e e2 ?_ (by rw[List.size_toArray,List.size_toArray];omega)
 have ea:its.toArray++its2.toArray=(its++its2).toArray:=by simp
 rw[ea]
 exact⟨.ref _,_,I.lnew (t':=s.toks) (r.append r2) (by rw[List.length_append];omega),rfl,q _ I.fresh⟩
end
section
variable {prog:Program}{w:World}{A:Around}{E:Value→Shared→Prop}{s:Shared}
end
section
variable {X:Cx}
end
end L2
namespace Att
open PySem PySem.W PySem.Calls PyProof.Rows
theorem z8m{P:Params}{h:Heap}:∀(ns:List Int) (vs:List Value),WellAll P h vs (ns.map WData.int)→IntsAre vs ns:=by
 intro ns
 induction ns with
 | nil =>
  intro vs w
  rw[List.map_nil]at w
  cases w
  exact .nil
 | cons n ns ih =>
  intro vs w
  rw[List.map_cons]at w
  cases w with
  | cons a b =>
   cases a
   exact .cons _ _ (ih _ b)
theorem ziV{l:OpenLaw}{n:Nat}(hn:l.most=some n){P:Params}{h:Heap}{args:List WData}{vals:List Value}
  (hpre:l.row.toRowW.claim.pre args=true) (hwl:WellAll P h vals args) :
  ∃ a vs ns,vals=[Value.ref a]∧args=[WData.list (ns.map WData.int)]∧h.get? a=some { cls := .type "list",data := .seq vs.toArray }∧IntsAre vs ns∧ns.length≤n:=by
 have hsh:WShape.hasAll [] args [.list .int]=true:=(pre_splitW hpre).1
 have hc:l.pre.holds [] { args:=args }=true:=(pre_splitW hpre).2
 obtain⟨d,r,rfl,h1,h2⟩:=hasAllW_cons hsh
 obtain rfl:=hasAllW_nil h2
 obtain⟨xs,rfl,h3⟩:=hasW_list h1
 obtain⟨ns,rfl⟩:=items_int h3
 have hlen:ns.length≤n:=by
  unfold OpenLaw.pre at hc
  have h4:(WTm.not (.lt (.lit (.int (n:Int))) (.len (.arg 0)))).holds [] { args:=[.list (ns.map .int)] }=true:=by
   have h4:=(holds_andW hc).1
   rw[hn]at h4
   exact h4
  have h5:=condW_of h4 (w_not (w_lt w_lit (w_len_list (w_arg rfl))))
  rw[List.length_map]at h5
  refine Nat.le_of_not_lt fun q=>?_
  have q':(n:Int)<((ns.length:Nat):Int):=by omega
  first
   | (rw[decide_eq_true q']at h5;exact absurd h5 (by decide))
   | (simp at h5;omega)
 cases hwl with
 | cons w1 w2 =>
  cases w2
  cases w1 with
  | list ho hall=>exact⟨_,_,ns,rfl,rfl,ho,z8m ns _ hall,hlen⟩
theorem ziW(l:OpenLaw)(args:List WData):l.row.toRowW.claim.post args (.bool true) args=true :=
 postW_of (r:=l.row.toRowW) (X:=(true==true))
  (show WShape.has [] (.bool true) .bool=true by first|rfl|decide|simp[WShape.has,WShape.arms,WShape.armsAll])
  (show(WTm.eq .res (.lit (.bool true))).value [] { args:=args,res:=some (.bool true),after:=args }=some (.bool (true==true))from w_eq_bool (w_res rfl) w_lit) rfl
theorem attach_call{l:OpenLaw}{n:Nat}{q:Program}{loose:List Str}{XP:(Str→Option Value)→Heap→Prop}{YP:World→Heap→Prop}{d:DefRec}
  (hn:l.most=some n) (hdf:d.params.defaults=[])
  (call:∀(w:World) (s₀ s₁:Shared) (mg mb:Str→Option Value) (fa:Addr) (o:Obj) (pm cd doc:Value) (a:Addr) (vs:List Value) (ns:List Int),
   Ground q loose [] XP w s₀ mg mb s₁.heap→YP w s₁.heap →
   s₁.heap.get? fa=some o→o.data = .func (docDef d.name d.params d.body d.scope pm cd doc)→s₁.heap.CodeRec cd d.name→mg d.name=some (.ref fa) →
   s₁.heap.get? a=some { cls := .type "list",data := .seq vs.toArray }→IntsAre vs ns→ns.length≤n→s₁.gens=#[] →
   codeAny (model l.prog w) callerA (.call (.ref fa) ⟨[.ref a],[]⟩) (fun r s'=>r = .ok (.ret (.bool true))∧OldK s₁.heap s'.heap∧s'.os=s₁.os∧AllBare s'.gens) s₁) :
  WalkO q loose XP YP l.row.toRowW d [] (fun f vs=>PySem.call f vs):=by
 intro w s₀ s₁ mg mb G Y fa o pm cd doc dV kV ho hd hcd hD hmg hg args vals as hpre hlay hrd hwl hlo
 obtain rfl:dV = .none:=Dflts.none hD hdf
 obtain rfl:kV = .none:=Dflts.noKw hD
 obtain⟨a,vs,ns,rfl,rfl,hobj,hints,hlen⟩:=ziV hn hpre hwl
 refine enter_call (codeAny_mono (call w s₀ s₁ mg mb fa o pm cd doc a vs ns G Y ho (fd_plain hd) hcd hmg hobj hints hlen hg) fun r s' hq=>?_)
 obtain⟨rfl,h2,h3,h4⟩:=hq
 exact⟨.inl ⟨.bool true,.bool true,[],rfl,fun _=>rfl,.bool true,ziW l _,fun _=>⟨List.Pairwise.nil,fun _ hm=>(nomatch hm)⟩⟩,h2,h3,h4⟩
section
variable {prog:Program}{w:World}{A:Around}{E:Value→Shared→Prop}{s:Shared}{K:Frag}
end
end Att
namespace L2
open PySem PySem.Spec PyProof.Rows
theorem zam:∀{vs:List Value} {ns:List Int},IntsAre vs ns→Vals (ns.map V.int) vs
 | _,_,.nil => .nil
 | _,_,.cons n t h => .cons ⟨t,rfl⟩ (zam h)
def Only(H:Hp):Prop:=∀ b,H b=none∨∃ o xs,H b=some (.frz o (.lst xs))
theorem zjS{P:Program}{w:World}{K:PySem.W.Frag}{mg mb:Str→Option Value}{CX:CXT}{k:Nat}{fa a:Addr}{fd:FuncData}{x:Str}{sp:Sp}{s₁:Shared}{vs:List Value}{ns:List Int}
  (KX:K.In s₁.heap) (hns:s₁.heap.Ns mainGlobals mg) (hb:s₁.heap.Ns builtinsNs mb) (hbb:∀ x:Str,x ≠ "__name__" → mb x=bootBuiltins x) (hlim:s₁.heap.NoLimit) (hg:s₁.gens=#[])
  (ha:s₁.heap.get? a=some { cls := .type "list",data := .seq vs.toArray }) (hi:IntsAre vs ns) (hl:ns.length≤sizeLine) (hr:Room k callerA)
  (F:∀ base:Heap,K.In base→base.Ns mainGlobals mg→FnOk P w K mg base CX k fa fd [x] sp) (hbind:∀(s:Shared) (u:Value),BindsTo s fd ⟨[u],[]⟩ [(x,u)])
  (hsp:∀ H:Hp,Only H→SqL K H a (ns.map V.int)→sp [.ref a] H (fun v _=>v = .bl true) fun _ _ _=>False)
  (hCX:∀ H e s',CX [] H s₁ (fun _ _ _=>False) e s'→False) :
  codeAny (model P w) callerA (.call (.ref fa) ⟨[.ref a],[]⟩) (fun r s'=>r = .ok (.ret (.bool true))∧OldK s₁.heap s'.heap∧s'.os=s₁.os∧AllBare s'.gens) s₁:=by
 have rv:=zam hi
 have lenV:=hi.length
 have core:∀ H:Hp,Only H→SqL K H a (ns.map V.int)→HOk P w H s₁.heap→(∀ b,H b≠none→b=a)→(H a≠none→K.lookup a=none) →
    codeAny (model P w) callerA (.call (.ref fa) ⟨[.ref a],[]⟩) (fun r s'=>r = .ok (.ret (.bool true))∧OldK s₁.heap s'.heap∧s'.os=s₁.os∧AllBare s'.gens) s₁:=by
  intro H hO hS hok hA hK
  have base_of:∀{b:Addr} {o:Obj},s₁.heap.get? b=some o→H b=none→(hidT s₁.heap H).get? b=some o:=fun e n=>zjE e n
  have noA:∀{b:Addr} {o:Obj} {es:Array DictEntry} {ep:Nat},s₁.heap.get? b=some o→o.data = .dict es ep→H b=none:=fun{b o es ep} e d=>by
    cases q:H b with
    | none=>rfl
    | some u =>
      have e':b=a:=hA b (by rw[q];simp)
      subst e'
      rw[ha]at e;cases e
      have d':Data.seq vs.toArray _=Data.dict es ep:=d
      cases d'
  have nsK:∀{b:Addr} {m:Str→Option Value},s₁.heap.Ns b m→(hidT s₁.heap H).Ns b m:=fun{b m} ⟨o,es,ep,e,d,r⟩=>⟨o,es,ep,base_of e (noA e d),d,r⟩
  have hKb:K.In (hidT s₁.heap H):=fun b o e=>base_of (KX b o e) (by
    cases q:H b with
    | none=>rfl
    | some u =>
      have e':b=a:=hA b (by rw[q];simp)
      subst e'
      rw[hK (by rw[q];simp)]at e;cases e)
  have hM:Mod K mg (hidT s₁.heap H):=⟨hKb,nsK hns,⟨mb,nsK hb,hbb⟩,let ⟨mc,h1,h2⟩:=hlim;⟨mc,nsK h1,h2⟩⟩
  have e0:Env0 P w K mg (hidT s₁.heap H) callerA [] s₁ H:=⟨rfl,hM,fun b o e=>znr e,Nat.le_of_eq (ziN _ _),trivial,fun b hb=>absurd (show b∈([]:List Addr)from hb) (by simp),hok,.of_eq hg⟩
  refine codeAny_mono ((F _ hKb (nsK hns)).run callerA [] s₁ H ⟨[.ref a],[]⟩ [.ref a] [.ref a] _ _ hr e0 (hbind s₁ (.ref a)) (.cons rfl .nil) (hsp H hO hS)) fun r s' h=>?_
  cases r with
  | error e=>exact(hCX H e s' h).elim
  | ok fl =>
    cases fl with
    | next=>exact False.elim h
    | brk=>exact False.elim h
    | cont=>exact False.elim h
    | ret u =>
      obtain⟨v,H',os,bare,un,hok',r',q⟩:=h
      have q':v = .bl true:=q
      subst q'
      obtain rfl:u=Value.bool true:=r'
      refine⟨rfl,OldK.of_keep fun b o e=>?_,os,bare⟩
      cases q:H b with
      | none=>exact un.keep b o e q (by intro z;exact absurd (show b∈([]:List Addr)from z) (by simp)) (by simp)
      | some u =>
       rcases hO b with z|⟨ob,xs,z⟩
       · rw[q]at z;cases z
       · have z2:=un.frzs b ob _ z
         obtain⟨e1,_⟩:=hok b _ z
         obtain⟨e2,_⟩:=hok' b _ z2
         rw[e]at e1;cases e1
         exact e2
 cases hk:K.lookup a with
 | some o =>
  have e:=KX a o hk
  rw[ha]at e
  cases e
  refine core (fun _=>none) (fun _ => .inl rfl) (.inr ⟨_,vs.toArray,_,hk,rfl,rfl,rfl,by rw[List.size_toArray,lenV];exact hl,by simpa using rv⟩) (fun b u z=>by have z':(none:Option HO)=some u:=z;cases z') (fun b z=>absurd rfl z) fun z=>absurd rfl z
 | none =>
  refine core (fun b=>if b=a then some (.frz { cls := .type "list",data := .seq vs.toArray } (.lst (ns.map V.int))) else none) (fun b=>?_) (.inl (.inr ⟨{ cls := .type "list",data := .seq vs.toArray },if_pos rfl⟩)) (fun b u z=>?_) (fun b z=>?_) fun _=>hk
  · by_cases hb:b=a
    · exact .inr ⟨_,_,if_pos hb⟩
    · exact .inl (if_neg hb)
  · by_cases hb:b=a
    · have z':=(if_pos hb).symm.trans z
      cases z'
      subst hb
      exact⟨ha,by rw[List.length_map];exact hl,vs,_,rv,ha⟩
    · have z':=(if_neg hb).symm.trans z
      cases z'
  · by_cases hb:b=a
    · exact hb
    · exact absurd (if_neg hb) z
end L2
namespace L2
open PySem PySem.Spec PyProof.Rows
theorem znJ{l:PySem.W.OpenLaw}{n k:Nat}{q:Program}{loose:List Str}{XP:(Str→Option Value)→Heap→Prop}{YP:World→Heap→Prop}{d:DefRec}{K:Params→PySem.W.Frag}{CX:World→CXT}{sp:World→Sp}{x:Str}
  (hn:l.most=some n) (hn2:n≤sizeLine) (hdf:d.params.defaults=[]) (hr:Room k callerA)
  (hY:∀(w:World) (h:Heap),YP w h→(K w.params).In h)
  (F:∀(w:World) (mg:Str→Option Value) (fa:Addr) (h:Heap),(K w.params).In h→h.Ns mainGlobals mg→mg d.name=some (.ref fa) →
   ∃ fd:FuncData,(∀(s:Shared) (u:Value),BindsTo s fd ⟨[u],[]⟩ [(x,u)]) ∧
    ∀ base:Heap,(K w.params).In base→base.Ns mainGlobals mg→FnOk l.prog w (K w.params) mg base (CX w) k fa fd [x] (sp w))
  (hsp:∀(w:World) (H:Hp) (a:Addr) (ns:List Int),ns.length≤n→Only H→SqL (K w.params) H a (ns.map V.int)→sp w [.ref a] H (fun v _=>v = .bl true) fun _ _ _=>False)
  (hCX:∀(w:World) (H:Hp) (s:Shared) (e:Value) (s':Shared),CX w [] H s (fun _ _ _=>False) e s'→False) :
  PySem.W.WalkO q loose XP YP l.row.toRowW d [] (fun f vs=>PySem.call f vs):=by
 refine Att.attach_call hn hdf fun w s₀ s₁ mg mb fa o pm cd doc a vs ns G Y ho hd hcd hmg hobj hints hlen hg=>?_
 have KX:=hY w _ Y
 obtain⟨fd,hb,hF⟩:=F w mg fa _ KX G.T.g hmg
 exact zjS KX G.T.g G.T.b G.T.builtins G.T.nolimit hg hobj hints (Nat.le_trans hlen hn2) hr hF hb (fun H hO hS=>hsp w H a ns hlen hO hS) fun H e s'=>hCX w H s₁ e s'
end L2
namespace L2
open PySem PySem.Spec PyProof.Rows
def z2A(s:Stmt):Arguments:=match s with
 | .FunctionDef _ a _ _ _ _ _ _ _ _=>a
 | _=>{ posonlyargs:=[],args:=[],vararg:=none,kwonlyargs:=[],kw_defaults:=[],kwarg:=none,defaults:=[] }
def z1K(s:Stmt):List Stmt:=match s with
 | .FunctionDef _ _ b _ _ _ _ _ _ _=>b
 | _=>[]
def z04(s:Stmt):Scope:=match s with
 | .FunctionDef _ _ _ _ _ _ sc _ _ _=>sc
 | _=>{ kind := .function,names:=[],isGenerator:=false,isCoroutine:=false }
abbrev CX0:CXT:=fun _ _ _ _ _ _=>False
abbrev E0:XK:=fun _ _ _=>False
theorem pass0{X:Cx}:zdM CX0 X E0:=fun _ _ _ _ _ _ _ h=>h.elim
structure Fun(K:PySem.W.Frag)(x qual:Str)(st:Stmt)(f:Addr)(fd:FuncData):Prop where
 ex:∃(oc:Value) (od:Option Addr) (kV doc pm:Value) (an:Option Addr) (cdv ct:Value) (osl:Array (Option Value)),
  fd=PySem.W.fnOf x qual (z2A st) (z1K st) (z04 st) .none kV doc pm an cdv ct∧K.lookup f=some ⟨oc,od,.func fd,osl⟩∧PySem.W.codeIn K cdv qual=true
 kp:PySem.W.keepIn K (.ref f)=true
section
variable {P:Program}{w:World}{K:PySem.W.Frag}{mg:Str→Option Value}{base:Heap}
theorem Fun.ok{x qual:Str}{st:Stmt}{f:Addr}{fd:FuncData}{N ps:List Str}{k:Nat}{sp:Sp}(F:Fun K x qual st f fd)(S:FnScope N ps (z04 st))(len:∀ vs H Q E,sp vs H Q E→vs.length=ps.length)
  (hbody:∀(cdv:Value) (A:Around) (outer:List Env) (s:Shared) (H:Hp) (vs:List V) (Q:VK) (E:XK),Room k (A.deeper (envOfC qual (z04 st) s.heap.objs.size f cdv))→sp vs H Q E →
   ∃ t,PSs (cxOf CX0 P w K mg base N qual (z04 st) f cdv A outer s H E).nox (z1K st) t∧t { nx:=fun _ H'=>Q .non H',rt:=Q } (start N vs) H):FnOk P w K mg base CX0 (k+1) f fd ps sp:=by
 obtain⟨oc,od,kV,doc,pm,an,cdv,ct,osl,rfl,lk,hcd⟩:=F.ex
 refine fn_of lk hcd S len fun A outer s H vs Q E hr hsp=>?_
 obtain⟨t,h,q⟩:=hbody cdv A outer s H vs Q E hr hsp
 exact⟨t,h.nox,q⟩
theorem Fun.binds{x qual:Str}{st:Stmt}{f:Addr}{fd:FuncData}{ps:List Str}(F:Fun K x qual st f fd)
  (h:∀(kV doc pm:Value) (an:Option Addr) (cdv ct:Value) (us:List Value),us.length=ps.length→bindArgs (PySem.W.fnOf x qual (z2A st) (z1K st) (z04 st) .none kV doc pm an cdv ct) ⟨us,[]⟩=pure (ps.zip us)):Binds K fd ps []:=by
 obtain⟨oc,od,kV,doc,pm,an,cdv,ct,osl,rfl,lk,hcd⟩:=F.ex
 exact .all (h kV doc pm an cdv ct)
theorem zjT{x qual:Str}{st:Stmt}{f:Addr}{oc:Value}{od an:Option Addr}{osl:Array (Option Value)}{kV doc pm cdv ct:Value}(l:K.lookup f=some ⟨oc,od,.func (PySem.W.fnOf x qual (z2A st) (z1K st) (z04 st) .none kV doc pm an cdv ct),osl⟩)
 (c:PySem.W.codeIn K cdv qual=true) (k:PySem.W.keepIn K (.ref f)=true):Fun K x qual st f (PySem.W.fnOf x qual (z2A st) (z1K st) (z04 st) .none kV doc pm an cdv ct):=⟨⟨oc,od,kV,doc,pm,an,cdv,ct,osl,rfl,l,c⟩,k⟩
end
section
variable {X:Cx}
end
def Same(H H':Hp):Prop:=∀ b o,H b=some o→H' b=some o
theorem Same.refl(H:Hp):Same H H:=fun _ _ h=>h
theorem Same.trans{H H1 H2:Hp}(a:Same H H1)(b:Same H1 H2):Same H H2:=fun c o h=>b c o (a c o h)
theorem Same.free{H H':Hp}(e:Same H H'){l:Addr}(h:H' l=Option.none):H l=Option.none:=by
 cases q:H l with
 | none=>rfl
 | some o =>
  rw[e l o q]at h
  cases h
theorem Same.seq{K:PySem.W.Frag}{H H':Hp}{a:Addr}{xs:List V}(e:Same H H')(h:SqL K H a xs):SqL K H' a xs:=by
 rcases h with(h|⟨o,h⟩)|h
 · exact .inl (.inl (e _ _ h))
 · exact .inl (.inr ⟨o,e _ _ h⟩)
 · exact .inr h
end L2

end
section
set_option Elab.async false
set_option linter.all false
set_option maxRecDepth 100000
namespace L2
open PySem PySem.Spec PyProof.Rows
theorem zjU{x:Str}{lo:Nat}:∀(names:List (Str×NameKind)) (n:Nat) (acc:List (Str×Addr)) (c:Addr),lo≤n→(∀ c,acc.lookup x=some c→lo≤c)→(cellsFrom n names acc).lookup x=some c→lo≤c
 | [],_,_,_,_,h,e=>h _ e
 | (y,k)::r,n,acc,c,hn,h,e=>by
  unfold cellsFrom at e
  split at e
  · refine zjU r (n+1) _ c (Nat.le_succ_of_le hn) (fun c' e'=>?_) e
    rw[List.lookup_cons]at e'
    split at e'
    · cases e';exact hn
    · exact h c' e'
  · exact zjU r n acc c hn h e
theorem zdO{x:Str}:∀(names:List (Str×NameKind)) (n:Nat) (acc:List (Str×Addr)) (c:Addr),names.lookup x=some .cell→(cellsFrom n names acc).lookup x=some c→n≤c
 | [],_,_,_,h,_=>by cases h
 | (y,k)::r,n,acc,c,h,e=>by
  rw[List.lookup_cons]at h
  unfold cellsFrom at e
  cases hb:x==y with
  | true =>
   rw[hb]at h
   have hk:k = .cell:=by cases h;rfl
   subst hk
   rw[if_pos (show(NameKind.cell==NameKind.cell)=true from rfl)]at e
   refine zjU r (n+1) _ c (Nat.le_succ _) (fun c' e'=>?_) e
   rw[List.lookup_cons,hb]at e'
   cases e'
   exact Nat.le_refl _
  | false =>
   rw[hb]at h
   split at e
   · exact Nat.le_of_succ_le (zdO r (n+1) _ c h e)
   · exact zdO r n acc c h e
theorem zdP{x:Str}:∀(names:List (Str×NameKind)) (n:Nat) (acc:List (Str×Addr)),(∀ y∈names,y.1=x→y.2 ≠ .cell)→(cellsFrom n names acc).lookup x=acc.lookup x
 | [],_,_,_=>rfl
 | (y,k)::r,n,acc,h=>by
  unfold cellsFrom
  have hr:∀ y∈r,y.1=x→y.2 ≠ .cell:=fun z hz=>h z (List.mem_cons_of_mem _ hz)
  split
  · rename_i hk
    rw[zdP r (n+1) _ hr,List.lookup_cons]
    have hne:(x==y)=false:=by
     cases hb:x==y with
     | false=>rfl
     | true=>exact absurd (beq_iff_eq.mp hk) (h (y,k) List.mem_cons_self (beq_iff_eq.mp hb).symm)
    rw[hne]
  · exact zdP r n acc hr
theorem zdQ:∀(names:List (Str×NameKind)) (n:Nat) (acc:List (Str×Addr)) (p:Str×Addr),p∈cellsFrom n names acc→n≤p.2∨p∈acc
 | [],_,_,_,e => .inr e
 | (y,k)::r,n,acc,p,e=>by
  unfold cellsFrom at e
  split at e
  · rcases zdQ r (n+1) _ p e with q|q
    · exact .inl (Nat.le_of_succ_le q)
    · rcases List.mem_cons.mp q with q|q
      · subst q;exact .inl (Nat.le_refl _)
      · exact .inr q
  · exact zdQ r n acc p e
theorem z8I:∀(names:List (Str×NameKind)) (n:Nat) (acc:List (Str×Addr)),(∀ p∈acc,p.2<n)→(acc.Pairwise fun x y=>x.2≠y.2)→(cellsFrom n names acc).Pairwise fun x y=>x.2≠y.2
 | [],_,_,_,h=>h
 | (y,k)::r,n,acc,hl,h=>by
  unfold cellsFrom
  split
  · refine z8I r (n+1) _ (fun p hp=>?_) (List.pairwise_cons.mpr ⟨fun p hp e=>?_,h⟩)
    · rcases List.mem_cons.mp hp with q|q
      · subst q;exact Nat.lt_succ_self _
      · exact Nat.lt_succ_of_lt (hl p q)
    · have e':n=p.2:=e
      have q:=hl p hp
      rw[←e']at q
      exact absurd q (Nat.lt_irrefl _)
  · exact z8I r n acc hl h
theorem z8J:∀(names:List (Str×NameKind)) (n:Nat) (acc:List (Str×Addr)),cellsFrom n names acc=cellsFrom n names []++acc
 | [],_,_=>rfl
 | (y,k)::r,n,acc=>by
  unfold cellsFrom
  split
  · rw[z8J r (n+1) ((y,n)::acc),z8J r (n+1) [(y,n)],List.append_assoc]
    rfl
  · exact z8J r n acc
def z0L(env:Env):List (Str×NameKind)→List (Str×Addr)→List (Str×Addr)
 | [],acc=>acc
 | (y,k)::r,acc=>if k == .free then z0L env r (match env.cells.lookup y with|some c=>(y,c)::acc|none=>acc) else z0L env r acc
theorem z3G{env:Env}{x:Str}:∀(names:List (Str×NameKind)) (acc:List (Str×Addr)),(∀ c,acc.lookup x=some c→env.cells.lookup x=some c)→∀ c,(z0L env names acc).lookup x=some c→env.cells.lookup x=some c
 | [],_,h=>h
 | (y,k)::r,acc,h=>by
  unfold z0L
  split
  · refine z3G r _ fun c e=>?_
    cases hy:env.cells.lookup y with
    | none=>rw[hy]at e;exact h c e
    | some d =>
     rw[hy]at e
     dsimp only at e
     rw[List.lookup_cons]at e
     split at e
     · rename_i hb
       cases e
       rw[beq_iff_eq.mp hb];exact hy
     · exact h c e
  · exact z3G r acc h
theorem z5X{env:Env}:∀(names:List (Str×NameKind)) (acc:List (Str×Addr)) (p:Str×Addr),p∈z0L env names acc→p∈acc∨env.cells.lookup p.1=some p.2
 | [],_,_,h => .inl h
 | (y,k)::r,acc,p,h=>by
  unfold z0L at h
  split at h
  · rcases z5X r _ p h with q|q
    · cases hy:env.cells.lookup y with
      | none=>rw[hy]at q;exact .inl q
      | some d =>
       rw[hy]at q
       rcases List.mem_cons.mp q with q|q
       · subst q;exact .inr hy
       · exact .inl q
    · exact .inr q
  · exact z5X r acc p h
theorem z4g{env:Env}{x:Str}:∀(names:List (Str×NameKind)) (acc:List (Str×Addr)),(acc.lookup x).isSome=true→((z0L env names acc).lookup x).isSome=true
 | [],_,h=>h
 | (y,k)::r,acc,h=>by
  unfold z0L
  split
  · refine z4g r _ ?_
    cases hy:env.cells.lookup y with
    | none=>exact h
    | some d =>
     show(List.lookup x ((y,d)::acc)).isSome=true
     rw[List.lookup_cons]
     split
     · rfl
     · exact h
  · exact z4g r acc h
theorem z5Y{env:Env}{x:Str}{c:Addr}:∀(names:List (Str×NameKind)) (acc:List (Str×Addr)),names.lookup x=some .free→env.cells.lookup x=some c→((z0L env names acc).lookup x).isSome=true
 | [],_,h,_=>by cases h
 | (y,k)::r,acc,h,hc=>by
  rw[List.lookup_cons]at h
  unfold z0L
  cases hb:x==y with
  | true =>
   rw[hb]at h
   have hk:k = .free:=by cases h;rfl
   subst hk
   rw[if_pos (show(NameKind.free==NameKind.free)=true from rfl)]
   refine z4g r _ ?_
   have hxy:x=y:=beq_iff_eq.mp hb
   subst hxy
   rw[hc]
   show(List.lookup x ((x,c)::acc)).isSome=true
   rw[List.lookup_cons,hb];rfl
  | false =>
   rw[hb]at h
   split
   · exact z5Y r _ h hc
   · exact z5Y r _ h hc
theorem z5Z{env:Env}:∀(names:List (Str×NameKind)) (acc:List (Str×Addr)) (f:Str×NameKind→List (Str×Addr)→Sem (ForInStep (List (Str×Addr)))),
  (∀ name kind cs,f (name,kind) cs=if kind == .free then(do let a ←cellOf env name;pure (.yield ((name,a)::cs))) else pure (.yield cs)) →
  (∀ y∈names,y.2 = .free→∃ c,env.cells.lookup y.1=some c)→forIn names acc f=(pure (z0L env names acc):Sem _)
 | [],acc,f,hf,h=>by rw[List.forIn_nil];rfl
 | (y,k)::r,acc,f,hf,h=>by
  have hr:∀ z∈r,z.2 = .free→∃ c,env.cells.lookup z.1=some c:=fun z hz=>h z (List.mem_cons_of_mem _ hz)
  rw[List.forIn_cons,hf]
  unfold z0L
  by_cases hk:(k==NameKind.free)=true
  · rw[if_pos hk,if_pos hk]
    obtain⟨c,hc⟩:=h (y,k) List.mem_cons_self (beq_iff_eq.mp hk)
    have hc':env.cells.lookup y=some c:=hc
    have e:cellOf env y=(pure c:Sem Addr):=by unfold cellOf;rw[hc']
    rw[e,hc']
    simp only[pure_bind]
    exact z5Z r _ f hf hr
  · rw[if_neg hk,if_neg hk]
    simp only[pure_bind]
    exact z5Z r _ f hf hr
theorem zdR{scope:Scope}{env:Env}(h:∀ y∈scope.names,y.2 = .free→∃ c,env.cells.lookup y.1=some c):closureFor scope env=pure (z0L env scope.names []):=by
 unfold closureFor
 simp only[]
 rw[z5Z scope.names [] _ (fun name kind cs=>by cases hk:kind==NameKind.free<;>simp[hk]) h]
 rfl
end L2

end
section
set_option linter.all false
namespace L2
open PySem
section
variable {prog:Program}{w:World}{A:Around}{R:Result→Shared→Prop}{s:Shared}
theorem zbE{elt target iter:Expr}{ifs:List Expr}{scope:Scope}{pos:Pos}{it acc:Value}{env:Env}(I:Nat→Shared→Prop)
  (turn:∀ n s,I n s→wpAny (model prog w) A (pyNext it) (fun r s₁=>match r with
   | none=>R (.ok .next) s₁
   | some v=>wpAny (model prog w) A (letOwnedTupleGo target it v) (fun _ s₁'=>wpAny (model prog w) A (assign target env v) (fun _ s₂ =>
    wpAny (model prog w) A (forIn ifs true fun c r=>if r=true then do let ok ←isTrue c env (eval c env);pure (ForInStep.yield ok) else pure (ForInStep.yield r)) (fun ok s₃ =>
     if ok=true then wpAny (model prog w) A (eval elt env) (fun x s₄ =>
      wpAny (model prog w) A (call (.builtin "list.append") [acc,x]) (fun _ s₅=>∃ m,m<n∧I m s₅) (notedBy (model prog w) A env fun e s'=>R (.error e) s') s₄) (notedBy (model prog w) A env fun e s'=>R (.error e) s') s₃
     else ∃ m,m<n∧I m s₃) (notedBy (model prog w) A env fun e s'=>R (.error e) s') s₂) (notedBy (model prog w) A env fun e s'=>R (.error e) s') s₁')
    (notedBy (model prog w) A env fun e s'=>R (.error e) s') s₁) (notedBy (model prog w) A env fun e s'=>R (.error e) s') s)
  (n:Nat) (h:I n s) :
  codeAny (model prog w) A (.compLoop (.ListComp elt [⟨target,iter,ifs,0⟩] scope pos) 0 it acc env) R s:=by
 refine codeAny_loop rfl I (fun n s hI=>?_) n h
 show wpAny _ A ((compTurn (.ListComp elt [⟨target,iter,ifs,0⟩] scope pos) 0 it acc env).onRaise (fun x=>do noteFrame x env;theTreesLotGoes x)) _ _ s
 refine wpAny_noted ?_
 rw[compTurn_list]
 refine wpAny_bind (wpAny_standAt (wpAny_bind (wpAny_mono (turn n s hI) (fun r s₁ h₁=>?_) fun _ _ h'=>h')))
 cases r with
 | none=>exact wpAny_pure h₁
 | some v =>
  refine wpAny_bind (wpAny_mono h₁ (fun _ s₁' h₁'=>?_) fun _ _ h'=>h')
  refine wpAny_bind (wpAny_mono h₁' (fun _ s₂ h₂=>wpAny_bind (wpAny_mono h₂ (fun ok s₃ h₃=>?_) fun _ _ h'=>h')) fun _ _ h'=>h')
  cases ok with
  | false=>exact wpAny_pure ⟨rfl,h₃⟩
  | true =>
   exact wpAny_bind (wpAny_bind (wpAny_mono h₃ (fun x s₄ h₄=>wpAny_bind (wpAny_mono h₄ (fun _ s₅ h₅=>wpAny_pure (wpAny_pure ⟨rfl,h₅⟩)) fun _ _ h'=>h')) fun _ _ h'=>h'))
theorem zjV{M:Model}{E:Value→Shared→Prop}{scope:Scope}{globals:Addr}{cl:List (Str×Addr)}{qual:Str}{func:Option Addr}{code:Value}{env:Env}{Q:Env→Shared→Prop}
  (hQ:∀ h',h'.Ns s.heap.objs.size (fun _=>none)→(∀ b o,s.heap.get? b=some o→h'.get? b=some o)→(∀ n c,(n,c)∈cellsFrom (s.heap.objs.size+1) scope.names []→h'.IsCell c none) →
   Q (newEnv scope s.heap.objs.size globals (cellsFrom (s.heap.objs.size+1) scope.names cl) qual func code (some env) builtinsNs) { s with heap:=h' }) :
  wpAny M A (newFunctionEnv scope globals cl [] qual func code (some env)) Q E s:=by
 simp only[newFunctionEnv,Option.isSome_some,if_true]
 refine wpAny_bind (wpAny_alloc ?_)
 refine wpAny_bind (wpAny_layCells _ (fun name kind cells=>by cases hkc:kind==NameKind.cell<;>simp[hkc]) _ _ _ _ ?_)
 have ok:=cellsFrom_ok scope.names (s.heap.push { cls := .type "dict",data := .dict #[] }) (s.heap.objs.size+1) [] ⟨fun _ _ hm=>(nomatch hm),List.Pairwise.nil⟩ (by rw[Heap.size_push];exact Nat.le_refl _)
 rw[Heap.size_push]at ok
 rw[show({ s with heap:=s.heap.push { cls := .type "dict",data := .dict #[] } }:Shared).heap.objs.size=s.heap.objs.size+1 from Heap.size_push ..]
 refine wpAny_bind ?_
 rw[List.forIn_nil]
 refine wpAny_pure (wpAny_pure ?_)
 exact hQ _ ((Heap.Ns.new s.heap (.type "dict")).keeps (pushCells_keeps _ _)) (fun b o e=>pushCells_keeps _ _ b o (Heap.get?_push_of_some _ e)) fun n c hm=>(ok.empty n c hm).1
end
end L2

end
section
set_option Elab.async false
set_option linter.all false
set_option maxRecDepth 100000
namespace L2
open PySem PySem.Spec PyProof.Rows
def z14(X:Cx)(N:List Str)(scope:Scope)(cl:List (Str×Addr))(C:Addr)(fp:List Addr)(s:Shared)(H:Hp):Cx where
 prog:=X.prog
 w:=X.w
 K:=X.K
 mg:=X.mg
 base:=X.base
 A:=X.A
 N:=N
 s₀:=s
 H₀:=H
 env:=compEnvC scope cl C X.env
 outer:=X.stack
 stack:=X.stack
 ex:=fp
 fn:=fun x=>scope.names.lookup x==some .cell
 calm:=X.calm
 pn:=[]
 xe:=fun _ _=>False
structure CompScope(X:Cx)(N:List Str)(scope:Scope)(nt:Nat)(js:List Nat):Prop where
 kind:scope.kind = .function
 nd:(scope.names.map (·.1)).Nodup
 loc:∀ x∈scope.names,x.2 = .local→scope.names.lookup x.1=some .local
 len:N.length=nt+js.length
 names:∀ k j,js[k]?=some j→∃ x,N[nt+k]?=some x∧X.N[j]?=some x∧scope.names.lookup x=some .free
 fre:∀ x∈scope.names,x.2 = .free→X.env.kindOf x.1=some .cell∨X.env.kindOf x.1=some .free
def sig(nt:Nat)(js:List Nat)(σ:St):St:=List.replicate nt none++js.map fun j=>(σ[j]?).join
def PTs(X:Cx)(ifs:List Expr)(t:TT):Prop :=
 ∀(pins:List (Addr×Obj)) (s:Shared) (σ:St) (H:Hp) (Q:Bool→Hp→Prop),Inv X pins σ H s→t σ H Q →
  wpAny (model X.prog X.w) X.A (forIn ifs true fun c r=>if r=true then do let ok ←isTrue c X.env (eval c X.env);pure (ForInStep.yield ok) else pure (ForInStep.yield r)) (TP X pins σ Q) X.xe s
def tYes:TT:=fun _ H Q=>Q true H
theorem znK{X:Cx}:PTs X [] tYes:=fun pins s σ H Q I h=>wpAny_tests_nil ⟨H,I,h⟩
theorem znL{X:Cx}{c:Expr}{t:TT}(hc:PT X c t):PTs X [c] t:=fun pins s σ H Q I h=>wpAny_tests_one (hc pins s σ H Q I h)
theorem nlt{a b:Nat}(h1:a+1≤b)(h2:b<a):False:=by omega
theorem z2O{α:Type}:∀{l:List (Str×α)} {p:Str×α},(l.map (·.1)).Nodup→p∈l→l.lookup p.1=some p.2
 | [],_,_,h=>by cases h
 | (y,k)::r,p,nd,h=>by
  have nd:(y::r.map (·.1)).Nodup:=nd
  obtain⟨n1,n2⟩:=List.nodup_cons.mp nd
  rw[List.lookup_cons]
  rcases List.mem_cons.mp h with e|e
  · subst e
    show(match y==y with|true=>some k|false=>_)=some k
    rw[beq_self_eq_true]
  · cases hb:p.1==y with
    | true =>
     rw[←beq_iff_eq.mp hb]at n1
     exact absurd (List.mem_map.mpr ⟨p,e,rfl⟩) n1
    | false=>exact z2O n2 e
theorem z4H{env:Env}{x:Str}:∀{names:List (Str×NameKind)} {k:NameKind},names.lookup x=some k →
  (names.map fun(n,k)=>if(k==NameKind.free&&env.scope.kind == .function&&env.kindOf n==some .cell) then(n,NameKind.cell) else(n,k)).lookup x=some (if(k==NameKind.free&&env.scope.kind == .function&&env.kindOf x==some .cell)=true then .cell else k)
 | [],_,h=>by cases h
 | (y,k')::r,k,h=>by
  rw[List.lookup_cons]at h
  show List.lookup x ((if(k'==NameKind.free&&env.scope.kind == .function&&env.kindOf y==some .cell)=true then(y,NameKind.cell) else(y,k'))::_)=_
  cases hb:x==y with
  | true =>
   rw[hb]at h
   have hk:k'=k:=by cases h;rfl
   have hxy:x=y:=beq_iff_eq.mp hb
   subst hk;subst hxy
   split<;>(rw[List.lookup_cons];rw[hb])
  | false =>
   rw[hb]at h
   have ih:=@z4H env x r k h
   split<;>(rw[List.lookup_cons];rw[hb];exact ih)
theorem z4h{env:Env}{x:Str}{k:NameKind}:∀{names:List (Str×NameKind)},
  (names.map fun(n,k)=>if(k==NameKind.free&&env.scope.kind == .function&&env.kindOf n==some .cell) then(n,NameKind.cell) else(n,k)).lookup x=some k→∃ k',names.lookup x=some k'∧(k=k'∨(k' = .free∧k = .cell))
 | [],h=>by cases h
 | (y,k')::r,h=>by
  have h:List.lookup x ((if(k'==NameKind.free&&env.scope.kind == .function&&env.kindOf y==some .cell)=true then(y,NameKind.cell) else(y,k'))::r.map fun(n,k)=>if(k==NameKind.free&&env.scope.kind == .function&&env.kindOf n==some .cell) then(n,NameKind.cell) else(n,k))=some k:=h
  rw[List.lookup_cons]
  cases hb:x==y with
  | true =>
   split at h
   · rename_i hc
     rw[List.lookup_cons,hb]at h
     have hf:(k'==NameKind.free)=true:=by
      rw[Bool.and_eq_true,Bool.and_eq_true]at hc
      exact hc.1.1
     cases h
     exact⟨k',rfl,.inr ⟨beq_iff_eq.mp hf,rfl⟩⟩
   · rw[List.lookup_cons,hb]at h
     cases h
     exact⟨k,rfl,.inl rfl⟩
  | false =>
   split at h
   all_goals
     rw[List.lookup_cons,hb]at h
     exact z4h h
section
variable {X:Cx}{N:List Str}{scope:Scope}{nt:Nat}{js:List Nat}{pins:List (Addr×Obj)}{σ:St}{H:Hp}{s:Shared}{fp:List Addr}
theorem zjW{s2:Shared}{H2:Hp}(S:CompScope X N scope nt js)(I2:Inv X pins σ H2 s2)(I:Inv X pins σ H s)(hu:Un (frs X.stack) fp H2 H s2.heap s.heap)(hos:s.os=s2.os)(hz:s2.heap.objs.size≤s.heap.objs.size)
   (hf:∀ b∈fp,FpOk X pins H b) (ho:∀ b∈fp,∃ o,s.heap.get? b=some o) {h':Heap}
   (ns:h'.Ns s.heap.objs.size (fun _=>none)) (k:∀ b o,s.heap.get? b=some o→h'.get? b=some o) (nc:∀ n c,(n,c)∈cellsFrom (s.heap.objs.size+1) scope.names []→h'.IsCell c none) :
   Inv (z14 X N scope (cellsFrom (s.heap.objs.size+1) scope.names (z0L X.env scope.names [])) s.heap.objs.size fp s2 H2) [] (sig nt js σ) H { s with heap:=h' }:=by
 have ok:=I.ok
 have hcl:∀ p∈z0L X.env scope.names [],X.env.cells.lookup p.1=some p.2:=fun p hp=>(z5X _ _ p hp).resolve_left (by simp)
 have hlt:∀ x c,X.env.cells.lookup x=some c→c<s.heap.objs.size:=fun x c e=>by
   obtain⟨v,o,ho,_⟩:=I.cell x c e
   exact Heap.lt_size ho
 have mem:∀ x c,(cellsFrom (s.heap.objs.size+1) scope.names (z0L X.env scope.names [])).lookup x=some c→s.heap.objs.size+1≤c∨X.env.cells.lookup x=some c:=fun x c e=>by
   rcases zdQ _ _ _ _ (PySem.mem_of_lookup e)with q|q
   · exact .inl q
   · exact .inr (hcl _ q)
 have frec:∀ x,scope.names.lookup x=some .free→∃ c,X.env.cells.lookup x=some c∧(cellsFrom (s.heap.objs.size+1) scope.names (z0L X.env scope.names [])).lookup x=some c:=fun x hx=>by
   obtain⟨c,hc⟩:=ok.has x (S.fre (x,.free) (PySem.mem_of_lookup hx) rfl)
   refine⟨c,hc,?_⟩
   rw[zdP _ _ _ fun y hy e=>?_]
   · obtain⟨d,hd⟩:=Option.isSome_iff_exists.mp (z5Y (env:=X.env) scope.names [] hx hc)
     have:=z3G (env:=X.env) (x:=x) scope.names [] (fun c e=>by simp at e) d hd
     rw[hc]at this
     cases this
     exact hd
   · have q:=z2O S.nd hy
     rw[e,hx]at q
     intro z
     rw[z]at q
     cases q
 refine⟨⟨ok.mod,S.kind,ok.glob,ok.blt,hz,fun x y c hx hy=>?_,fun x hx=>?_,fun x c hx e=>?_,ok.hd,ok.frames,.inl rfl,fun b hb=>⟨?_,fun x c e=>?_⟩,fun b o e=>?_,?_,fun b o e hb=>?_,fun b hb=>?_,I2.stack,I2.stkFree⟩,
   hos,I.bare,hu.trans (Un.kept k),⟨_,ns,fun i x v h1 h2 h3=>?_⟩,fun x c e=>?_,?_,fun x c e=>?_,fun p hp=>absurd (show p∈([]:List (Addr×Obj))from hp) (by simp),I.hok.kept k,?_⟩
 ·
   rcases mem x c hx with q|q
   · rcases mem y c hy with q'|q'
     · have in1:∀ z:Str,(z,c)∈cellsFrom (s.heap.objs.size+1) scope.names (z0L X.env scope.names [])→(z,c)∈cellsFrom (s.heap.objs.size+1) scope.names []:=fun z hz=>by
         rw[z8J]at hz
         rcases List.mem_append.mp hz with hz|hz
         · exact hz
         · exact(nlt q (hlt _ _ (hcl _ hz))).elim
       exact name_of_addr (z8I scope.names (s.heap.objs.size+1) [] (fun p hp=>by simp at hp) List.Pairwise.nil) (in1 x (PySem.mem_of_lookup hx)) (in1 y (PySem.mem_of_lookup hy))
     · exact(nlt q (hlt _ _ q')).elim
   · rcases mem y c hy with q'|q'
     · exact(nlt q' (hlt _ _ q)).elim
     · exact ok.inj x y c q q'
 ·
   have hx:(relabel scope X.env).names.lookup x=some .cell∨(relabel scope X.env).names.lookup x=some .free:=hx
   have cs:scope.names.lookup x=some .cell∨scope.names.lookup x=some .free:=by
     rcases hx with q|q
     · obtain⟨k',e1,e2⟩:=z4h q
       rcases e2 with e2|⟨e2,_⟩
       · rw[←e2]at e1;exact .inl e1
       · rw[e2]at e1;exact .inr e1
     · obtain⟨k',e1,e2⟩:=z4h q
       rcases e2 with e2|⟨_,e2⟩
       · rw[←e2]at e1;exact .inr e1
       · cases e2
   rcases cs with q|q
   · exact Option.isSome_iff_exists.mp (PySem.W.cellsFrom_some scope.names _ _ (.inl q))
   · obtain⟨c,_,e⟩:=frec x q
     exact⟨c,e⟩
 ·
   have hx:(scope.names.lookup x==some .cell)=true:=hx
   exact Nat.le_trans hz (Nat.le_of_succ_le (zdO scope.names _ _ c (beq_iff_eq.mp hx) e))
 ·
   intro e
   obtain⟨o,hb'⟩:=ho b hb
   exact absurd (Heap.lt_size hb') (by rw[e];exact Nat.lt_irrefl _)
 · rcases mem x c e with q|q
   · intro z
     obtain⟨o,hb'⟩:=ho b hb
     have:=Heap.lt_size hb'
     rw[←z]at this
     exact nlt q this
   · exact(hf b hb).2.2.2.2.1 x c q
 · exact I2.bs b o e
 · exact Nat.le_trans ok.bsz I2.sz
 ·
   rcases(hf b hb).2.2.2.1 with q|q
   · exact ok.noex b o e q
   · exact absurd (Nat.lt_of_lt_of_le (Heap.lt_size e) (Nat.le_trans ok.bsz q)) (Nat.lt_irrefl _)
 ·
   intro z
   rcases List.mem_cons.mp (I.stkSub b z)with q|q
   · exact(hf b hb).2.1 q
   · exact(hf b hb).2.2.1 q
 ·
   have hi:nt≤i:=by
     by_cases hi:i<nt
     · unfold sig at h2
       rw[List.getElem?_append_left (by simpa using hi),List.getElem?_replicate]at h2
       split at h2<;>cases h2
     · omega
   unfold sig at h2
   rw[List.getElem?_append_right (by simpa using hi),List.length_replicate,List.getElem?_map]at h2
   cases ej:js[i-nt]? with
   | none=>rw[ej]at h2;cases h2
   | some j =>
     rw[ej]at h2
     have h2:(σ[j]?).join=some v:=Option.some.inj h2
     obtain⟨y,n1,n2,n3⟩:=S.names _ _ ej
     have hxy:x=y:=by
       have e:nt+(i-nt)=i:=by omega
       rw[e]at n1
       have h1:N[i]?=some x:=h1
       rw[h1]at n1
       exact Option.some.inj n1
     subst hxy
     have h2':σ[j]?=some (some v):=by
       cases eσ:σ[j]? with
       | none=>rw[eσ]at h2;cases h2
       | some a =>
         rw[eσ]at h2
         have h2:a=some v:=h2
         rw[h2]
     obtain⟨m,hn,hl⟩:=I.loc
     have kd:=S.fre (x,.free) (PySem.mem_of_lookup n3) rfl
     obtain⟨u,ru,lk⟩:=hl j x v n2 h2' (.inr kd)
     refine⟨u,ru,?_⟩
     obtain⟨c,c1,c2⟩:=frec x n3
     rcases lk with⟨z,_⟩|⟨_,d,d1,d2⟩
     · have kd':X.env.kindOf x=some .cell∨X.env.kindOf x=some .free:=kd
       rw[z]at kd'
       rcases kd' with q|q<;>cases q
     · rw[c1]at d1
       cases d1
       refine .inr ⟨?_,c,c2,d2.keeps k⟩
       have:=z4H (env:=X.env) n3
       show(relabel scope X.env).names.lookup x=some .cell∨(relabel scope X.env).names.lookup x=some .free
       unfold relabel
       dsimp only
       rw[this]
       split
       · exact .inl rfl
       · exact .inr rfl
 ·
   have e:(cellsFrom (s.heap.objs.size+1) scope.names (z0L X.env scope.names [])).lookup x=some c:=e
   have hm:=PySem.mem_of_lookup e
   rw[z8J]at hm
   rcases List.mem_append.mp hm with q|q
   · exact⟨none,nc x c q⟩
   · obtain⟨v,hv⟩:=I.cell x c (hcl _ q)
     exact⟨v,hv.keeps k⟩
 · exact I.hok.fresh (Nat.le_refl _)
 · rcases mem x c e with q|q
   · exact I.hok.fresh (Nat.le_of_succ_le q)
   · exact I.freeC x c q
 · show(sig nt js σ).length=N.length
   unfold sig
   rw[List.length_append,List.length_replicate,List.length_map,S.len]
end
end L2

end
section
set_option Elab.async false
set_option linter.all false
set_option maxRecDepth 100000
namespace L2
open PySem PySem.Spec PyProof.Rows
def zhV(nt:Nat)(js:List Nat)(wi:TI)(g:TG)(tc:Hp→TT)(te:Hp→TE):TE:=fun σ H Q=>wi σ H fun J H1=>∀ D,H1 D=none →
 ∃ W:Nat→Nat→List V→Hp→Prop,(∃ m,W 0 m [] (upd H1 D (.lst [])))∧∀ i m ys H,W i m ys H →
  (J.stop i H∧Q (.ref D) H)∨(J.go i H∧∀ x H',J.yld i H x H'→g x (sig nt js σ) H' fun σ2 H2=>tc H1 σ2 H2 fun b H3 =>
   if b=true then te H1 σ2 H3 fun v H4=>H4 D=some (.lst ys)∧ys.length<sizeLine∧∃ m',m'<m∧W (i+1) m' (ys++[v]) (upd H4 D (.lst (ys++[v])))
   else ∃ m',m'<m∧W (i+1) m' ys H3)
section
variable {X:Cx}{N:List Str}{scope:Scope}{nt:Nat}{js:List Nat}{tg elt iter:Expr}{ifs:List Expr}{wi:TI}{g:TG}{tc:Hp→TT}{te:Hp→TE}{pos:Pos}
theorem zjX{σ σ2:St}(hl:σ2.length=(sig nt js σ).length)(h:∀ i,nt≤i→σ2[i]?=(sig nt js σ)[i]?):∀(i:Nat) v,(sig nt js σ)[i]?=some (some v)→σ2[i]?=some (some v):=fun i v e=>by
 by_cases hi:nt≤i
 · rw[h i hi];exact e
 · unfold sig at e
   rw[List.getElem?_append_left (by rw[List.length_replicate];omega),List.getElem?_replicate]at e
   split at e<;>cases e
def TgOk(nt:Nat)(g:TG):Prop:=∀ x σ H (Q:St→Hp→Prop),g x σ H Q→g x σ H fun σ2 H2=>(σ2.length=σ.length∧∀ i,nt≤i→σ2[i]?=σ[i]?)∧Q σ2 H2
theorem zco(S:CompScope X N scope nt js)(hc:X.calm=true)(hi:PI X tg iter wi)
  (hg:∀ cl C fp s H,PG (z14 X N scope cl C fp s H) tg g) (ht:TgOk nt g) (hcs:∀ cl C fp s H,PTs (z14 X N scope cl C fp s H) ifs (tc H)) (he:∀ cl C fp s H,PE (z14 X N scope cl C fp s H) elt (te H))
  {use:Option (Value→Sem Unit)} {pins:List (Addr×Obj)} {s:Shared} {σ:St} {H:Hp} {Q:VK} {Q':Value→Shared→Prop} (I:Inv X pins σ H s) (h:zhV nt js wi g tc te σ H Q)
  (hs:∀ x,foldedSetIterable iter X.env x=pure x)
  (fin:∀(D C:Addr) (H':Hp) (s':Shared),Inv X pins σ H' s'→Q (.ref D) H'→H' C=none→C≠X.env.locals→(X.s₀.heap.objs.size≤C)→(∀ x c,X.env.cells.lookup x=some c→c≠C)→(∀ p∈X.pn++pins,p.1≠C)→(∃ m,s'.heap.Ns C m) →
    compPost (model X.prog X.w) X.A X.xe use Q' (.ref D) C (.ok .next) s') :
  wpAny (model X.prog X.w) X.A (comprehension (.ListComp elt [⟨tg,iter,ifs,0⟩] scope pos) scope X.env (firstIterPos [⟨tg,iter,ifs,0⟩] pos) (newList []) false (eval iter X.env) use) Q' X.xe s:=by
 have clo:closureFor scope X.env=pure (z0L X.env scope.names []):=zdR fun y hy e=>I.ok.has y.1 (S.fre y hy e)
 refine wpAny_comprehension_free (cl:=z0L X.env scope.names []) rfl hs clo S.kind S.loc (thn (hi pins s σ H _ I h) fun xv s1 h1=>thn h1 fun itv s2 h2=>?_)
 obtain⟨it,fp,tn,J,H2,rfl,I2,T,st2,f2,q2⟩:=h2
 refine wpAny_newObj_type (hd:=by size_fits) ?_
 have fresh2:H2 s2.heap.objs.size=none:=I2.fresh
 have I3:=I2.lnew (ys:=[]) (its:=[]) (t':=s2.toks) .nil (Nat.zero_le _)
 obtain⟨W,⟨m0,w0⟩,turn⟩:=q2 s2.heap.objs.size fresh2
 have ltf:∀ b∈fp,b<s2.heap.objs.size:=fun b hb=>by
  obtain⟨o,e,_⟩:=T.obj 0 _ st2 b hb
  exact Heap.lt_size e
 have ned:∀ b∈fp,b≠s2.heap.objs.size:=fun b hb=>Nat.ne_of_lt (ltf b hb)
 have f3:∀ b∈fp,FpOk X pins (upd H2 s2.heap.objs.size (.lst [])) b:=fun b hb=>⟨by rw[z0v (ned b hb)];exact(f2 b hb).1,(f2 b hb).2⟩
 generalize e3:({ s2 with heap:=s2.heap.push { cls := .type "list",dict:=none,data := .seq ([]:List Value).toArray } }:Shared)=s3 at *
 have k3:∀ b o,s2.heap.get? b=some o→s3.heap.get? b=some o:=fun b o e=>by rw[←e3];exact Heap.get?_push_of_some _ e
 have os3:s3.os=s2.os:=by rw[←e3]
 have sz3:s2.heap.objs.size<s3.heap.objs.size:=by rw[←e3];show _<(s2.heap.push _).objs.size;rw[Heap.size_push];exact Nat.lt_succ_self _
 refine zjV fun h4 ns4 k4 nc4=>?_
 have I4:=zjW S I2 I3 (Un.laid k3 (Nat.le_refl _) fresh2) os3 (Nat.le_of_lt sz3) f3 (fun b hb=>by obtain⟨o,e,_⟩:=T.obj 0 _ st2 b hb;exact⟨o,k3 b o e⟩) ns4 k4 nc4
 have st4:tn 0 h4:=T.keep _ _ _ st2 fun b _ o e=>k4 b o (k3 b o e)
 generalize eC:s3.heap.objs.size=C at *
 have stat:∀{H':Hp},(∀ b∈fp,H' b=none)→∀ b∈fp,FpOk (z14 X N scope (cellsFrom (C+1) scope.names (z0L X.env scope.names [])) C fp s2 H2) [] H' b:=fun hn b hb =>
  ⟨hn b hb,(I4.ok.exf b hb).1,I4.ok.exfs b hb,.inl hb,(I4.ok.exf b hb).2,fun p hp=>absurd (show p∈([]:List (Addr×Obj))from hp) (by simp)⟩
 have loop:∀ s4:Shared,s4={ s3 with heap:=h4 }→codeAny (model X.prog X.w) X.A (.compLoop (.ListComp elt [⟨tg,iter,ifs,0⟩] scope pos) 0 (.ref it) (.ref s2.heap.objs.size) (compEnvC scope (cellsFrom (C+1) scope.names (z0L X.env scope.names [])) C X.env))
    (compPost (model X.prog X.w) X.A X.xe use Q' (.ref s2.heap.objs.size) C) s4:=by
  rintro s4 rfl
  refine zbE (fun n s'=>∃ i ys H',Inv (z14 X N scope (cellsFrom (C+1) scope.names (z0L X.env scope.names [])) C fp s2 H2) [] (sig nt js σ) H' s'∧tn i s'.heap∧(∀ b∈fp,H' b=none)∧W i n ys H') ?_ m0
    ⟨0,[],_,I4,st4,fun b hb=>(f3 b hb).1,w0⟩
  rintro n s5 ⟨i,ys,H5,I5,st5,fr5,w5⟩
  rcases turn i n ys H5 w5 with⟨stop,q⟩|⟨go,step⟩
  · refine wpAny_mono (T.done (z14 X N scope (cellsFrom (C+1) scope.names (z0L X.env scope.names [])) C fp s2 H2) rfl rfl rfl hc i [] s5 _ H5 _ I5 (stat fr5) st5 stop) (fun r s6 hZ=>hZ.elim fun hr I6=>?_) fun _ _ z=>z
    subst hr
    have u:Un (frs X.stack) fp H2 H5 s2.heap s6.heap:=I6.base
    have J6:Inv X pins σ H5 s6:=I2.call' I6.os u I6.hok I6.bare fun b hb=>⟨(f2 b hb).2.2.2.1,(f2 b hb).2.1,(f2 b hb).2.2.2.2.1,(f2 b hb).2.2.2.2.2⟩
    have hCs:s2.heap.objs.size≤C:=Nat.le_of_lt sz3
    refine fin _ C H5 s6 J6 q I6.free (fun z=>?_) (Nat.le_trans I2.sz hCs) (fun x c e z=>?_) (fun p hp z=>?_) ?_
    · exact absurd I2.lt (by rw[←z];exact Nat.not_lt.mpr hCs)
    · obtain⟨v,o,ho,_⟩:=I2.cell x c e
      exact absurd (Heap.lt_size ho) (by rw[z];exact Nat.not_lt.mpr hCs)
    · exact absurd (Heap.lt_size (I2.pin p hp).1) (by rw[z];exact Nat.not_lt.mpr hCs)
    · obtain⟨m,hm,_⟩:=I6.loc
      exact⟨m,hm⟩
  · refine wpAny_mono (T.item (z14 X N scope (cellsFrom (C+1) scope.names (z0L X.env scope.names [])) C fp s2 H2) rfl rfl rfl hc i [] s5 _ H5 _ I5 (stat fr5) st5 go) (fun r s6 hZ=>hZ.elim fun u hZ=>hZ.elim fun hr h6=>?_) fun _ _ z=>z
    subst hr
    refine wpAny_mono h6 (fun _ s7 hZ=>hZ.elim fun x hZ=>hZ.elim fun H7 hZ=>hZ.elim fun I7 hZ=>hZ.elim fun r7 hZ=>hZ.elim fun y7 hZ=>hZ.elim fun st7 fr7=>?_) fun _ _ z=>z
    have I7':=I7.pinned (stat fr7) (T.obj _ _ st7)
    refine wpAny_mono (hg _ _ _ _ _ _ s7 _ H7 x u _ I7' r7 (ht _ _ _ _ (step x H7 y7))) (fun _ s8 ⟨σ8,H8,I8,⟨l8,o8⟩,q8⟩=>?_) fun _ _ z=>z.elim
    have again:∀{s9:Shared} {H9:Hp} {ys9:List V},Inv (z14 X N scope (cellsFrom (C+1) scope.names (z0L X.env scope.names [])) C fp s2 H2) ([]++z8F fp s7.heap) σ8 H9 s9→(∃ m',m'<n∧W (i+1) m' ys9 H9) →
       ∃ m,m<n∧∃ i ys H',Inv (z14 X N scope (cellsFrom (C+1) scope.names (z0L X.env scope.names [])) C fp s2 H2) [] (sig nt js σ) H' s9∧tn i s9.heap∧(∀ b∈fp,H' b=none)∧W i m ys H':=fun{s9 H9 ys9} I9 ⟨m',hm,w9⟩=>by
      refine⟨m',hm,i+1,ys9,H9,I9.unpinned.weak l8.symm (zjX l8 o8),T.keep _ _ _ st7 fun b hb o e=>(I9.pin (b,o) (List.mem_append_right _ (List.mem_append_right _ (z4c hb e)))).1,fun b hb=>?_,w9⟩
      obtain⟨o,e,_⟩:=T.obj _ _ st7 b hb
      exact(I9.pin (b,o) (List.mem_append_right _ (List.mem_append_right _ (z4c hb e)))).2.1
    refine wpAny_mono (hcs _ _ _ _ _ _ s8 σ8 H8 _ I8 q8) (fun ok s9 hZ=>hZ.elim fun H9 hZ=>hZ.elim fun I9 q9=>?_) fun _ _ z=>z.elim
    cases ok with
    | false =>
      rw[if_neg Bool.false_ne_true]at q9 ⊢
      exact again I9 q9
    | true =>
      rw[if_pos rfl]at q9 ⊢
      refine wpAny_mono (he _ _ _ _ _ _ s9 σ8 H9 _ I9 q9) (fun y s10 hZ=>hZ.elim fun v hZ=>hZ.elim fun H10 hZ=>hZ.elim fun I10 hZ=>hZ.elim fun r10 hZ=>hZ.elim fun d10 hZ=>hZ.elim fun l10 w10=>?_) fun _ _ z=>z.elim
      refine wpAny_mono (zal (X:=z14 X N scope (cellsFrom (C+1) scope.names (z0L X.env scope.names [])) C fp s2 H2) _ s10 σ8 H10 (.ref s2.heap.objs.size) [v] (.ref s2.heap.objs.size) [y] (fun z H'=>∃ m',m'<n∧W (i+1) m' (ys++[v]) H') I10 rfl (.cons r10 .nil) ⟨_,ys,v,rfl,rfl,d10,l10,w10⟩) (fun _ s11 hZ=>hZ.elim fun _ hZ=>hZ.elim fun H11 hZ=>hZ.elim fun I11 hZ=>hZ.elim fun _ w11=>?_) fun _ _ z=>z.elim
      exact again I11 w11
 exact codeAny_compStart_list (loop _ rfl) (T.self _ _ _ _ _ st4 (loop _ rfl))
theorem znM(S:CompScope X N scope nt js)(hc:X.calm=true)(hi:PI X tg iter wi)
  (hg:∀ cl C fp s H,PG (z14 X N scope cl C fp s H) tg g) (ht:TgOk nt g) (hcs:∀ cl C fp s H,PTs (z14 X N scope cl C fp s H) ifs (tc H)) (he:∀ cl C fp s H,PE (z14 X N scope cl C fp s H) elt (te H))
  (hs:∀ x,foldedSetIterable iter X.env x=pure x:=by intro _;rfl):PE X (.ListComp elt [⟨tg,iter,ifs,0⟩] scope pos) (zhV nt js wi g tc te):=by
 intro pins s σ H Q I h
 rw[eval_ListComp]
 refine zco (use:=none) S hc hi hg ht hcs he I h hs ?_
 rintro D C H' s' I' q hC hL hz hcl hpn ⟨m,hm⟩
 exact⟨m,hm,fun h' sb=>⟨.ref D,H',I'.turned (fun b o hb e=>sb.extBut b o hb e) hC hL (.inr hz) hcl hpn,rfl,q⟩⟩
theorem znN{i:Nat}{x:Str}{pos' spos:Pos}(hN:X.N.Nodup)(hix:X.N[i]?=some x)(hx:X.env.scope.names.lookup x=some .local)(S:CompScope X N scope nt js)(hc:X.calm=true)(hi:PI X tg iter wi)
  (hg:∀ cl C fp s H,PG (z14 X N scope cl C fp s H) tg g) (ht:TgOk nt g) (hcs:∀ cl C fp s H,PTs (z14 X N scope cl C fp s H) ifs (tc H)) (he:∀ cl C fp s H,PE (z14 X N scope cl C fp s H) elt (te H))
  (hsw:swapsWith (.ListComp elt [⟨tg,iter,ifs,0⟩] scope pos) (some (.Name x pos')) spos.line X.env=pure true)
  (hs:∀ x,foldedSetIterable iter X.env x=pure x:=by intro _;rfl):PS X (.Assign [.Name x pos'] (.ListComp elt [⟨tg,iter,ifs,0⟩] scope pos) spos) (tAsg (zhV nt js wi g tc te) (z8E i)):=by
 intro pins s σ H D0 I h
 rw[exec_Assign_Name_used _ _ _ _ hsw]
 refine wpAny_bind (wpAny_standAt (wpAny_bind ?_))
 show wpAny _ X.A (do let _ ←comprehension (.ListComp elt [⟨tg,iter,ifs,0⟩] scope pos) scope X.env _ (newList []) false (eval iter X.env) (some (assign (.Name x pos') X.env))) _ _ s
 refine wpAny_bind (wpAny_mono (zco (use:=some (assign (.Name x pos') X.env)) (Q':=fun _ s'=>SP X pins D0 .next s') S hc hi hg ht hcs he I h hs fun D C H' s' I' q hC hL hz hcl hpn hZ=>hZ.elim fun m hm=>?_) (fun _ s' hq=>wpAny_pure (wpAny_pure hq)) fun _ _ e=>e)
 show wpAny _ X.A (assign (.Name x pos') X.env (.ref D)) _ _ s'
 refine wpAny_assign_Name (zaf (v := .ref D) I' hN hix (.inl hx) rfl (fun s'' I'' hZ=>hZ.elim fun a hZ=>hZ.elim fun sb ha=>?_) (.inr hx))
 have hCa:C≠a:=by
  rintro rfl
  rcases ha with ha|ha
  · exact hL ha
  · exact hcl x C ha rfl
 refine⟨m,hm.sameBut sb hCa,fun h' sb'=>⟨_,H',I''.turned (fun b o hb e=>sb'.extBut b o hb e) hC hL (.inr hz) hcl hpn,q⟩⟩
end
end L2

end
section
set_option Elab.async false
set_option linter.all false
set_option maxRecDepth 100000
namespace L2
open PySem PySem.Spec PyProof.Rows
section
variable {X:Cx}
def CDivG(_ j:Int):Prop:=j≠0∧j.natAbs.log2<9000
theorem zjY:OpR X (binaryOp .FloorDiv) (rI CDivG fun i j => .int (i.fdiv j)):=opI fun _ _ _ _ _ _ _ hc q=>floordiv_int hc.1 q (.inl (PyProof.noPylong_of_log2 hc.2))
theorem log2_lt{n k:Nat}(h:n<2 ^ k)(hk:0<k):n.log2<k:=by
 by_cases h0:n=0
 · subst h0;exact hk
 · exact(Nat.log2_lt h0).mpr h
theorem zbF{i:Int}{k:Nat}(h:i.natAbs<2 ^ k):Builtin.Int.intBits i≤k:=by
 unfold Builtin.Int.intBits
 split
 · exact Nat.zero_le _
 · rename_i h0
   have h1:i.natAbs≠0:=by
    intro e
    apply h0
    have:i=0:=Int.natAbs_eq_zero.mp e
    subst this
    rfl
   exact Nat.succ_le_of_lt ((Nat.log2_lt h1).mpr h)
theorem pe_ty{x:Str}{T:String}{pos:Pos}(hg:Gl X x)(hm:X.mg x=none)(hv:bootBuiltins x=some (.type T))(hn:x ≠ "__name__" := by decide)(hd:(x==("__debug__" : Str))=false:=by decide):PE X (.Name x pos) (tC (.ty T)):=znt (v:=V.ty T) hg hm hv rfl hn hd
end
end L2

end
section
set_option Elab.async false
set_option linter.all false
set_option maxRecDepth 100000
namespace L2
open PySem PySem.Spec PyProof.Rows
def hidL(A:List Addr)(H:Hp):Hp:=fun b=>if b∈A then none else H b
def z1i(A:List Addr)(H H':Hp):Hp:=fun b=>if b∈A then H b else H' b
section
variable {A:List Addr}{H H' H1:Hp}{a b:Addr}{o:HO}
theorem z2B(h:b∈A):hidL A H b=none:=if_pos h
theorem z0q(h:b ∉ A):hidL A H b=H b:=if_neg h
theorem z4i(h:hidL A H b=some o):b ∉ A∧H b=some o:=by
 unfold hidL at h
 split at h
 · cases h
 · rename_i q;exact⟨q,h⟩
theorem z0P:Same (hidL A H) H:=fun b o e=>(z4i e).2
theorem zcp:hidL [] H=H:=funext fun b=>by unfold hidL;simp
theorem z5s(h:b∈A):z1i A H H' b=H b:=if_pos h
theorem z1c(h:b ∉ A):z1i A H H' b=H' b:=if_neg h
theorem Same.glue(h:Same (hidL A H) H')(hn:∀ a∈A,H' a=none):Same H (z1i A H H'):=fun b o e=>by
 by_cases q:b∈A
 · rw[z5s q];exact e
 · rw[z1c q];exact h b o (by rw[z0q q];exact e)
theorem z39(hn:∀ a∈A,H' a=none):hidL A (z1i A H H')=H':=funext fun b=>by
 by_cases q:b∈A
 · rw[z2B q,hn b q]
 · rw[z0q q,z1c q]
end
def OwnL(X:Cx)(A:List Addr)(H:Hp):Prop:=∀ a∈A,(∃ vs,H a=some (.lst vs))∧X.H₀ a=none
section
variable {X:Cx}{A:List Addr}{pins:List (Addr×Obj)}{σ:St}{H H':Hp}{s s':Shared}
def zcq(h:Heap)(A:List Addr):List (Addr×Obj):=A.filterMap fun a=>(h.get? a).map fun o=>(a,o)
theorem zan{h:Heap}{a:Addr}{o:Obj}(ha:a∈A)(e:h.get? a=some o):(a,o)∈zcq h A:=List.mem_filterMap.mpr ⟨a,ha,by rw[e];rfl⟩
theorem zjZ{h:Heap}{p:Addr×Obj}(hp:p∈zcq h A):p.1∈A∧h.get? p.1=some p.2:=by
 obtain⟨a,ha,e⟩:=List.mem_filterMap.mp hp
 cases q:h.get? a with
 | none=>rw[q]at e;cases e
 | some o=>rw[q]at e;cases e;exact⟨ha,q⟩
theorem Inv.fsFree(I:Inv X pins σ H s){b:Addr}(hb:b∈X.fs):H b=none:=by
 obtain⟨_,o,ho,_⟩:=I.ok.funs.mem hb
 exact I.base.free b o ho (I.ok.frf b hb) fun z=>I.ok.exfs b z hb
theorem Inv.hide(I:Inv X pins σ H s)(hA:OwnL X A H):Inv X (pins++zcq s.heap A) σ (hidL A H) s:=by
 have nl:∀ b o,H b=some o→(∀ vs,o ≠ .lst vs)→b ∉ A:=fun b o e n hb=>by
   obtain⟨⟨vs,q⟩,_⟩:=hA b hb
   rw[e]at q
   exact n vs (Option.some.inj q)
 refine⟨I.ok,I.os,I.bare,⟨I.base.keep,I.base.slot,fun b o e n hx=>?_,I.base.there,fun b xs e=>?_,fun b o u e=>?_,fun b ps e=>?_⟩,I.loc,I.cell,?_,fun x c e=>?_,fun p hp=>?_,fun a o e=>?_,I.len⟩
 · have:=I.base.free b o e n hx
   unfold hidL
   split
   · rfl
   · exact this
 · have:=I.base.tups b xs e
   rw[z0q (nl b _ this fun _ z=>by cases z)];exact this
 · have:=I.base.frzs b o u e
   rw[z0q (nl b _ this fun _ z=>by cases z)];exact this
 · obtain⟨more,this⟩:=I.base.tbls b ps e
   exact⟨more,by rw[z0q (nl b _ this fun _ z=>by cases z)];exact this⟩
 · have:=I.free
   unfold hidL
   split
   · rfl
   · exact this
 · have:=I.freeC x c e
   unfold hidL
   split
   · rfl
   · exact this
 · rw[←List.append_assoc]at hp
   rcases List.mem_append.mp hp with hp|hp
   · obtain⟨q1,q2,q3⟩:=I.pin p hp
     refine⟨q1,?_,q3⟩
     unfold hidL
     split
     · rfl
     · exact q2
   · obtain⟨q1,q2⟩:=zjZ hp
     obtain⟨⟨vs,q⟩,_⟩:=hA _ q1
     refine⟨q2,z2B q1,fun z=>?_,fun z=>?_,fun v z=>?_⟩
     · rw[z,I.free]at q;cases q
     · rw[I.fsFree z]at q;cases q
     · obtain⟨_,its,n,_,e⟩:=I.hok _ _ q
       rw[q2]at e
       have e:=Option.some.inj e
       rw[e]at z
       cases z
 · obtain⟨q1,q2⟩:=z4i e
   refine(I.hok a o q2).stay (fun b u _ z=>z) (fun b z=>?_) (fun b xs z=>?_)
   · rw[z0q (nl b _ z fun _ z=>by cases z)];exact z
   · rw[z0q (nl b _ z fun _ z=>by cases z)];exact z
theorem Inv.unhide{σ':St}(I:Inv X pins σ H s)(hA:OwnL X A H)(J:Inv X (pins++zcq s.heap A) σ' H' s'):(∀ a∈A,H' a=none)∧Inv X pins σ' (z1i A H H') s':=by
 have pn:∀ a∈A,∃ o,s.heap.get? a=some o∧s'.heap.get? a=some o∧H' a=none:=fun a ha=>by
   obtain⟨⟨vs,q⟩,_⟩:=hA a ha
   obtain⟨_,its,n,_,e⟩:=I.hok _ _ q
   have:=J.pin _ (List.mem_append_right _ (List.mem_append_right _ (zan ha e)))
   exact⟨_,e,this.1,this.2.1⟩
 have hn:∀ a∈A,H' a=none:=fun a ha=>by obtain⟨o,_,_,q⟩:=pn a ha;exact q
 have out:∀ b,H b=none→b ∉ A:=fun b e hb=>by
   obtain⟨⟨vs,q⟩,_⟩:=hA b hb
   rw[e]at q;cases q
 have tr:∀ b o,H' b=some o→b ∉ A:=fun b o e hb=>by rw[hn b hb]at e;cases e
 refine⟨hn,J.ok,J.os,J.bare,⟨J.base.keep,J.base.slot,fun b o e n hx=>?_,J.base.there,fun b xs e=>?_,fun b o u e=>?_,fun b ps e=>?_⟩,J.loc,J.cell,?_,fun x c e=>?_,fun p hp=>?_,fun a o e=>?_,J.len⟩
 · rw[z1c (out b (I.base.free b o e n hx))];exact J.base.free b o e n hx
 · have:=J.base.tups b xs e
   rw[z1c (tr b _ this)];exact this
 · have:=J.base.frzs b o u e
   rw[z1c (tr b _ this)];exact this
 · obtain⟨more,this⟩:=J.base.tbls b ps e
   exact⟨more,by rw[z1c (tr b _ this)];exact this⟩
 · rw[z1c (out _ I.free)];exact J.free
 · rw[z1c (out _ (I.freeC x c e))];exact J.freeC x c e
 · have hp':p∈X.pn++(pins++zcq s.heap A):=by
     rw[←List.append_assoc];exact List.mem_append_left _ hp
   obtain⟨q1,q2,q3⟩:=J.pin p hp'
   refine⟨q1,?_,q3⟩
   rw[z1c (out _ (I.pin p hp).2.1)];exact q2
 · by_cases ha:a∈A
   · rw[z5s ha]at e
     obtain⟨⟨vs,q⟩,_⟩:=hA a ha
     rw[q]at e
     cases e
     obtain⟨hz,its,n,r,e1⟩:=I.hok _ _ q
     obtain⟨o,e2,e3,_⟩:=pn a ha
     rw[e1]at e2
     cases e2
     exact⟨hz,its,n,r,e3⟩
   · rw[z1c ha]at e
     refine(J.hok a o e).stay (fun b u _ z=>z) (fun b z=>?_) (fun b xs z=>?_)
     · rw[z1c (tr b _ z)];exact z
     · rw[z1c (tr b _ z)];exact z
theorem PE.frame{e:Expr}{t:TE}(h:PE X e t):PE X e (fun σ H Q=>∃ A,OwnL X A H∧t σ (hidL A H) fun v H'=>(∀ a∈A,H' a=none)→Q v (z1i A H H')):=by
 intro pins s σ H Q I ⟨A,hA,z⟩
 refine thn (h _ s σ _ _ (I.hide hA) z) ?_
 rintro u s' ⟨v,H',J,r,q⟩
 obtain⟨hn,J'⟩:=I.unhide hA J
 exact⟨v,_,J',r,q hn⟩
theorem PA.frame{es:List Expr}{t:TA}(h:PA X es t):PA X es (fun σ H Q=>∃ A,OwnL X A H∧t σ (hidL A H) fun v H'=>(∀ a∈A,H' a=none)→Q v (z1i A H H')):=by
 intro pos pins s σ H Q I ⟨A,hA,z⟩
 refine thn (h pos _ s σ _ _ (I.hide hA) z) ?_
 rintro u s' ⟨v,H',J,r,q⟩
 obtain⟨hn,J'⟩:=I.unhide hA J
 exact⟨v,_,J',r,q hn⟩
theorem PT.frame{e:Expr}{t:TT}(h:PT X e t):PT X e (fun σ H Q=>∃ A,OwnL X A H∧t σ (hidL A H) fun v H'=>(∀ a∈A,H' a=none)→Q v (z1i A H H')):=by
 intro pins s σ H Q I ⟨A,hA,z⟩
 refine thn (h _ s σ _ _ (I.hide hA) z) ?_
 rintro u s' ⟨H',J,q⟩
 obtain⟨hn,J'⟩:=I.unhide hA J
 exact⟨_,J',q hn⟩
def hidD(A:List Addr)(H:Hp)(D:Ends):Ends where
 nx:=fun σ H'=>(∀ a∈A,H' a=none)→D.nx σ (z1i A H H')
 rt:=fun v H'=>(∀ a∈A,H' a=none)→D.rt v (z1i A H H')
 bk:=fun σ H'=>(∀ a∈A,H' a=none)→D.bk σ (z1i A H H')
 ct:=fun σ H'=>(∀ a∈A,H' a=none)→D.ct σ (z1i A H H')
theorem PS.frame{st:Stmt}{t:TS}(h:PS X st t):PS X st (fun D σ H=>∃ A,OwnL X A H∧t (hidD A H D) σ (hidL A H)):=by
 intro pins s σ H D I ⟨A,hA,z⟩
 refine thn (h _ s σ _ _ (I.hide hA) z) fun f s' q=>?_
 cases f with
 | next=>obtain⟨σ',H',J,q⟩:=q;obtain⟨hn,J'⟩:=I.unhide hA J;exact⟨_,_,J',q hn⟩
 | brk=>obtain⟨σ',H',J,q⟩:=q;obtain⟨hn,J'⟩:=I.unhide hA J;exact⟨_,_,J',q hn⟩
 | cont=>obtain⟨σ',H',J,q⟩:=q;obtain⟨hn,J'⟩:=I.unhide hA J;exact⟨_,_,J',q hn⟩
 | ret u=>obtain⟨v,σ',H',J,r,q⟩:=q;obtain⟨hn,J'⟩:=I.unhide hA J;exact⟨_,_,_,J',r,q hn⟩
theorem PI.frame{tg e:Expr}{t:TI}(h:PI X tg e t):PI X tg e (fun σ H R=>∃ A,OwnL X A H∧t σ (hidL A H) fun J H'=>(∀ a∈A,H' a=none)→R J (z1i A H H')):=by
 intro pins s σ H R I ⟨A,hA,z⟩
 refine thn (h _ s σ _ _ (I.hide hA) z) fun v s1 q=>thn q ?_
 rintro itv s2 ⟨it,fp,tn,J,H',e,I2,T,st,hf,r⟩
 obtain⟨hn,I3⟩:=I.unhide hA I2
 refine⟨it,fp,tn,J,_,e,I3,T,st,fun b hb=>?_,r hn⟩
 obtain⟨f1,f2,f3,f4,f5,f6⟩:=hf b hb
 have hbA:b ∉ A:=fun ha=>by
  obtain⟨⟨vs,q⟩,_⟩:=hA b ha
  obtain⟨_,its,n,_,e⟩:=I.hok _ _ q
  exact f6 _ (List.mem_append_right _ (List.mem_append_right _ (zan ha e))) rfl
 refine⟨by rw[z1c hbA];exact f1,f2,f3,f4,f5,fun p hp=>f6 p ?_⟩
 rw[←List.append_assoc];exact List.mem_append_left _ hp
end
end L2

end
section
set_option Elab.async false
set_option linter.all false
set_option maxRecDepth 100000
namespace L2
open PySem PySem.Spec PyProof.Rows
inductive Dt where
 | non|bl (b:Bool)|int (i:Int)|str (x:Str)|lst (xs:List Dt)|tup (xs:List Dt)|scr (ns:List Int)
def emp:Hp:=fun _=>none
theorem z8K{A C:List Addr}{H:Hp}:hidL A (hidL C H)=hidL C (hidL A H):=funext fun b=>by
 unfold hidL
 by_cases p:b∈A<;>by_cases q:b∈C<;>simp[p,q]
theorem z1Y{A:List Addr}{H H':Hp}(h:Same H H'):Same (hidL A H) (hidL A H'):=fun b o e=>by
 obtain⟨q1,q2⟩:=z4i e
 rw[z0q q1];exact h b o q2
theorem z3N{A B:List Addr}{H:Hp}(h:∀ a∈B,a∈A):Same (hidL A H) (hidL B H):=fun b o e=>by
 obtain⟨q1,q2⟩:=z4i e
 rw[z0q fun z=>q1 (h b z)];exact q2
theorem Same.seqT{K:PySem.W.Frag}{H H':Hp}{a:Addr}{xs:List V}(e:Same H H')(h:SqT K H a xs):SqT K H' a xs:=by
 rcases h with(h|⟨o,h⟩)|h
 · exact .inl (.inl (e _ _ h))
 · exact .inl (.inr ⟨o,e _ _ h⟩)
 · exact .inr h
theorem Same.emp{H:Hp}:Same emp H:=fun _ _ e=>by cases e
mutual
def Rp(K:PySem.W.Frag)(B:Hp):Dt→Hp→V→Prop
 | .non,_,v=>v = .non
 | .bl b,_,v=>v = .bl b
 | .int i,_,v=>v = .int i
 | .str x,_,v=>v = .str x
 | .lst ds,H,v=>∃ a vs,v = .ref a∧B a=none∧H a=some (.lst vs)∧Rps K B ds (hidL [a] H) vs
 | .tup ds,H,v=>∃ a vs,v = .ref a∧SqT K H a vs∧Rps K B ds H vs
 | .scr ns,H,v=>∃ a,v = .ref a∧B a=none∧SqL K H a (ns.map V.int)
def Rps(K:PySem.W.Frag)(B:Hp):List Dt→Hp→List V→Prop
 | [],_,vs=>vs=[]
 | d::ds,H,vs=>∃ v r,vs=v::r∧Rp K B d H v∧Rps K B ds H r
end
section
variable {K:PySem.W.Frag}{B B' H H':Hp}
theorem Rp.int_{i:Int}{v:V}:Rp K B (.int i) H v↔v = .int i:=by unfold Rp;exact Iff.rfl
theorem Rp.bl_{b:Bool}{v:V}:Rp K B (.bl b) H v↔v = .bl b:=by unfold Rp;exact Iff.rfl
theorem Rp.non_{v:V}:Rp K B .non H v↔v = .non:=by unfold Rp;exact Iff.rfl
theorem Rp.str_{x:Str}{v:V}:Rp K B (.str x) H v↔v = .str x:=by unfold Rp;exact Iff.rfl
theorem Rp.lst_{ds:List Dt}{v:V}:Rp K B (.lst ds) H v↔∃ a vs,v = .ref a∧B a=none∧H a=some (.lst vs)∧Rps K B ds (hidL [a] H) vs:=by rw[Rp]
theorem Rp.tup_{ds:List Dt}{v:V}:Rp K B (.tup ds) H v↔∃ a vs,v = .ref a∧SqT K H a vs∧Rps K B ds H vs:=by rw[Rp]
theorem Rp.scr_{ns:List Int}{v:V}:Rp K B (.scr ns) H v↔∃ a,v = .ref a∧B a=none∧SqL K H a (ns.map V.int):=by rw[Rp]
theorem Rps.nil_{vs:List V}:Rps K B [] H vs↔vs=[]:=by rw[Rps]
theorem Rps.cons_{d:Dt}{ds:List Dt}{vs:List V}:Rps K B (d::ds) H vs↔∃ v r,vs=v::r∧Rp K B d H v∧Rps K B ds H r:=by rw[Rps]
mutual
theorem Rp.mono:∀(d:Dt) {H H':Hp} {v:V},Same H H'→Rp K B d H v→Rp K B d H' v
 | .non,_,_,v,e,h=>by unfold Rp at h ⊢;exact h
 | .bl b,_,_,v,e,h=>by unfold Rp at h ⊢;exact h
 | .int i,_,_,v,e,h=>by unfold Rp at h ⊢;exact h
 | .str x,_,_,v,e,h=>by unfold Rp at h ⊢;exact h
 | .lst ds,_,_,v,e,h=>by
  unfold Rp at h ⊢
  obtain⟨a,vs,rfl,h0,h1,h2⟩:=h
  exact⟨a,vs,rfl,h0,e _ _ h1,Rps.mono ds (z1Y e) h2⟩
 | .tup ds,_,_,v,e,h=>by
  unfold Rp at h ⊢
  obtain⟨a,vs,rfl,h1,h2⟩:=h
  exact⟨a,vs,rfl,e.seqT h1,Rps.mono ds e h2⟩
 | .scr ns,_,_,v,e,h=>by
  unfold Rp at h ⊢
  obtain⟨a,rfl,h0,h1⟩:=h
  exact⟨a,rfl,h0,e.seq h1⟩
theorem Rps.mono:∀(ds:List Dt) {H H':Hp} {vs:List V},Same H H'→Rps K B ds H vs→Rps K B ds H' vs
 | [],_,_,vs,e,h=>by unfold Rps at h ⊢;exact h
 | d::ds,_,_,vs,e,h=>by
  unfold Rps at h ⊢
  obtain⟨v,r,rfl,h1,h2⟩:=h
  exact⟨v,r,rfl,Rp.mono d e h1,Rps.mono ds e h2⟩
end
mutual
theorem Rp.anti(e:Same B' B):∀(d:Dt) {H:Hp} {v:V},Rp K B d H v→Rp K B' d H v
 | .non,_,v,h=>by unfold Rp at h ⊢;exact h
 | .bl b,_,v,h=>by unfold Rp at h ⊢;exact h
 | .int i,_,v,h=>by unfold Rp at h ⊢;exact h
 | .str x,_,v,h=>by unfold Rp at h ⊢;exact h
 | .lst ds,_,v,h=>by
  unfold Rp at h ⊢
  obtain⟨a,vs,rfl,h0,h1,h2⟩:=h
  exact⟨a,vs,rfl,e.free h0,h1,Rps.anti e ds h2⟩
 | .tup ds,_,v,h=>by
  unfold Rp at h ⊢
  obtain⟨a,vs,rfl,h1,h2⟩:=h
  exact⟨a,vs,rfl,h1,Rps.anti e ds h2⟩
 | .scr ns,_,v,h=>by
  unfold Rp at h ⊢
  obtain⟨a,rfl,h0,h1⟩:=h
  exact⟨a,rfl,e.free h0,h1⟩
theorem Rps.anti(e:Same B' B):∀(ds:List Dt) {H:Hp} {vs:List V},Rps K B ds H vs→Rps K B' ds H vs
 | [],_,vs,h=>by unfold Rps at h ⊢;exact h
 | d::ds,_,vs,h=>by
  unfold Rps at h ⊢
  obtain⟨v,r,rfl,h1,h2⟩:=h
  exact⟨v,r,rfl,Rp.anti e d h1,Rps.anti e ds h2⟩
end
theorem SqT.hid{A:List Addr}{a:Addr}{xs:List V}(hA:∀ b∈A,∀ o,H b=some o→∃ vs,o = .lst vs)(h:SqT K H a xs):SqT K (hidL A H) a xs:=by
 rcases h with(h|⟨o,h⟩)|h
 · refine .inl (.inl ?_)
   rw[z0q fun z=>by obtain⟨vs,e⟩:=hA a z _ h;cases e];exact h
 · refine .inl (.inr ⟨o,?_⟩)
   rw[z0q fun z=>by obtain⟨vs,e⟩:=hA a z _ h;cases e];exact h
 · exact .inr h
theorem SqL.hid{A:List Addr}{a:Addr}{xs:List V}(hA:a ∉ A)(h:SqL K H a xs):SqL K (hidL A H) a xs:=by
 rcases h with(h|⟨o,h⟩)|h
 · exact .inl (.inl (by rw[z0q hA];exact h))
 · exact .inl (.inr ⟨o,by rw[z0q hA];exact h⟩)
 · exact .inr h
mutual
theorem Rp.hid{A:List Addr}(hB:∀ b∈A,B b≠none):∀(d:Dt) {H:Hp} {v:V},(∀ b∈A,∀ o,H b=some o→∃ vs,o = .lst vs)→Rp K B d H v→Rp K B d (hidL A H) v
 | .non,_,v,_,h=>by unfold Rp at h ⊢;exact h
 | .bl b,_,v,_,h=>by unfold Rp at h ⊢;exact h
 | .int i,_,v,_,h=>by unfold Rp at h ⊢;exact h
 | .str x,_,v,_,h=>by unfold Rp at h ⊢;exact h
 | .lst ds,H,v,hA,h=>by
  unfold Rp at h ⊢
  obtain⟨a,vs,rfl,h0,h1,h2⟩:=h
  refine⟨a,vs,rfl,h0,by rw[z0q fun z=>hB a z h0];exact h1,?_⟩
  rw[z8K]
  exact Rps.hid hB ds (fun b hb o e=>hA b hb o (z4i e).2) h2
 | .tup ds,H,v,hA,h=>by
  unfold Rp at h ⊢
  obtain⟨a,vs,rfl,h1,h2⟩:=h
  exact⟨a,vs,rfl,h1.hid hA,Rps.hid hB ds hA h2⟩
 | .scr ns,H,v,hA,h=>by
  unfold Rp at h ⊢
  obtain⟨a,rfl,h0,h1⟩:=h
  exact⟨a,rfl,h0,h1.hid fun z=>hB a z h0⟩
theorem Rps.hid{A:List Addr}(hB:∀ b∈A,B b≠none):∀(ds:List Dt) {H:Hp} {vs:List V},(∀ b∈A,∀ o,H b=some o→∃ vs,o = .lst vs)→Rps K B ds H vs→Rps K B ds (hidL A H) vs
 | [],_,vs,_,h=>by unfold Rps at h ⊢;exact h
 | d::ds,_,vs,hA,h=>by
  unfold Rps at h ⊢
  obtain⟨v,r,rfl,h1,h2⟩:=h
  exact⟨v,r,rfl,Rp.hid hB d hA h1,Rps.hid hB ds hA h2⟩
end
end
mutual
def Dt.flat:Dt→Bool
 | .lst _=>false
 | .scr _=>false
 | .tup ds=>z1x ds
 | _=>true
def z1x:List Dt→Bool
 | []=>true
 | d::ds=>d.flat&&z1x ds
end
section
variable {K:PySem.W.Frag}{B B' H H':Hp}
mutual
theorem Rp.flat:∀(d:Dt) {H:Hp} {v:V},d.flat=true→Rp K B d H v→Rp K B' d H v
 | .non,_,v,_,h=>by unfold Rp at h ⊢;exact h
 | .bl b,_,v,_,h=>by unfold Rp at h ⊢;exact h
 | .int i,_,v,_,h=>by unfold Rp at h ⊢;exact h
 | .str x,_,v,_,h=>by unfold Rp at h ⊢;exact h
 | .lst ds,_,v,f,h=>by unfold Dt.flat at f;cases f
 | .tup ds,_,v,f,h=>by
  unfold Dt.flat at f
  unfold Rp at h ⊢
  obtain⟨a,vs,rfl,h1,h2⟩:=h
  exact⟨a,vs,rfl,h1,Rps.flat ds f h2⟩
 | .scr ns,_,v,f,h=>by unfold Dt.flat at f;cases f
theorem Rps.flat:∀(ds:List Dt) {H:Hp} {vs:List V},z1x ds=true→Rps K B ds H vs→Rps K B' ds H vs
 | [],_,vs,_,h=>by unfold Rps at h ⊢;exact h
 | d::ds,_,vs,f,h=>by
  unfold z1x at f
  rw[Bool.and_eq_true]at f
  unfold Rps at h ⊢
  obtain⟨v,r,rfl,h1,h2⟩:=h
  exact⟨v,r,rfl,Rp.flat d f.1 h1,Rps.flat ds f.2 h2⟩
end
theorem Rps.length:∀{ds:List Dt} {vs:List V},Rps K B ds H vs→vs.length=ds.length
 | [],vs,h=>by rw[Rps.nil_.mp h];rfl
 | d::ds,vs,h=>by
  obtain⟨v,r,rfl,_,h2⟩:=Rps.cons_.mp h
  rw[List.length_cons,List.length_cons,Rps.length h2]
theorem Rps.get:∀{ds:List Dt} {vs:List V} {i:Nat} {d:Dt},Rps K B ds H vs→ds[i]?=some d→∃ v,vs[i]?=some v∧Rp K B d H v
 | [],vs,i,d,_,e=>by simp at e
 | c::ds,vs,0,d,h,e=>by
  obtain⟨v,r,rfl,h1,_⟩:=Rps.cons_.mp h
  simp at e;subst e
  exact⟨v,rfl,h1⟩
 | c::ds,vs,i+1,d,h,e=>by
  obtain⟨v,r,rfl,_,h2⟩:=Rps.cons_.mp h
  have e:ds[i]?=some d:=by simpa using e
  obtain⟨u,q1,q2⟩:=Rps.get h2 e
  exact⟨u,by simpa using q1,q2⟩
theorem Rps.append:∀{ds ds':List Dt} {vs vs':List V},Rps K B ds H vs→Rps K B ds' H vs'→Rps K B (ds++ds') H (vs++vs')
 | [],ds',vs,vs',h,h'=>by rw[Rps.nil_.mp h];exact h'
 | d::ds,ds',vs,vs',h,h'=>by
  obtain⟨v,r,rfl,h1,h2⟩:=Rps.cons_.mp h
  exact Rps.cons_.mpr ⟨v,r++vs',rfl,h1,Rps.append h2 h'⟩
theorem Rps.one{d:Dt}{v:V}(h:Rp K B d H v):Rps K B [d] H [v]:=Rps.cons_.mpr ⟨v,[],rfl,h,Rps.nil_.mpr rfl⟩
theorem Rps.take:∀{ds:List Dt} {vs:List V} (n:Nat),Rps K B ds H vs→Rps K B (ds.take n) H (vs.take n)
 | ds,vs,0,_=>by rw[List.take_zero,List.take_zero];exact Rps.nil_.mpr rfl
 | [],vs,n+1,h=>by rw[Rps.nil_.mp h];exact Rps.nil_.mpr rfl
 | d::ds,vs,n+1,h=>by
  obtain⟨v,r,rfl,h1,h2⟩:=Rps.cons_.mp h
  exact Rps.cons_.mpr ⟨v,r.take n,rfl,h1,Rps.take n h2⟩
theorem Rps.drop:∀{ds:List Dt} {vs:List V} (n:Nat),Rps K B ds H vs→Rps K B (ds.drop n) H (vs.drop n)
 | ds,vs,0,h=>h
 | [],vs,n+1,h=>by rw[Rps.nil_.mp h];exact Rps.nil_.mpr rfl
 | d::ds,vs,n+1,h=>by
  obtain⟨v,r,rfl,h1,h2⟩:=Rps.cons_.mp h
  exact Rps.drop n h2
theorem Rps.set:∀{ds:List Dt} {vs:List V} (i:Nat) {d:Dt} {v:V},Rps K B ds H vs→Rp K B d H v→Rps K B (ds.set i d) H (vs.set i v)
 | [],vs,i,d,v,h,_=>by rw[Rps.nil_.mp h];exact Rps.nil_.mpr rfl
 | c::ds,vs,0,d,v,h,q=>by
  obtain⟨u,r,rfl,h1,h2⟩:=Rps.cons_.mp h
  exact Rps.cons_.mpr ⟨v,r,rfl,q,h2⟩
 | c::ds,vs,i+1,d,v,h,q=>by
  obtain⟨u,r,rfl,h1,h2⟩:=Rps.cons_.mp h
  exact Rps.cons_.mpr ⟨u,r.set i v,rfl,h1,Rps.set i h2 q⟩
theorem Rps.reverse:∀{ds:List Dt} {vs:List V},Rps K B ds H vs→Rps K B ds.reverse H vs.reverse
 | [],vs,h=>by rw[Rps.nil_.mp h];exact Rps.nil_.mpr rfl
 | d::ds,vs,h=>by
  obtain⟨v,r,rfl,h1,h2⟩:=Rps.cons_.mp h
  rw[List.reverse_cons,List.reverse_cons]
  exact Rps.append (Rps.reverse h2) (Rps.one h1)
theorem zcr{p:Addr}{o:HO}(h:H p=none):hidL [p] (upd H p o)=H:=funext fun b=>by
 by_cases q:b=p
 · subst q;rw[z2B (by simp),h]
 · rw[z0q (by simpa using q),z0v q]
theorem z1m{p:Addr}{o:HO}(h:H p=none):Same H (upd H p o):=fun b u e=>by rw[z0v (z2m e h)];exact e
theorem Rp.new{ds:List Dt}{vs:List V}{p:Addr}(hp:H p=none)(hB:B p=none)(r:Rps K B ds H vs):Rp K B (.lst ds) (upd H p (.lst vs)) (.ref p) :=
 Rp.lst_.mpr ⟨p,vs,rfl,hB,z10,by rw[zcr hp];exact r⟩
end
inductive Fl where
 | sh|tn|fr|nw
def Fl.isNw:Fl→Bool
 | .nw=>true
 | _=>false
def Fl.isFr:Fl→Bool
 | .nw=>true
 | .fr=>true
 | _=>false
abbrev Dv:=Fl×Dt
def nrm(f:Fl)(d:Dt):Dv:=(if d.flat then .nw else f,d)
structure Ky where
 K:PySem.W.Frag
 H₀:Hp
abbrev Cx.ky(X:Cx):Ky:=⟨X.K,X.H₀⟩
def RpF(X:Ky)(H:Hp)(f:Fl)(d:Dt)(H':Hp)(v:V):Prop:=match f with
 | .sh=>Rp X.K emp d H' v
 | .tn=>Rp X.K emp d H' v∧(∃ ds,d = .lst ds)∧∀ a,v = .ref a→H a=none
 | .fr=>Rp X.K X.H₀ d H' v
 | .nw=>Rp X.K H d H' v
section
variable {X:Ky}{H H' H1:Hp}{f:Fl}{d:Dt}{v:V}
theorem RpF.sh(h:RpF X H f d H' v):Rp X.K emp d H' v:=by
 cases f with
 | sh=>exact h
 | tn=>exact h.1
 | fr=>exact Rp.anti Same.emp d h
 | nw=>exact Rp.anti Same.emp d h
theorem RpF.fr(h0:Same X.H₀ H)(e:f.isFr=true)(h:RpF X H f d H' v):Rp X.K X.H₀ d H' v:=by
 cases f with
 | sh=>cases e
 | tn=>cases e
 | fr=>exact h
 | nw=>exact Rp.anti h0 d h
theorem RpF.mono(h:RpF X H f d H' v)(s:Same H' H1):RpF X H f d H1 v:=by
 cases f with
 | sh=>exact Rp.mono d s h
 | tn=>exact⟨Rp.mono d s h.1,h.2⟩
 | fr=>exact Rp.mono d s h
 | nw=>exact Rp.mono d s h
theorem RpF.early(s:Same H H1)(h:RpF X H1 f d H' v):RpF X H f d H' v:=by
 cases f with
 | sh=>exact h
 | tn=>exact⟨h.1,h.2.1,fun a e=>s.free (h.2.2 a e)⟩
 | fr=>exact h
 | nw=>exact Rp.anti s d h
theorem RpF.nrm(h:RpF X H f d H' v):RpF X H (nrm f d).1 d H' v:=by
 unfold L2.nrm
 by_cases q:d.flat=true
 · rw[if_pos q];exact Rp.flat d q h.sh
 · rw[if_neg q];exact h
theorem RpF.scal(q:d.flat=true)(h:Rp X.K emp d H' v):RpF X H .nw d H' v:=Rp.flat d q h
end
inductive Cell where
 | no|sh (f:Bool) (d:Dt)|ow (f:Bool) (ds:List Dt)
abbrev Rho:=List Cell
def flOf(f:Bool):Fl:=if f then .fr else .sh
def Cell.val:Cell→Option Dv
 | .no=>none
 | .sh f d=>some (nrm (flOf f) d)
 | .ow f ds=>some (flOf f,.lst ds)
def zao(ρ:Rho)(i:Nat):Option Dv:=(ρ[i]?).bind Cell.val
def bsOf(X:Ky)(f:Bool):Hp:=if f then X.H₀ else emp
def RpC(X:Ky)(H:Hp):Cell→Option V→Prop
 | .no,_=>True
 | .sh f d,o=>∃ v,o=some v∧Rp X.K (bsOf X f) d H v
 | .ow f ds,o=>∃ v,o=some v∧Rp X.K (bsOf X f) (.lst ds) H v
structure RepS(X:Ky)(H:Hp)(ρ:Rho)(σ:St):Prop where
 len:ρ.length=σ.length
 base:Same X.H₀ H
 at_:∀(i:Nat) (c:Cell),ρ[i]?=some c→∃ o,σ[i]?=some o∧RpC X H c o
section
variable {X:Ky}{H H':Hp}{ρ:Rho}{σ:St}
theorem RpC.mono(e:Same H H'){c:Cell}{o:Option V}(h:RpC X H c o):RpC X H' c o:=by
 cases c with
 | no=>trivial
 | sh f d=>obtain⟨v,q,r⟩:=h;exact⟨v,q,Rp.mono d e r⟩
 | ow f ds=>obtain⟨v,q,r⟩:=h;exact⟨v,q,Rp.mono _ e r⟩
theorem RepS.mono(h:RepS X H ρ σ)(e:Same H H'):RepS X H' ρ σ:=⟨h.len,h.base.trans e,fun i c q=>by obtain⟨o,q1,q2⟩:=h.at_ i c q;exact⟨o,q1,q2.mono e⟩⟩
theorem zk0{f:Bool}{d:Dt}{v:V}(h:Rp X.K (bsOf X f) d H v):RpF X H (flOf f) d H v:=by
 cases f with
 | false=>exact h
 | true=>exact h
theorem RepS.val(h:RepS X H ρ σ){i:Nat}{f:Fl}{d:Dt}(e:zao ρ i=some (f,d)):∃ v,σ[i]?=some (some v)∧RpF X H f d H v:=by
 unfold zao at e
 cases q:ρ[i]? with
 | none=>rw[q]at e;cases e
 | some c =>
  rw[q]at e
  obtain⟨o,q1,q2⟩:=h.at_ i c q
  cases c with
  | no=>cases e
  | sh f' d' =>
   obtain⟨v,rfl,r⟩:=q2
   have e:nrm (flOf f') d'=(f,d):=Option.some.inj e
   have r':=(zk0 r).nrm
   refine⟨v,q1,?_⟩
   have e1:d'=d:=congrArg Prod.snd e
   subst e1
   rw[e]at r'
   exact r'
  | ow f' ds =>
   obtain⟨v,rfl,r⟩:=q2
   cases e
   exact⟨v,q1,zk0 r⟩
end
end L2

end
section
set_option Elab.async false
set_option linter.all false
set_option maxRecDepth 100000
namespace L2
open PySem PySem.Spec PyProof.Rows
theorem PE.imp{X:Cx}{e:Expr}{t t':TE}(h:PE X e t)(q:∀ σ H Q,t' σ H Q→t σ H Q):PE X e t':=fun pins s σ H Q I z=>h pins s σ H Q I (q σ H Q z)
theorem PT.imp{X:Cx}{e:Expr}{t t':TT}(h:PT X e t)(q:∀ σ H Q,t' σ H Q→t σ H Q):PT X e t':=fun pins s σ H Q I z=>h pins s σ H Q I (q σ H Q z)
theorem PW.imp{X:Cx}{e:Expr}{t t':TT}(h:PW X e t)(q:∀ σ H Q,t' σ H Q→t σ H Q):PW X e t':=fun whole pins s σ H Q I z=>h whole pins s σ H Q I (q σ H Q z)
theorem PA.imp{X:Cx}{es:List Expr}{t t':TA}(h:PA X es t)(q:∀ σ H Q,t' σ H Q→t σ H Q):PA X es t':=fun pos pins s σ H Q I z=>h pos pins s σ H Q I (q σ H Q z)
theorem z05{α β:Type}{o:Option α}{f:α→Option β}{b:β}(h:o.bind f=some b):∃ a,o=some a∧f a=some b:=by
 cases o with
 | none=>cases h
 | some a=>exact⟨a,rfl,h⟩
section
variable {X:Ky}{H H':Hp}
theorem RpF.i_{i:Int}:RpF X H .nw (.int i) H' (.int i):=(Rp.int_ (K:=X.K) (B:=H) (H:=H')).mpr rfl
theorem RpF.b_{i:Bool}:RpF X H .nw (.bl i) H' (.bl i):=(Rp.bl_ (K:=X.K) (B:=H) (H:=H')).mpr rfl
end
abbrev FE:=Rho→Option Dv
abbrev FT:=Rho→Option Bool
abbrev FA:=Rho→Option (List Dv)
def upK(Y:Ky)(F:FE):TE:=fun σ H Q=>∃ ρ f d,RepS Y H ρ σ∧F ρ=some (f,d)∧∀ v H',Same H H'→RpF Y H f d H' v→Q v H'
abbrev upF(X:Cx)(F:FE):TE:=upK X.ky F
def PF(X:Cx)(e:Expr)(F:FE):Prop:=PE X e (upF X F)
def upBK(Y:Ky)(F:FT):TT:=fun σ H Q=>∃ ρ b,RepS Y H ρ σ∧F ρ=some b∧∀ H',Same H H'→Q b H'
abbrev upB(X:Cx)(F:FT):TT:=upBK X.ky F
def PFT(X:Cx)(e:Expr)(F:FT):Prop:=PT X e (upB X F)
def PFW(X:Cx)(e:Expr)(F:FT):Prop:=PW X e (upB X F)
theorem PFW.pt{X:Cx}{e:Expr}{F:FT}(h:PFW X e F):PFT X e F:=PW.pt h
section
variable {X:Cx}{a b c e:Expr}{Fa Fb Fc:FE}{pos:Pos}
def fN(i:Nat):FE:=fun ρ=>zao ρ i
theorem z00(i:Nat){x:Str}{pos:Pos}(hN:X.N[i]?=some x:=by rfl)(hv:Vis X.env.scope x:=by first|exact Or.inl rfl|exact Or.inr (Or.inl rfl)|exact Or.inr (Or.inr rfl))(hd:(x==("__debug__" : Str))=false:=by decide)
  (hcd:(x==("__classdict__" : Str))=false:=by decide):PF X (.Name x pos) (fN i) :=
 (zbA hN hv hd hcd).imp fun σ H Q ⟨ρ,f,d,rs,e,k⟩=>by
  obtain⟨v,e1,e2⟩:=rs.val e
  exact⟨v,e1,k v H (Same.refl H) e2⟩
def fC(d:Dt):FE:=fun _=>some (.nw,d)
theorem z09{i:Int}{j:Nat}:PF X (.Constant (.int i) j pos) (fC (.int i)):=pe_int.imp (by rintro σ H Q ⟨ρ,f,d,rs,e,k⟩;cases e;exact k _ H (Same.refl H) RpF.i_)
theorem p_bl{v:Bool}{j:Nat}:PF X (.Constant (.bool v) j pos) (fC (.bl v)):=pe_bl.imp (by rintro σ H Q ⟨ρ,f,d,rs,e,k⟩;cases e;exact k _ H (Same.refl H) RpF.b_)
theorem zk1{x:Str}{i:Int}{t:Tok}(hg:Gl X x)(hm:X.mg x=some (.int i t))(hd:(x==("__debug__" : Str))=false:=by decide):PF X (.Name x pos) (fC (.int i)) :=
 (zhP (v:=V.int i) hg hm ⟨t,rfl⟩ hd).imp (by rintro σ H Q ⟨ρ,f,d,rs,e,k⟩;cases e;exact k _ H (Same.refl H) RpF.i_)
abbrev FO:=Dt→Dt→Option Dv
def OpF(X:Cx)(f:Value→Value→Sem Value)(r:FO):Prop :=
 OpR X f (fun x y H Q=>∃ dx dy f d,Rp X.K emp dx H x∧Rp X.K emp dy H y∧r dx dy=some (f,d)∧∀ v H',Same H H'→RpF X.ky H f d H' v→Q v H')
def fOp(r:FO)(Fa Fb:FE):FE:=fun ρ=>(Fa ρ).bind fun x=>(Fb ρ).bind fun y=>r x.2 y.2
theorem zdS{r:FO}{σ:St}{H:Hp}{Q:VK}(h:upF X (fOp r Fa Fb) σ H Q):
  upF X Fa σ H fun x H1=>upF X Fb σ H1 fun y H2=>∃ dx dy f d,Rp X.K emp dx H2 x∧Rp X.K emp dy H2 y∧r dx dy=some (f,d)∧∀ v H',Same H2 H'→RpF X.ky H2 f d H' v→Q v H':=by
 obtain⟨ρ,f,d,rs,e,k⟩:=h
 obtain⟨⟨fa,da⟩,ea,e⟩:=z05 e
 obtain⟨⟨fb,db⟩,eb,e⟩:=z05 e
 exact⟨ρ,fa,da,rs,ea,fun v H1 s1 r1=>⟨ρ,fb,db,rs.mono s1,eb,fun u H2 s2 r2=>⟨da,db,f,d,Rp.mono _ s2 r1.sh,r2.sh,e,fun w H' s' r'=>k w H' (s1.trans (s2.trans s')) (r'.early (s1.trans s2))⟩⟩⟩
theorem p_op{op:Operator}{r:FO}(ho:OpF X (binaryOp op) r)(ha:PF X a Fa)(hb:PF X b Fb):PF X (.BinOp a op b pos) (fOp r Fa Fb):=(pe_op ho ha hb).imp fun σ H Q h=>zdS h
theorem z7R{op:CmpOp}{r:FO}(ho:OpF X (compareOp op) r)(ha:PF X a Fa)(hb:PF X b Fb)(hm:behindInMarks op b=false):PF X (.Compare a [op] [b] pos) (fOp r Fa Fb):=(zny ho ha hb hm).imp fun σ H Q h=>zdS h
def rII(C:Int→Int→Bool)(g:Int→Int→Dt):FO
 | .int i,.int j=>if C i j then some (.nw,g i j) else none
 | _,_=>none
theorem zbG{f:Value→Value→Sem Value}{P:Int→Int→Prop}{C:Int→Int→Bool}{g:Int→Int→V}{g':Int→Int→Dt}(ho:OpR X f (rI P g))(hP:∀ i j,C i j=true→P i j)(hf:∀ i j,(g' i j).flat=true)(hg:∀ i j H,Rp X.K emp (g' i j) H (g i j)):OpF X f (rII C g') :=
 fun pins s σ H x y v u Q I r1 r2 ⟨d1,d2,f,d,q1,q2,e,k⟩=>by
  unfold rII at e
  split at e
  · rename_i i j
    split at e
    · rename_i hc
      cases e
      rw[Rp.int_]at q1 q2
      exact ho pins s σ H x y v u Q I r1 r2 ⟨i,j,q1,q2,hP i j hc,k _ H (Same.refl H) (RpF.scal (hf i j) (hg i j H))⟩
    · cases e
  · cases e
theorem z5t{f:Value→Value→Sem Value}{g:Int→Int→V}{g':Int→Int→Dt}(ho:OpR X f (rI0 g))(hf:∀ i j,(g' i j).flat=true)(hg:∀ i j H,Rp X.K emp (g' i j) H (g i j)):OpF X f (rII (fun _ _=>true) g') :=
 fun pins s σ H x y v u Q I r1 r2 ⟨d1,d2,f,d,q1,q2,e,k⟩=>by
  unfold rII at e
  split at e
  · rename_i i j
    rw[if_pos rfl]at e
    cases e
    rw[Rp.int_]at q1 q2
    exact ho pins s σ H x y v u Q I r1 r2 ⟨i,j,q1,q2,k _ H (Same.refl H) (RpF.scal (hf i j) (hg i j H))⟩
  · cases e
def OpF.or{f:Value→Value→Sem Value}{r r':FO}(h:OpF X f r)(h':OpF X f r'):OpF X f (fun x y=>(r x y).orElse fun _=>r' x y) :=
 fun pins s σ H x y v u Q I r1 r2 hZ=>hZ.elim fun d1 hZ=>hZ.elim fun d2 hZ=>hZ.elim fun f hZ=>hZ.elim fun d hZ=>hZ.elim fun q1 hZ=>hZ.elim fun q2 hZ=>hZ.elim fun e k=>by
  replace e:((r d1 d2).orElse fun _=>r' d1 d2)=some (f,d):=e
  cases q:r d1 d2 with
  | some z =>
   rw[q]at e
   cases e
   exact h pins s σ H x y v u Q I r1 r2 ⟨d1,d2,_,_,q1,q2,q,k⟩
  | none =>
   rw[q]at e
   exact h' pins s σ H x y v u Q I r1 r2 ⟨d1,d2,_,_,q1,q2,e,k⟩
def z17(i j:Int):Bool:=decide (Builtin.Int.intBits i+Builtin.Int.intBits j≤134217728)||(decide (i.natAbs<2 ^ 64)||decide (j.natAbs<2 ^ 64))
def z26(_ j:Int):Bool:=decide (j≠0)&&decide (j.natAbs.log2<9000)
def z3a(_ j:Int):Bool:=decide (j≠0)
def z8L(i j:Int):Bool:=decide (0≤j)&&decide (j≤1000000)&&decide (i.natAbs<2 ^ 64)
theorem znO:OpR X (binaryOp .Mult) (rI (fun i j=>z17 i j=true) fun i j => .int (i*j)):=opI fun i j _ _ _ _ _ hc q=>by
 refine mul_int q ?_
 unfold z17 at hc
 rw[Bool.or_eq_true,Bool.or_eq_true]at hc
 rcases hc with hc|hc|hc
 · exact IntMulOk.of_le (Nat.le_refl _) (Nat.le_refl _) (of_decide_eq_true hc)
 · have:=of_decide_eq_true hc
   exact CMul.ok (.inl ⟨by omega,by omega⟩)
 · have:=of_decide_eq_true hc
   exact CMul.ok (.inr ⟨by omega,by omega⟩)
def zk2:FO:=rII (fun _ _=>true) fun i j => .int (i+j)
def z7S:FO:=rII (fun _ _=>true) fun i j => .int (i-j)
def z12:FO:=rII z17 fun i j => .int (i*j)
def z3O:FO:=rII z26 fun i j => .int (i.fdiv j)
def z1y:FO:=rII z3a fun i j => .int (i.fmod j)
def zap:FO:=rII z8L fun i j => .int (i ^ j.toNat)
def opLt:FO:=rII (fun _ _=>true) fun i j => .bl (decide (i<j))
def opLe:FO:=rII (fun _ _=>true) fun i j => .bl (decide (i≤j))
def opGt:FO:=rII (fun _ _=>true) fun i j => .bl (decide (j<i))
def opGe:FO:=rII (fun _ _=>true) fun i j => .bl (decide (j≤i))
theorem o_addI:OpF X (binaryOp .Add) zk2:=z5t op_add (fun _ _=>rfl) fun _ _ _=>Rp.int_.mpr rfl
theorem zk3:OpF X (binaryOp .Sub) z7S:=z5t op_sub (fun _ _=>rfl) fun _ _ _=>Rp.int_.mpr rfl
theorem z3P:OpF X (binaryOp .Mult) z12:=zbG znO (fun _ _ h=>h) (fun _ _=>rfl) fun _ _ _=>Rp.int_.mpr rfl
theorem z4j:OpF X (binaryOp .FloorDiv) z3O:=zbG zjY (fun i j h=>by unfold z26 at h;rw[Bool.and_eq_true]at h;exact⟨of_decide_eq_true h.1,of_decide_eq_true h.2⟩) (fun _ _=>rfl) fun _ _ _=>Rp.int_.mpr rfl
theorem z2j:OpF X (binaryOp .Mod) z1y:=zbG znx (fun i j h=>of_decide_eq_true h) (fun _ _=>rfl) fun _ _ _=>Rp.int_.mpr rfl
theorem zk4:OpF X (binaryOp .Pow) zap:=zbG op_pow (fun i j h=>by unfold z8L at h;rw[Bool.and_eq_true,Bool.and_eq_true]at h;exact⟨of_decide_eq_true h.1.1,of_decide_eq_true h.1.2,of_decide_eq_true h.2⟩) (fun _ _=>rfl) fun _ _ _=>Rp.int_.mpr rfl
theorem o_lt:OpF X (compareOp .Lt) opLt:=z5t op_lt (fun _ _=>rfl) fun _ _ _=>Rp.bl_.mpr rfl
theorem o_le:OpF X (compareOp .LtE) opLe:=z5t op_le (fun _ _=>rfl) fun _ _ _=>Rp.bl_.mpr rfl
theorem o_gt:OpF X (compareOp .Gt) opGt:=z5t op_gt (fun _ _=>rfl) fun _ _ _=>Rp.bl_.mpr rfl
theorem o_ge:OpF X (compareOp .GtE) opGe:=z5t op_ge (fun _ _=>rfl) fun _ _ _=>Rp.bl_.mpr rfl
def lfl(ds:List Dt):Fl:=if z1x ds then .nw else .tn
def newL(ds:List Dt):Dv:=(lfl ds,.lst ds)
theorem z6n{X:Ky}{H:Hp}{ds:List Dt}{vs:List V}{p:Addr}(hp:H p=none)(r:Rps X.K emp ds H vs):RpF X H (lfl ds) (.lst ds) (upd H p (.lst vs)) (.ref p):=by
 unfold lfl
 by_cases q:z1x ds=true
 · rw[if_pos q];exact Rp.new hp hp (Rps.flat ds q r)
 · rw[if_neg q];exact⟨Rp.new hp rfl r,⟨ds,rfl⟩,fun a e=>by cases e;exact hp⟩
def z6o:FO
 | .lst xs,.lst ys=>if xs.length+ys.length≤1000000 then some (newL (xs++ys)) else none
 | _,_=>none
theorem Rp.items{K:PySem.W.Frag}{B H:Hp}{ds:List Dt}{v:V}(h:Rp K B (.lst ds) H v):∃ a vs,v = .ref a∧B a=none∧H a=some (.lst vs)∧Rps K B ds H vs:=by
 obtain⟨a,vs,e,h0,h1,h2⟩:=Rp.lst_.mp h
 exact⟨a,vs,e,h0,h1,Rps.mono _ z0P h2⟩
theorem o_cat:OpF X (binaryOp .Add) z6o:=by
 rintro pins s σ H x y v u Q I r1 r2 ⟨d1,d2,f,d,q1,q2,e,k⟩
 unfold z6o at e
 split at e
 · rename_i xs ys
   split at e
   · rename_i hc
     cases e
     obtain⟨a,vs,rfl,_,ha,ra⟩:=q1.items
     obtain⟨b,ws,rfl,_,hb,rb⟩:=q2.items
     exact op_cat pins s σ H _ _ v u Q I r1 r2 ⟨a,b,vs,ws,rfl,rfl,ha,hb,Nat.le_trans (by rw[ra.length,rb.length];exact hc) (by decide),fun p hp=>k _ _ (z1m hp) (z6n hp (ra.append rb))⟩
   · cases e
 · cases e
def z0x:FO:=fun x y=>(zk2 x y).orElse fun _=>z6o x y
theorem z2R:OpF X (binaryOp .Add) z0x:=o_addI.or o_cat
def truD:Dt→Option Bool
 | .non=>some false
 | .bl b=>some b
 | .int i=>some (i != 0)
 | .lst ds=>some (!ds.isEmpty)
 | .tup ds=>some (!ds.isEmpty)
 | _=>none
theorem Rps.isEmpty{K:PySem.W.Frag}{B H:Hp}{ds:List Dt}{vs:List V}(h:Rps K B ds H vs):(!vs.isEmpty)=!ds.isEmpty:=by
 have:=h.length
 cases ds<;>cases vs<;>first|rfl|(simp at this)
theorem znP{H:Hp}{d:Dt}{v:V}{k:Bool}(r:Rp X.K emp d H v)(e:truD d=some k):TruV X.K v H k:=by
 cases d with
 | non=>rw[Rp.non_.mp r];cases e;rfl
 | bl b=>rw[Rp.bl_.mp r];cases e;rfl
 | int i=>rw[Rp.int_.mp r];cases e;rfl
 | str x=>cases e
 | scr x=>cases e
 | lst ds =>
  obtain⟨p,vs,rfl,_,h1,h2⟩:=r.items
  cases e
  exact .inl ⟨vs,SqL.of h1,h2.isEmpty.symm⟩
 | tup ds =>
  obtain⟨p,vs,rfl,h1,h2⟩:=Rp.tup_.mp r
  cases e
  exact .inr (.inl ⟨vs,h1,h2.isEmpty.symm⟩)
def blD:Dt→Option Bool
 | .bl b=>some b
 | _=>none
def z0o(F:FE):FT:=fun ρ=>(F ρ).bind fun x=>blD x.2
def fTru(F:FE):FT:=fun ρ=>(F ρ).bind fun x=>truD x.2
theorem z18{op:CmpOp}{r:FO}(ho:OpF X (compareOp op) r)(ha:PF X a Fa)(hb:PF X b Fb)(hm:behindInMarks op b=false):PFT X (.Compare a [op] [b] pos) (z0o (fOp r Fa Fb)) :=
 (znz ho ha hb hm).imp fun σ H Q hZ=>hZ.elim fun ρ hZ=>hZ.elim fun k hZ=>hZ.elim fun rs hZ=>hZ.elim fun e q=>by
  obtain⟨⟨f,d⟩,e1,e2⟩:=z05 e
  refine zdS ⟨ρ,f,d,rs,e1,fun v H' s r=>?_⟩
  cases d<;>first|cases e2|skip
  exact⟨k,Rp.bl_.mp r.sh,q H' s⟩
theorem z2S(ha:PF X a Fa)(he:∀ whole,isTrue a X.env whole=(do let v ←whole;standAt a.pos;holding [v] (truthy v))):PFT X a (fTru Fa) :=
 (zjM ha he).imp fun σ H Q hZ=>hZ.elim fun ρ hZ=>hZ.elim fun k hZ=>hZ.elim fun rs hZ=>hZ.elim fun e q=>by
  obtain⟨⟨f,d⟩,e1,e2⟩:=z05 e
  exact⟨ρ,f,d,rs,e1,fun v H' s r=>⟨k,znP r.sh e2,q H' s⟩⟩
def fNot(F:FT):FT:=fun ρ=>(F ρ).map not
theorem z3b{F:FT}(ha:PFT X a F):PFT X (.UnaryOp .Not a pos) (fNot F):=(pt_not ha).imp fun σ H Q hZ=>hZ.elim fun ρ hZ=>hZ.elim fun k hZ=>hZ.elim fun rs hZ=>hZ.elim fun e q=>by
 unfold fNot at e
 cases h:F ρ with
 | none=>rw[h]at e;cases e
 | some b=>rw[h]at e;cases e;exact⟨ρ,b,rs,h,q⟩
def fAnd(F G:FT):FT:=fun ρ=>(F ρ).bind fun b=>if b then G ρ else some false
def fOr(F G:FT):FT:=fun ρ=>(F ρ).bind fun b=>if b then some true else G ρ
theorem z7T{F:FT}(ha:PFT X a F):PFW X (.BoolOp .Or [a] pos) F:=pw_or1 ha
theorem w_or{rest:List Expr}{F G:FT}(ha:PFT X a F)(hb:PFW X (.BoolOp .Or (b::rest) pos) G):PFW X (.BoolOp .Or (a::b::rest) pos) (fOr F G) :=
 (pw_or ha hb).imp fun σ H Q hZ=>hZ.elim fun ρ hZ=>hZ.elim fun k hZ=>hZ.elim fun rs hZ=>hZ.elim fun e q=>by
  obtain⟨z,e1,e2⟩:=z05 e
  refine⟨ρ,z,rs,e1,fun H' s=>?_⟩
  dsimp only
  cases z with
  | true=>rw[if_pos rfl]at e2 ⊢;cases e2;exact q H' s
  | false=>rw[if_neg Bool.false_ne_true]at e2 ⊢;exact⟨ρ,k,rs.mono s,e2,fun H'' s'=>q H'' (s.trans s')⟩
def vAnd(F G:FE):FE:=fun ρ=>(z0o F ρ).bind fun b=>if b then G ρ else some (.nw,.bl false)
def vOr(F G:FE):FE:=fun ρ=>(z0o F ρ).bind fun b=>if b then some (.nw,.bl true) else G ρ
def vNot(F:FE):FE:=fun ρ=>(z0o F ρ).map fun b=>(.nw,.bl (!b))
theorem zcs{op}(h:PF X a Fa):PF X (.BoolOp op [a] pos) Fa:=pe_one h
theorem zaq{rest:List Expr}(ha:PF X a Fa)(hb:PF X (.BoolOp .And (b::rest) pos) Fb):PF X (.BoolOp .And (a::b::rest) pos) (vAnd Fa Fb) :=
 (pe_and ha hb).imp fun σ H Q hZ=>hZ.elim fun ρ hZ=>hZ.elim fun f hZ=>hZ.elim fun d hZ=>hZ.elim fun rs hZ=>hZ.elim fun e k=>by
  obtain⟨z,e1,e2⟩:=z05 e
  obtain⟨⟨f1,d1⟩,e3,e4⟩:=z05 e1
  refine⟨ρ,f1,d1,rs,e3,fun v H' s r=>?_⟩
  cases d1<;>first|cases e4|skip
  refine⟨z,Rp.bl_.mp r.sh,?_⟩
  cases z with
  | true=>rw[if_pos rfl]at e2 ⊢;exact⟨ρ,f,d,rs.mono s,e2,fun v H'' s' r=>k v H'' (s.trans s') (r.early s)⟩
  | false=>rw[if_neg Bool.false_ne_true]at e2 ⊢;cases e2;exact k _ H' s RpF.b_
theorem p_not(ha:PF X a Fa):PF X (.UnaryOp .Not a pos) (vNot Fa):=(pe_not ha).imp fun σ H Q hZ=>hZ.elim fun ρ hZ=>hZ.elim fun f hZ=>hZ.elim fun d hZ=>hZ.elim fun rs hZ=>hZ.elim fun e k=>by
 unfold vNot at e
 cases h:z0o Fa ρ with
 | none=>rw[h]at e;cases e
 | some z =>
  rw[h]at e
  cases e
  obtain⟨⟨f1,d1⟩,e3,e4⟩:=z05 h
  refine⟨ρ,f1,d1,rs,e3,fun v H' s r=>?_⟩
  cases d1<;>first|cases e4|skip
  exact⟨z,Rp.bl_.mp r.sh,k _ H' s RpF.b_⟩
def fIf(F:FT)(Fa Fb:FE):FE:=fun ρ=>(F ρ).bind fun b=>if b then Fa ρ else Fb ρ
theorem p_if{F:FT}(hc:PFT X c F)(ha:PF X a Fa)(hb:PF X b Fb):PF X (.IfExp c a b pos) (fIf F Fa Fb) :=
 (zjF hc ha hb).imp fun σ H Q hZ=>hZ.elim fun ρ hZ=>hZ.elim fun f hZ=>hZ.elim fun d hZ=>hZ.elim fun rs hZ=>hZ.elim fun e k=>by
  obtain⟨z,e1,e2⟩:=z05 e
  refine⟨ρ,z,rs,e1,fun H' s=>?_⟩
  dsimp only
  cases z with
  | true=>rw[if_pos rfl]at e2 ⊢;exact⟨ρ,f,d,rs.mono s,e2,fun v H'' s' r=>k v H'' (s.trans s') (r.early s)⟩
  | false=>rw[if_neg Bool.false_ne_true]at e2 ⊢;exact⟨ρ,f,d,rs.mono s,e2,fun v H'' s' r=>k v H'' (s.trans s') (r.early s)⟩
def fNeg(F:FE):FE:=fun ρ=>(F ρ).bind fun x=>match x.2 with|.int i=>some (.nw,.int (-i))|_=>none
theorem zct(ha:PF X a Fa):PF X (.UnaryOp .USub a pos) (fNeg Fa):=(pe_un un_neg ha).imp fun σ H Q ⟨ρ,f,d,rs,e,k⟩=>by
 obtain⟨⟨f1,d1⟩,e1,e2⟩:=z05 e
 refine⟨ρ,f1,d1,rs,e1,fun v H' s r=>?_⟩
 cases d1<;>first|cases e2|skip
 rename_i i
 exact⟨i,Rp.int_.mp r.sh,k _ H' s RpF.i_⟩
def z8M(r r':FO)(Fa Fb Fc:FE):FE:=fun ρ=>(Fa ρ).bind fun x=>(Fb ρ).bind fun y=>(r x.2 y.2).bind fun z=>(blD z.2).bind fun k=>if k then(Fc ρ).bind fun w=>r' y.2 w.2 else some (.nw,.bl false)
theorem ziX{r r':FO}{σ:St}{H:Hp}{Q:VK}(h:upF X (z8M r r' Fa Fb Fc) σ H Q):
  zjK (fun x y H Q=>∃ dx dy f d,Rp X.K emp dx H x∧Rp X.K emp dy H y∧r dx dy=some (f,d)∧∀ v H',Same H H'→RpF X.ky H f d H' v→Q v H') (fun x y H Q=>∃ dx dy f d,Rp X.K emp dx H x∧Rp X.K emp dy H y∧r' dx dy=some (f,d)∧∀ v H',Same H H'→RpF X.ky H f d H' v→Q v H')
   (upF X Fa) (upF X Fb) (upF X Fc) σ H Q:=by
 obtain⟨ρ,f,d,rs,e0,k⟩:=h
 obtain⟨⟨fa,da⟩,ea,e1⟩:=z05 e0
 obtain⟨⟨fb,db⟩,eb,e2⟩:=z05 e1
 obtain⟨⟨fz,dz⟩,ez,e3⟩:=z05 e2
 obtain⟨z,ek,e⟩:=z05 e3
 clear e3 e2 e1 e0
 refine⟨ρ,fa,da,rs,ea,fun v H1 s1 r1=>⟨ρ,fb,db,rs.mono s1,eb,fun u H2 s2 r2=>⟨da,db,fz,dz,Rp.mono _ s2 r1.sh,r2.sh,ez,fun w H3 s3 r3=>?_⟩⟩⟩
 cases dz<;>first|cases ek|skip
 refine⟨z,Rp.bl_.mp r3.sh,?_⟩
 cases z with
 | true =>
  rw[if_pos rfl]at e ⊢
  obtain⟨⟨fc,dc⟩,ec,e⟩:=z05 e
  exact⟨ρ,fc,dc,rs.mono (s1.trans (s2.trans s3)),ec,fun w' H4 s4 r4=>⟨db,dc,f,d,Rp.mono _ (s3.trans s4) r2.sh,r4.sh,e,fun y H' s' r'=>k y H' (s1.trans (s2.trans (s3.trans (s4.trans s')))) (r'.early (s1.trans (s2.trans (s3.trans s4))))⟩⟩
 | false =>
  rw[if_neg Bool.false_ne_true]at e ⊢
  cases e
  exact k _ _ (s1.trans (s2.trans s3)) RpF.b_
theorem znQ{op op':CmpOp}{r r':FO}(ho:OpF X (compareOp op) r)(ho':OpF X (compareOp op') r')(ha:PF X a Fa)(hb:PF X b Fb)(hc:PF X c Fc)
 (hm:lastMarks [op,op'] [b,c]=false:=by with_unfolding_all rfl):PF X (.Compare a [op,op'] [b,c] pos) (z8M r r' Fa Fb Fc):=(zjL ho ho' ha hb hc hm).imp fun σ H Q h=>ziX h
theorem z4k{K:PySem.W.Frag}{B H:Hp}{ds:List Dt}{vs:List V}{i:Int}{d:Dt}(h:Rps K B ds H vs)(e:atI ds i=some d):∃ v,atI vs i=some v∧Rp K B d H v:=by
 unfold atI at e ⊢
 rw[h.length]
 cases q:ixN ds.length i with
 | none=>rw[q]at e;cases e
 | some j =>
  rw[q]at e
  exact h.get e
def Fl.item:Fl→Fl
 | .tn => .sh
 | f=>f
def opAt(x:Dv)(y:Dv):Option Dv:=match x.2,y.2 with
 | .lst ds,.int i=>(atI ds i).map (nrm x.1.item)
 | .tup ds,.int i=>(atI ds i).map (nrm x.1.item)
 | .scr ns,.int i=>(atI ns i).map fun n=>(.nw,.int n)
 | _,_=>none
def fAt(Fa Fb:FE):FE:=fun ρ=>(Fa ρ).bind fun x=>(Fb ρ).bind fun y=>opAt x y
theorem RpF.item{X:Ky}{H H':Hp}{f:Fl}{ds:List Dt}{v:V}{i:Int}{d:Dt}(h:RpF X H f (.lst ds) H' v)(e:atI ds i=some d):∃ a vs w,v = .ref a∧SqL X.K H' a vs∧atI vs i=some w∧RpF X H f.item d H' w:=by
 cases f with
 | sh=>obtain⟨a,vs,rfl,_,h1,h2⟩:=Rp.items h;obtain⟨w,e1,e2⟩:=z4k h2 e;exact⟨a,vs,w,rfl,SqL.of h1,e1,e2⟩
 | tn=>obtain⟨a,vs,rfl,_,h1,h2⟩:=Rp.items h.1;obtain⟨w,e1,e2⟩:=z4k h2 e;exact⟨a,vs,w,rfl,SqL.of h1,e1,e2⟩
 | fr=>obtain⟨a,vs,rfl,_,h1,h2⟩:=Rp.items h;obtain⟨w,e1,e2⟩:=z4k h2 e;exact⟨a,vs,w,rfl,SqL.of h1,e1,e2⟩
 | nw=>obtain⟨a,vs,rfl,_,h1,h2⟩:=Rp.items h;obtain⟨w,e1,e2⟩:=z4k h2 e;exact⟨a,vs,w,rfl,SqL.of h1,e1,e2⟩
theorem RpF.itemT{X:Ky}{H H':Hp}{f:Fl}{ds:List Dt}{v:V}{i:Int}{d:Dt}(h:RpF X H f (.tup ds) H' v)(e:atI ds i=some d):∃ a vs w,v = .ref a∧SqT X.K H' a vs∧atI vs i=some w∧RpF X H f.item d H' w:=by
 cases f with
 | sh=>obtain⟨a,vs,rfl,h1,h2⟩:=Rp.tup_.mp h;obtain⟨w,e1,e2⟩:=z4k h2 e;exact⟨a,vs,w,rfl,h1,e1,e2⟩
 | tn=>obtain⟨⟨_,h2⟩,_⟩:=h.2;cases h2
 | fr=>obtain⟨a,vs,rfl,h1,h2⟩:=Rp.tup_.mp h;obtain⟨w,e1,e2⟩:=z4k h2 e;exact⟨a,vs,w,rfl,h1,e1,e2⟩
 | nw=>obtain⟨a,vs,rfl,h1,h2⟩:=Rp.tup_.mp h;obtain⟨w,e1,e2⟩:=z4k h2 e;exact⟨a,vs,w,rfl,h1,e1,e2⟩
theorem znR{α β:Type}{g:α→β}{xs:List α}{i:Int}{x:α}(h:atI xs i=some x):atI (xs.map g) i=some (g x):=by
 unfold atI at h ⊢
 rw[List.length_map]
 cases q:ixN xs.length i with
 | none=>rw[q]at h;cases h
 | some j=>rw[q]at h;have h:xs[j]?=some x:=h;show(xs.map g)[j]?=_;rw[List.getElem?_map,h];rfl
theorem p_ix(ha:PF X a Fa)(hb:PF X b Fb)(hs:zhU b):PF X (.Subscript a b pos) (fAt Fa Fb) :=
 (pe_ix ix_seq ha hb hs).imp fun σ H Q hZ=>hZ.elim fun ρ hZ=>hZ.elim fun f hZ=>hZ.elim fun d hZ=>hZ.elim fun rs hZ=>hZ.elim fun e0 k=>by
  obtain⟨⟨fa,da⟩,ea,e1⟩:=z05 e0
  obtain⟨⟨fb,db⟩,eb,e⟩:=z05 e1
  clear e1 e0
  refine⟨ρ,fa,da,rs,ea,fun v H1 s1 r1=>⟨ρ,fb,db,rs.mono s1,eb,fun u H2 s2 r2=>?_⟩⟩
  have r1:=r1.mono s2
  unfold opAt at e
  split at e
  · rename_i ds i ed ei
    cases ed;cases ei
    cases q:atI ds i with
    | none=>rw[q]at e;cases e
    | some d0 =>
     rw[q]at e
     obtain⟨p,vs,w,rfl,h1,h2,h3⟩:=r1.item q
     have e:nrm fa.item d0=(f,d):=Option.some.inj e
     have h4:=h3.nrm
     have e1:d0=d:=congrArg Prod.snd e
     subst e1
     rw[e]at h4
     exact .inl ⟨p,vs,i,w,rfl,Rp.int_.mp r2.sh,h1,h2,k _ _ (s1.trans s2) h4⟩
  · rename_i ds i ed ei
    cases ed;cases ei
    cases q:atI ds i with
    | none=>rw[q]at e;cases e
    | some d0 =>
     rw[q]at e
     obtain⟨p,vs,w,rfl,h1,h2,h3⟩:=r1.itemT q
     have e:nrm fa.item d0=(f,d):=Option.some.inj e
     have h4:=h3.nrm
     have e1:d0=d:=congrArg Prod.snd e
     subst e1
     rw[e]at h4
     exact .inr (.inl ⟨p,vs,i,w,rfl,Rp.int_.mp r2.sh,h1,h2,k _ _ (s1.trans s2) h4⟩)
  · rename_i ns i ed ei
    cases ed;cases ei
    cases q:atI ns i with
    | none=>rw[q]at e;cases e
    | some n =>
     rw[q]at e
     cases e
     obtain⟨p,rfl,_,h1⟩:=Rp.scr_.mp r1.sh
     exact .inl ⟨p,_,i,_,rfl,Rp.int_.mp r2.sh,h1,znR q,k _ _ (s1.trans s2) RpF.i_⟩
  · cases e
end
end L2

end
section
local macro_rules|`(tactic| omega)=>`(tactic| first|lia|omega +splitDisjunctions)
set_option Elab.async false
set_option linter.all false
set_option maxRecDepth 100000
namespace L2
open PySem PySem.Spec PyProof.Rows
mutual
def Dt.py:Dt→PyData
 | .non => .none
 | .bl b => .bool b
 | .int i => .int i
 | .str x => .str x
 | .lst ds => .list (pys ds)
 | .tup ds => .tuple (pys ds)
 | .scr ns => .list (ns.map .int)
def pys:List Dt→List PyData
 | []=>[]
 | d::ds=>d.py::pys ds
end
mutual
def Dt.okN:Nat→Dt→Bool
 | _,.str x=>PyData.strOk x
 | 0,.lst _=>false
 | 0,.tup _=>false
 | n+1,.lst ds=>oksN n ds
 | n+1,.tup ds=>oksN n ds
 | 0,.scr _=>false
 | _,_=>true
def oksN:Nat→List Dt→Bool
 | _,[]=>true
 | n,d::ds=>d.okN n&&oksN n ds
end
theorem zbH:∀ ns:List Int,PyData.canLayAll0 (ns.map PyData.int)=true∧PyData.depthAll (ns.map PyData.int)=0
 | []=>⟨rfl,rfl⟩
 | n::ns=>⟨by rw[List.map_cons,PyData.canLayAll0,(zbH ns).1];rfl,by rw[List.map_cons,PyData.depthAll,(zbH ns).2];rfl⟩
mutual
theorem zhW:∀(n:Nat) (d:Dt),d.okN n=true→d.py.canLay0=true∧d.py.depth≤n
 | n,.non,_=>⟨rfl,by rw[Dt.py,PyData.depth];exact Nat.zero_le _⟩
 | n,.bl b,_=>⟨rfl,by rw[Dt.py,PyData.depth];exact Nat.zero_le _⟩
 | n,.int i,_=>⟨rfl,by rw[Dt.py,PyData.depth];exact Nat.zero_le _⟩
 | n,.str x,h=>by
  have h:PyData.strOk x=true:=by cases n<;>simpa[Dt.okN]using h
  exact⟨by rw[Dt.py,PyData.canLay0];exact h,by rw[Dt.py,PyData.depth];exact Nat.zero_le _⟩
 | 0,.lst ds,h=>by rw[Dt.okN]at h;cases h
 | 0,.tup ds,h=>by rw[Dt.okN]at h;cases h
 | 0,.scr ds,h=>by rw[Dt.okN]at h;cases h
 | n+1,.lst ds,h=>by
  rw[Dt.okN]at h
  obtain⟨h1,h2⟩:=z8N n ds h
  exact⟨by rw[Dt.py,PyData.canLay0];exact h1,by rw[Dt.py,PyData.depth];omega⟩
 | n+1,.tup ds,h=>by
  rw[Dt.okN]at h
  obtain⟨h1,h2⟩:=z8N n ds h
  exact⟨by rw[Dt.py,PyData.canLay0];exact h1,by rw[Dt.py,PyData.depth];omega⟩
 | n+1,.scr ns,h=>by
  obtain⟨h1,h2⟩:=zbH ns
  exact⟨by rw[Dt.py,PyData.canLay0];exact h1,by rw[Dt.py,PyData.depth];omega⟩
theorem z8N:∀(n:Nat) (ds:List Dt),oksN n ds=true→PyData.canLayAll0 (pys ds)=true∧PyData.depthAll (pys ds)≤n
 | n,[],_=>⟨rfl,by rw[pys,PyData.depthAll];exact Nat.zero_le _⟩
 | n,d::ds,h=>by
  rw[oksN,Bool.and_eq_true]at h
  obtain⟨h1,h2⟩:=zhW n d h.1
  obtain⟨h3,h4⟩:=z8N n ds h.2
  refine⟨by rw[pys,PyData.canLayAll0,h1,h3];rfl,?_⟩
  rw[pys,PyData.depthAll]
  exact Nat.max_le.mpr ⟨h2,h4⟩
end
theorem z5u{d:Dt}{n:Nat}(h:d.okN n=true)(hn:n≤64):SeqAt.shaped d.py=true:=by
 obtain⟨h1,h2⟩:=zhW n d h
 unfold SeqAt.shaped
 rw[h1,Bool.true_and]
 exact decide_eq_true (Nat.le_trans h2 hn)
section
variable {X:Cx}{pins:List (Addr×Obj)}{σ:St}{H:Hp}{s:Shared}
theorem z8O{h:Heap}:∀{ns:List Int} {us:List Value},Vals (ns.map V.int) us→∃ as,ReadsAll h us (ns.map PyData.int) as
 | [],us,r=>by cases r;exact⟨_,.nil⟩
 | n::ns,us,r=>by
  rw[List.map_cons]at r
  cases r with
  | cons r1 r2 =>
   obtain⟨t,rfl⟩:=r1
   obtain⟨as,q⟩:=z8O r2
   exact⟨_,.cons (.int n t) q⟩
mutual
theorem z4I(I:Inv X pins σ H s):∀(d:Dt) {v:V} {u:Value},Rp X.K emp d H v→RelV v u→∃ as,Reads s.heap u d.py as
 | .non,v,u,h,r=>by rw[Rp.non_]at h;subst h;cases r;exact⟨_,.none⟩
 | .bl b,v,u,h,r=>by rw[Rp.bl_]at h;subst h;cases r;exact⟨_,.bool b⟩
 | .int i,v,u,h,r=>by rw[Rp.int_]at h;subst h;obtain⟨t,rfl⟩:=r;exact⟨_,.int i t⟩
 | .str x,v,u,h,r=>by rw[Rp.str_]at h;subst h;obtain⟨t,rfl⟩:=r;exact⟨_,.str x t⟩
 | .lst ds,v,u,h,r=>by
  obtain⟨a,vs,rfl,_,h1,h2⟩:=Rp.lst_.mp h
  cases r
  obtain⟨its,rv,⟨o,n,e,c,dd,dt⟩,_⟩:=I.list (SqL.of (K:=X.K) h1)
  obtain⟨as,q⟩:=z4J I ds (Rps.mono ds z0P h2) rv
  exact⟨_,by rw[Dt.py];exact .list e c dt q⟩
 | .tup ds,v,u,h,r=>by
  obtain⟨a,vs,rfl,h1,h2⟩:=Rp.tup_.mp h
  cases r
  obtain⟨its,rv,⟨o,e,c,n,dt⟩,_⟩:=I.tuple h1
  obtain⟨as,q⟩:=z4J I ds h2 rv
  exact⟨_,by rw[Dt.py];exact .tuple e c dt q⟩
 | .scr ns,v,u,h,r=>by
  obtain⟨a,rfl,_,h1⟩:=Rp.scr_.mp h
  cases r
  obtain⟨its,rv,⟨o,n,e,c,dd,dt⟩,_⟩:=I.list h1
  obtain⟨as,q⟩:=z8O (h:=s.heap) rv
  exact⟨_,by rw[Dt.py];exact .list e c dt q⟩
theorem z4J(I:Inv X pins σ H s):∀(ds:List Dt) {vs:List V} {us:List Value},Rps X.K emp ds H vs→Vals vs us→∃ as,ReadsAll s.heap us (pys ds) as
 | [],vs,us,h,r=>by rw[Rps.nil_]at h;subst h;cases r;exact⟨_,by rw[pys];exact .nil⟩
 | d::ds,vs,us,h,r=>by
  obtain⟨v,ws,rfl,h1,h2⟩:=Rps.cons_.mp h
  cases r with
  | cons r1 r2 =>
   obtain⟨as,q1⟩:=z4I I d h1 r1
   obtain⟨bs,q2⟩:=z4J I ds h2 r2
   exact⟨_,by rw[pys];exact .cons q1 q2⟩
end
end
def eqD(x y:Dt):Bool:=PyData.eqv x.py y.py
section
variable {X:Cx}{a b c e:Expr}{Fa Fb Fc:FE}{pos:Pos}
def opEq:FO:=fun x y=>if x.okN 8&&y.okN 8 then some (.nw,.bl (eqD x y)) else none
def opNe:FO:=fun x y=>if x.okN 8&&y.okN 8 then some (.nw,.bl (!eqD x y)) else none
theorem o_eq(hu:X.A.units+64<cLine):OpF X (compareOp .Eq) opEq:=by
 rintro pins s σ H x y v u Q I r1 r2 ⟨d1,d2,f,d,q1,q2,e,k⟩
 unfold opEq at e
 split at e
 · rename_i h
   rw[Bool.and_eq_true]at h
   cases e
   obtain⟨as,ra⟩:=z4I I d1 q1 r1
   obtain⟨bs,rb⟩:=z4I I d2 q2 r2
   exact eq_dataH ra rb (z5u h.1 (by decide)) (z5u h.2 (by decide)) hu ⟨.bl _,H,I,rfl,k _ H (Same.refl H) RpF.b_⟩
 · cases e
theorem o_ne(hu:X.A.units+64<cLine):OpF X (compareOp .NotEq) opNe:=by
 rintro pins s σ H x y v u Q I r1 r2 ⟨d1,d2,f,d,q1,q2,e,k⟩
 unfold opNe at e
 split at e
 · rename_i h
   rw[Bool.and_eq_true]at h
   cases e
   obtain⟨as,ra⟩:=z4I I d1 q1 r1
   obtain⟨bs,rb⟩:=z4I I d2 q2 r2
   exact ne_dataH ra rb (z5u h.1 (by decide)) (z5u h.2 (by decide)) hu ⟨.bl _,H,I,rfl,k _ H (Same.refl H) RpF.b_⟩
 · cases e
end
def RpFs(X:Ky)(H:Hp):List Dv→Hp→List V→Prop
 | [],_,vs=>vs=[]
 | x::xs,H',vs=>∃ v r,vs=v::r∧RpF X H x.1 x.2 H' v∧RpFs X H xs H' r
def upAs(X:Cx)(F:FA):TA:=fun σ H Q=>∃ ρ xs,RepS X.ky H ρ σ∧F ρ=some xs∧∀ vs H',Same H H'→RpFs X.ky H xs H' vs→Q vs H'
def PFA(X:Cx)(es:List Expr)(F:FA):Prop:=PA X es (upAs X F)
def sndL:List Dv→List Dt
 | []=>[]
 | x::xs=>x.2::sndL xs
def z3Q:List Dv→Bool
 | []=>true
 | x::xs=>x.1.isNw&&z3Q xs
def z2T:List Dv→Bool
 | []=>true
 | x::xs=>x.1.isFr&&z2T xs
section
variable {X:Ky}{H H' H1:Hp}
theorem RpFs.sh:∀{xs:List Dv} {vs:List V},RpFs X H xs H' vs→Rps X.K emp (sndL xs) H' vs
 | [],vs,h=>Rps.nil_.mpr h
 | x::xs,vs,⟨v,r,e,h1,h2⟩=>Rps.cons_.mpr ⟨v,r,e,h1.sh,RpFs.sh h2⟩
theorem RpFs.nw:∀{xs:List Dv} {vs:List V},z3Q xs=true→RpFs X H xs H' vs→Rps X.K H (sndL xs) H' vs
 | [],vs,_,h=>Rps.nil_.mpr h
 | ⟨f,d⟩::xs,vs,q,⟨v,r,e,h1,h2⟩=>by
  unfold z3Q at q
  rw[Bool.and_eq_true]at q
  cases f<;>first|(exact absurd q.1 Bool.false_ne_true)|exact Rps.cons_.mpr ⟨v,r,e,h1,RpFs.nw q.2 h2⟩
theorem RpFs.fr(h0:Same X.H₀ H):∀{xs:List Dv} {vs:List V},z2T xs=true→RpFs X H xs H' vs→Rps X.K X.H₀ (sndL xs) H' vs
 | [],vs,_,h=>Rps.nil_.mpr h
 | ⟨f,d⟩::xs,vs,q,⟨v,r,e,h1,h2⟩=>by
  unfold z2T at q
  rw[Bool.and_eq_true]at q
  exact Rps.cons_.mpr ⟨v,r,e,h1.fr h0 q.1,RpFs.fr h0 q.2 h2⟩
theorem RpFs.mono:∀{xs:List Dv} {vs:List V},RpFs X H xs H' vs→Same H' H1→RpFs X H xs H1 vs
 | [],vs,h,_=>h
 | x::xs,vs,⟨v,r,e,h1,h2⟩,s=>⟨v,r,e,h1.mono s,RpFs.mono h2 s⟩
theorem RpFs.early(s:Same H H1):∀{xs:List Dv} {vs:List V},RpFs X H1 xs H' vs→RpFs X H xs H' vs
 | [],vs,h=>h
 | x::xs,vs,⟨v,r,e,h1,h2⟩=>⟨v,r,e,h1.early s,RpFs.early s h2⟩
end
section
variable {X:Cx}{a b c e:Expr}{es:List Expr}{Fa Fb Fe:FE}{Fs:FA}{pos:Pos}
def fNil:FA:=fun _=>some []
def z01(Fa:FE)(Fs:FA):FA:=fun ρ=>(Fa ρ).bind fun x=>(Fs ρ).bind fun xs=>some (x::xs)
theorem z07:PFA X [] fNil:=z8H.imp (by rintro σ H Q ⟨ρ,xs,rs,e,k⟩;cases e;exact k [] H (Same.refl H) rfl)
theorem z03(ha:PF X e Fe)(hr:PFA X es Fs)(hs:starEach (e::es) X.env=(false,eval e X.env)::starEach es X.env:=by rfl):PFA X (e::es) (z01 Fe Fs) :=
 (z4d ha hr hs).imp fun σ H Q hZ=>hZ.elim fun ρ hZ=>hZ.elim fun xs hZ=>hZ.elim fun rs hZ=>hZ.elim fun e0 k=>by
  obtain⟨⟨f,d⟩,e1,e2⟩:=z05 e0
  obtain⟨ys,e3,e4⟩:=z05 e2
  cases e4
  exact⟨ρ,f,d,rs,e1,fun v H1 s1 r1=>⟨ρ,ys,rs.mono s1,e3,fun vs H2 s2 r2=>k _ _ (s1.trans s2) ⟨v,vs,rfl,r1.mono s2,r2.early s1⟩⟩⟩
theorem RpFs.length{X:Ky}{H H':Hp}:∀{xs:List Dv} {vs:List V},RpFs X H xs H' vs→vs.length=xs.length
 | [],vs,h=>by rw[show vs=[]from h];rfl
 | x::xs,vs,⟨v,r,e,_,h2⟩=>by rw[e,List.length_cons,List.length_cons,RpFs.length h2]
def fLst(Fs:FA):FE:=fun ρ=>(Fs ρ).bind fun xs=>if xs.length≤1000 then some (if z3Q xs then .nw else .tn,.lst (sndL xs)) else none
def fTup(Fs:FA):FE:=fun ρ=>(Fs ρ).bind fun xs=>if xs.length≤1000 then some (if z3Q xs then .nw else if z2T xs then .fr else .sh,.tup (sndL xs)) else none
theorem z3t(h:PFA X es Fs):PF X (.List es pos) (fLst Fs):=(pe_lst h).imp fun σ H Q hZ=>hZ.elim fun ρ hZ=>hZ.elim fun f hZ=>hZ.elim fun d hZ=>hZ.elim fun rs hZ=>hZ.elim fun e0 k=>by
 obtain⟨xs,e1,e2⟩:=z05 e0
 split at e2
 · rename_i hl
   cases e2
   refine⟨ρ,xs,rs,e1,fun vs H1 s1 r1=>⟨Nat.le_trans (by rw[r1.length];exact hl) (by decide),fun p hp=>k _ _ (s1.trans (z1m hp)) ?_⟩⟩
   have hp0:H p=none:=s1.free hp
   by_cases q:z3Q xs=true
   · rw[if_pos q]
     exact Rp.new (K:=X.K) (B:=H) hp hp0 (r1.nw q)
   · rw[if_neg q]
     exact⟨Rp.new hp rfl r1.sh,⟨_,rfl⟩,fun a e=>by cases e;exact hp0⟩
 · cases e2
theorem z2U{x1}(h:PFA X es Fs):PF X (.Tuple es x1 pos) (fTup Fs):=(pe_tup h).imp fun σ H Q hZ=>hZ.elim fun ρ hZ=>hZ.elim fun f hZ=>hZ.elim fun d hZ=>hZ.elim fun rs hZ=>hZ.elim fun e0 k=>by
 obtain⟨xs,e1,e2⟩:=z05 e0
 split at e2
 · rename_i hl
   cases e2
   refine⟨ρ,xs,rs,e1,fun vs H1 s1 r1=>⟨Nat.le_trans (by rw[r1.length];exact hl) (by decide),fun p hp=>k _ _ (s1.trans (z1m hp)) ?_⟩⟩
   have r2:=r1.mono (z1m (o := .tup vs) hp)
   by_cases q:z3Q xs=true
   · rw[if_pos q]
     exact(Rp.tup_ (K:=X.K) (B:=H)).mpr ⟨p,vs,rfl,SqT.of z10,r2.nw q⟩
   · rw[if_neg q]
     by_cases q2:z2T xs=true
     · rw[if_pos q2]
       exact(Rp.tup_ (K:=X.K) (B:=X.H₀)).mpr ⟨p,vs,rfl,SqT.of z10,r2.fr rs.base q2⟩
     · rw[if_neg q2]
       exact(Rp.tup_ (K:=X.K) (B:=emp)).mpr ⟨p,vs,rfl,SqT.of z10,r2.sh⟩
 · cases e2
abbrev FC:=List Dt→Option Dt
def spc(K:PySem.W.Frag)(fr:Bool)(c:FC):Sp:=fun vs H Q _=>∃ ds d,Rps K emp ds H vs∧c ds=some d∧∀ v H',Same H H'→Rp K (if fr then H else emp) d H' v→Q v H'
def z06(fr:Bool)(c:FC)(Fs:FA):FE:=fun ρ=>(Fs ρ).bind fun xs=>(c (sndL xs)).map (nrm (if fr then .nw else .sh))
theorem zk5{X:Ky}{fr:Bool}{H H1 H':Hp}{d:Dt}{v:V}(s:Same H H1)(r:Rp X.K (if fr then H1 else emp) d H' v):RpF X H (nrm (if fr then .nw else .sh) d).1 d H' v:=by
 cases fr with
 | true=>exact RpF.nrm (f := .nw) (RpF.early s (show RpF X H1 .nw d H' v from r))
 | false=>exact RpF.nrm (f := .sh) r
theorem p_call{fr:Bool}{k:Nat}{f:Addr}{fd:FuncData}{ps:List Str}{ct:FC}{x:Str}{p:Pos}(F:FnOk X.prog X.w X.K X.mg X.base CX0 k f fd ps (spc X.K fr ct))(hr:Room k X.A)(hg:Gl X x)(hm:X.mg x=some (.ref f))(hk:PySem.W.keepIn X.K (.ref f)=true)(hb:Binds X.K fd ps [])
  (ha:PFA X (e::es) Fs) (hdb:(x==("__debug__" : Str))=false:=by decide) (hst:starEach (e::es) X.env=(false,eval e X.env)::starEach es X.env:=by rfl) (hpl:(backTo pos (starEach es X.env)).any (·.1)=false:=by rfl):PF X (.Call (.Name x p) (e::es) [] pos) (z06 fr ct Fs) :=
 (znB (E:=E0) (dvs:=[]) F hr hg hm hk hb .nil pass0 ha hdb hst hpl).imp fun σ H Q hZ=>hZ.elim fun ρ hZ=>hZ.elim fun f hZ=>hZ.elim fun d hZ=>hZ.elim fun rs hZ=>hZ.elim fun e0 k=>by
  obtain⟨xs,e1,e2⟩:=z05 e0
  cases q:ct (sndL xs) with
  | none=>rw[q]at e2;cases e2
  | some d0 =>
   rw[q]at e2
   have e2:nrm (if fr then .nw else .sh) d0=(f,d):=Option.some.inj e2
   have e3:d0=d:=congrArg Prod.snd e2
   subst e3
   refine⟨ρ,xs,rs,e1,fun vs H1 s1 r1=>?_⟩
   dsimp only
   rw[List.append_nil]
   refine⟨_,d0,r1.sh,q,fun v H' s' r'=>k v H' (s1.trans s') ?_⟩
   have:=zk5 (X:=X.ky) s1 r'
   rw[e2]at this
   exact this
abbrev FB:=List Dt→Option Dv
def z6p(X:Cx)(f:Value)(r:FB):Prop:=CallR X f (fun xs H Q=>∃ ds f d,Rps X.K emp ds H xs∧r ds=some (f,d)∧∀ v H',Same H H'→RpF X.ky H f d H' v→Q v H')
def fBlt(r:FB)(Fs:FA):FE:=fun ρ=>(Fs ρ).bind fun xs=>r (sndL xs)
theorem zhX{r:FB}{σ:St}{H:Hp}{Q:VK}(h:upF X (fBlt r Fs) σ H Q):upAs X Fs σ H fun vs H1=>∃ ds f d,Rps X.K emp ds H1 vs∧r ds=some (f,d)∧∀ v H',Same H1 H'→RpF X.ky H1 f d H' v→Q v H':=by
 obtain⟨ρ,f,d,rs,e0,k⟩:=h
 obtain⟨xs,e1,e2⟩:=z05 e0
 exact⟨ρ,xs,rs,e1,fun vs H1 s1 r1=>⟨_,f,d,r1.sh,e2,fun v H' s' r'=>k v H' (s1.trans s') (r'.early s1)⟩⟩
theorem z0F{id:String}{r:FB}{x:Str}{p:Pos}(hc:z6p X (.builtin id) r)(hg:Gl X x)(hm:X.mg x=none)(hv:bootBuiltins x=some (.builtin id))(ha:PFA X (e::es) Fs)(hn:x ≠ "__name__" := by decide)(hdb:(x==("__debug__" : Str))=false:=by decide)(hst:starEach (e::es) X.env=(false,eval e X.env)::starEach es X.env:=by rfl)(hpl:(backTo pos (starEach es X.env)).any (·.1)=false:=by rfl):
 PF X (.Call (.Name x p) (e::es) [] pos) (fBlt r Fs):=(zcm hc hg hm hv ha hn hdb hst hpl).imp fun σ H Q h=>zhX h
theorem z11{T:String}{r:FB}{x:Str}{p:Pos}(hc:z6p X (.type T) r)(hg:Gl X x)(hm:X.mg x=none)(hv:bootBuiltins x=some (.type T))(ha:PFA X (e::es) Fs)(hn:x ≠ "__name__" := by decide)(hdb:(x==("__debug__" : Str))=false:=by decide)(hst:starEach (e::es) X.env=(false,eval e X.env)::starEach es X.env:=by rfl)(hpl:(backTo pos (starEach es X.env)).any (·.1)=false:=by rfl):
 PF X (.Call (.Name x p) (e::es) [] pos) (fBlt r Fs):=(ziT hc hg hm hv ha hn hdb hst hpl).imp fun σ H Q h=>zhX h
end
section
variable {X:Cx}
theorem Rps.one'{K:PySem.W.Frag}{B H:Hp}{d:Dt}{vs:List V}(h:Rps K B [d] H vs):∃ v,vs=[v]∧Rp K B d H v:=by
 obtain⟨v,r,rfl,h1,h2⟩:=Rps.cons_.mp h
 rw[Rps.nil_.mp h2]
 exact⟨v,rfl,h1⟩
def bLen:FB
 | [.lst xs]=>some (.nw,.int xs.length)
 | [.tup xs]=>some (.nw,.int xs.length)
 | [.scr xs]=>some (.nw,.int xs.length)
 | _=>none
theorem z2k:z6p X (.builtin "len") bLen:=by
 rintro pins s σ H xs us Q I r ⟨ds,f,d,rs,e,k⟩
 unfold bLen at e
 split at e
 · cases e
   obtain⟨v,rfl,h⟩:=rs.one'
   obtain⟨p,vs,rfl,_,q1,q2⟩:=h.items
   exact z4f pins s σ H _ us Q I r ⟨p,vs,rfl,.inl (SqL.of q1),by rw[q2.length];exact k _ H (Same.refl H) RpF.i_⟩
 · cases e
   obtain⟨v,rfl,h⟩:=rs.one'
   obtain⟨p,vs,rfl,q1,q2⟩:=Rp.tup_.mp h
   exact z4f pins s σ H _ us Q I r ⟨p,vs,rfl,.inr q1,by rw[q2.length];exact k _ H (Same.refl H) RpF.i_⟩
 · cases e
   obtain⟨v,rfl,h⟩:=rs.one'
   obtain⟨p,rfl,_,q1⟩:=Rp.scr_.mp h
   exact z4f pins s σ H _ us Q I r ⟨p,_,rfl,.inl q1,by rw[List.length_map];exact k _ H (Same.refl H) RpF.i_⟩
 · cases e
def bTup:FB
 | [.lst xs]=>some (if z1x xs then .nw else .sh,.tup xs)
 | [.tup xs]=>some (if z1x xs then .nw else .sh,.tup xs)
 | _=>none
theorem zhY{X:Ky}{H H':Hp}{xs:List Dt}{v:V}(h:Rp X.K emp (.tup xs) H' v):RpF X H (if z1x xs then .nw else .sh) (.tup xs) H' v:=by
 by_cases q:z1x xs=true
 · rw[if_pos q];exact RpF.scal (by rw[Dt.flat];exact q) h
 · rw[if_neg q];exact h
theorem zk6:z6p X (.type "tuple") bTup:=by
 rintro pins s σ H xs us Q I r ⟨ds,f,d,rs,e,k⟩
 unfold bTup at e
 split at e
 · cases e
   obtain⟨v,rfl,h⟩:=rs.one'
   obtain⟨p,vs,rfl,_,q1,q2⟩:=h.items
   exact z5U pins s σ H _ us Q I r ⟨p,vs,rfl,.inl ⟨SqL.of q1,fun l hl=>k _ _ (z1m hl) (zhY (Rp.tup_.mpr ⟨l,vs,rfl,SqT.of z10,Rps.mono _ (z1m hl) q2⟩))⟩⟩
 · cases e
   obtain⟨v,rfl,h⟩:=rs.one'
   obtain⟨p,vs,rfl,q1,q2⟩:=Rp.tup_.mp h
   exact z5U pins s σ H _ us Q I r ⟨p,vs,rfl,.inr ⟨q1,k _ H (Same.refl H) (zhY h)⟩⟩
 · cases e
def bLst:FB
 | [.lst xs]=>some (newL xs)
 | [.tup xs]=>some (newL xs)
 | _=>none
theorem z3R:z6p X (.type "list") bLst:=by
 rintro pins s σ H xs us Q I r ⟨ds,f,d,rs,e,k⟩
 unfold bLst at e
 split at e
 · cases e
   obtain⟨v,rfl,h⟩:=rs.one'
   obtain⟨p,vs,rfl,_,q1,q2⟩:=h.items
   exact z6m pins s σ H _ us Q I r ⟨p,vs,rfl,.inl (SqL.of q1),fun l hl=>k _ _ (z1m hl) (z6n hl q2)⟩
 · cases e
   obtain⟨v,rfl,h⟩:=rs.one'
   obtain⟨p,vs,rfl,q1,q2⟩:=Rp.tup_.mp h
   exact z6m pins s σ H _ us Q I r ⟨p,vs,rfl,.inr q1,fun l hl=>k _ _ (z1m hl) (z6n hl q2)⟩
 · cases e
def bAbs:FB
 | [.int i]=>some (.nw,.int (if i<0 then -i else i))
 | _=>none
theorem c_abs:z6p X (.builtin "abs") bAbs:=by
 rintro pins s σ H xs us Q I r ⟨ds,f,d,rs,e,k⟩
 unfold bAbs at e
 split at e
 · rename_i i
   cases e
   obtain⟨v,rfl,h⟩:=rs.one'
   rw[Rp.int_]at h
   subst h
   exact zjN pins s σ H _ us Q I r ⟨i,rfl,k _ H (Same.refl H) RpF.i_⟩
 · cases e
def z5V:List Dt→Option (List Bool)
 | []=>some []
 | .bl b::ds=>(z5V ds).map (b::·)
 | _=>none
def z4l:List Dt→Option (List Int)
 | []=>some []
 | .int i::ds=>(z4l ds).map (i::·)
 | _=>none
theorem z76{K:PySem.W.Frag}{B H:Hp}:∀{ds:List Dt} {bs:List Bool} {vs:List V},z5V ds=some bs→Rps K B ds H vs→vs=bs.map V.bl
 | [],bs,vs,e,r=>by cases e;exact Rps.nil_.mp r
 | .bl b::ds,bs,vs,e,r=>by
  obtain⟨v,ws,rfl,h1,h2⟩:=Rps.cons_.mp r
  unfold z5V at e
  cases q:z5V ds with
  | none=>rw[q]at e;cases e
  | some cs=>rw[q]at e;cases e;rw[Rp.bl_.mp h1,z76 q h2];rfl
 | .non::ds,bs,vs,e,r=>by cases e
 | .int _::ds,bs,vs,e,r=>by cases e
 | .str _::ds,bs,vs,e,r=>by cases e
 | .lst _::ds,bs,vs,e,r=>by cases e
 | .tup _::ds,bs,vs,e,r=>by cases e
 | .scr _::ds,bs,vs,e,r=>by cases e
theorem z8P{K:PySem.W.Frag}{B H:Hp}:∀{ds:List Dt} {bs:List Int} {vs:List V},z4l ds=some bs→Rps K B ds H vs→vs=bs.map V.int
 | [],bs,vs,e,r=>by cases e;exact Rps.nil_.mp r
 | .int b::ds,bs,vs,e,r=>by
  obtain⟨v,ws,rfl,h1,h2⟩:=Rps.cons_.mp r
  unfold z4l at e
  cases q:z4l ds with
  | none=>rw[q]at e;cases e
  | some cs=>rw[q]at e;cases e;rw[Rp.int_.mp h1,z8P q h2];rfl
 | .non::ds,bs,vs,e,r=>by cases e
 | .bl _::ds,bs,vs,e,r=>by cases e
 | .str _::ds,bs,vs,e,r=>by cases e
 | .lst _::ds,bs,vs,e,r=>by cases e
 | .tup _::ds,bs,vs,e,r=>by cases e
 | .scr _::ds,bs,vs,e,r=>by cases e
def bAll:FB
 | [.lst xs]=>(z5V xs).map fun bs=>(.nw,.bl (bs.all id))
 | _=>none
def bAny:FB
 | [.lst xs]=>(z5V xs).map fun bs=>(.nw,.bl (bs.any id))
 | _=>none
def bSum:FB
 | [.lst xs]=>(z4l xs).map fun ns=>(.nw,.int ns.sum)
 | _=>none
theorem ziY(bs:List Bool):(List.range bs.length).all (fun i=>bs.getD i false)=bs.all id:=by
 rw[Bool.eq_iff_iff,List.all_eq_true,List.all_eq_true]
 constructor
 · intro h b hb
   obtain⟨i,hi,e⟩:=List.getElem_of_mem hb
   have:=h i (List.mem_range.mpr hi)
   simp[List.getD,List.getElem?_eq_getElem hi,e]at this
   exact this
 · intro h i hi
   have hi:=List.mem_range.mp hi
   have:=h _ (List.getElem_mem hi)
   simpa[List.getD,List.getElem?_eq_getElem hi]using this
theorem ziZ(bs:List Bool):(List.range bs.length).any (fun i=>bs.getD i false)=bs.any id:=by
 rw[Bool.eq_iff_iff,List.any_eq_true,List.any_eq_true]
 constructor
 · rintro⟨i,hi,h⟩
   have hi:=List.mem_range.mp hi
   exact⟨_,List.getElem_mem hi,by simpa[List.getD,List.getElem?_eq_getElem hi]using h⟩
 · rintro⟨b,hb,h⟩
   obtain⟨i,hi,e⟩:=List.getElem_of_mem hb
   exact⟨i,List.mem_range.mpr hi,by simp[List.getD,List.getElem?_eq_getElem hi,e];exact h⟩
theorem z7U(ns:List Int):∀ k,k≤ns.length→preSum (fun i=>ns.getD i 0) k=(ns.take k).sum
 | 0,_=>by simp[preSum]
 | k+1,h=>by
  have hk:k<ns.length:=h
  rw[preSum,z7U ns k (by omega),List.take_succ,List.getElem?_eq_getElem hk,List.sum_append]
  simp[List.getD,List.getElem?_eq_getElem hk]
theorem zhZ{bs:List Bool}{us:List Value}(r:Vals (bs.map V.bl) us){prog:Program}{w:World}{A:Around}:TruthOf prog w A (fun i v=>us.toArray[i]?=some v) (fun i=>bs.getD i false):=by
 intro i v s Q E hP hQ
 have e:us[i]?=some v:=by simpa using hP
 cases q:bs[i]? with
 | none =>
  have:=r.none_of (i:=i) (by rw[List.getElem?_map,q];rfl)
  rw[this]at e;cases e
 | some b =>
  obtain⟨u,h1,h2⟩:=r.get (i:=i) (x:=V.bl b) (by rw[List.getElem?_map,q];rfl)
  rw[e]at h1
  cases h1
  cases h2
  have hQ':Q b s:=by simpa[List.getD,q]using hQ
  exact wpAny_truthy_bool hQ'
theorem zk7(hc:X.calm=true):z6p X (.builtin "all") bAll:=by
 rintro pins s σ H xs us Q I r ⟨ds,f,d,rs,e,k⟩
 unfold bAll at e
 split at e
 · rename_i ys
   cases q:z5V ys with
   | none=>rw[q]at e;cases e
   | some bs =>
    rw[q]at e
    cases e
    obtain⟨v,rfl,h⟩:=rs.one'
    obtain⟨p,vs,rfl,_,q1,q2⟩:=h.items
    obtain⟨u,rfl,ru⟩:=r.one
    cases ru
    have ev:=z76 q q2
    subst ev
    obtain⟨its,rv,pl,hz⟩:=I.list (SqL.of (K:=X.K) q1)
    have hlen:its.toArray.size=bs.length:=by rw[List.size_toArray,←rv.length,List.length_map]
    refine call_all_walk (wpAny_pyIter_list pl.isList ?_)
    have hne:p≠s.heap.objs.size:=Nat.ne_of_lt (by obtain⟨o,e,_⟩:=pl.isList;exact Heap.lt_size e)
    refine⟨_,_,_,_,_,_,fun i=>bs.getD i false,rfl,Walks.list (A:=X.A.in1) (I.ok.hd hc) s.heap.objs.size p hne its.toArray,⟨⟨_,Heap.get?_push_size _ rfl,rfl,rfl⟩,pl.isList.at fun o e=>Heap.get?_push_of_some _ e⟩,zhZ rv,fun h' tk hk=>?_⟩
    rw[hlen,ziY]
    exact⟨.bl _,H,I.kept fun b o e=>hk b o (by simp;exact Nat.ne_of_lt (Heap.lt_size e)) (Heap.get?_push_of_some _ e),rfl,k _ H (Same.refl H) RpF.b_⟩
 · cases e
theorem c_any(hc:X.calm=true):z6p X (.builtin "any") bAny:=by
 rintro pins s σ H xs us Q I r ⟨ds,f,d,rs,e,k⟩
 unfold bAny at e
 split at e
 · rename_i ys
   cases q:z5V ys with
   | none=>rw[q]at e;cases e
   | some bs =>
    rw[q]at e
    cases e
    obtain⟨v,rfl,h⟩:=rs.one'
    obtain⟨p,vs,rfl,_,q1,q2⟩:=h.items
    obtain⟨u,rfl,ru⟩:=r.one
    cases ru
    have ev:=z76 q q2
    subst ev
    obtain⟨its,rv,pl,hz⟩:=I.list (SqL.of (K:=X.K) q1)
    have hlen:its.toArray.size=bs.length:=by rw[List.size_toArray,←rv.length,List.length_map]
    refine call_any_walk (wpAny_pyIter_list pl.isList ?_)
    have hne:p≠s.heap.objs.size:=Nat.ne_of_lt (by obtain⟨o,e,_⟩:=pl.isList;exact Heap.lt_size e)
    refine⟨_,_,_,_,_,_,fun i=>bs.getD i false,rfl,Walks.list (A:=X.A.in1) (I.ok.hd hc) s.heap.objs.size p hne its.toArray,⟨⟨_,Heap.get?_push_size _ rfl,rfl,rfl⟩,pl.isList.at fun o e=>Heap.get?_push_of_some _ e⟩,zhZ rv,fun h' tk hk=>?_⟩
    rw[hlen,ziZ]
    exact⟨.bl _,H,I.kept fun b o e=>hk b o (by simp;exact Nat.ne_of_lt (Heap.lt_size e)) (Heap.get?_push_of_some _ e),rfl,k _ H (Same.refl H) RpF.b_⟩
 · cases e
theorem c_sum(hc:X.calm=true):z6p X (.builtin "sum") bSum:=by
 rintro pins s σ H xs us Q I r ⟨ds,f,d,rs,e,k⟩
 unfold bSum at e
 split at e
 · rename_i ys
   cases q:z4l ys with
   | none=>rw[q]at e;cases e
   | some ns =>
    rw[q]at e
    cases e
    obtain⟨v,rfl,h⟩:=rs.one'
    obtain⟨p,vs,rfl,_,q1,q2⟩:=h.items
    obtain⟨u,rfl,ru⟩:=r.one
    cases ru
    have ev:=z8P q q2
    subst ev
    obtain⟨its,rv,pl,hz⟩:=I.list (SqL.of (K:=X.K) q1)
    have hlen:its.toArray.size=ns.length:=by rw[List.size_toArray,←rv.length,List.length_map]
    refine call_sum_walkG (wpAny_pyIter_list pl.isList ?_)
    have hlt:p<s.heap.objs.size:=by obtain⟨o,e,_⟩:=pl.isList;exact Heap.lt_size e
    have hne:p≠s.heap.objs.size:=Nat.ne_of_lt hlt
    refine⟨_,_,_,_,_,_,fun i=>ns.getD i 0,rfl,Walks.list (A:=X.A.in1) (I.ok.hd hc) s.heap.objs.size p hne its.toArray,⟨⟨_,Heap.get?_push_size _ rfl,rfl,rfl⟩,pl.isList.at fun o e=>Heap.get?_push_of_some _ e⟩,fun b hb=>?_,fun i v hP=>?_,fun h' tk t' hk=>?_⟩
    · show b<(s.heap.push _).objs.size
      rw[Heap.size_push]
      rcases List.mem_cons.mp hb with e|hb
      · rw[e];exact Nat.lt_succ_self _
      · rw[List.mem_singleton.mp hb];exact Nat.lt_succ_of_lt hlt
    · have e:its[i]?=some v:=by simpa using hP
      cases q:ns[i]? with
      | none =>
        have:=rv.none_of (i:=i) (by rw[List.getElem?_map,q];rfl)
        rw[this]at e;cases e
      | some n =>
        obtain⟨u,h1,h2⟩:=rv.get (i:=i) (x:=V.int n) (by rw[List.getElem?_map,q];rfl)
        rw[e]at h1
        cases h1
        obtain⟨t,rfl⟩:=h2
        exact⟨t,by simp[List.getD,q]⟩
    · rw[hlen,z7U ns ns.length (Nat.le_refl _),List.take_length]
      exact⟨.int _,H,I.kept fun b o e=>hk b o (by simp;exact Nat.ne_of_lt (Heap.lt_size e)) (Heap.get?_push_of_some _ e),⟨t',rfl⟩,k _ H (Same.refl H) RpF.i_⟩
 · cases e
def tyN:Dt→String
 | .non => "NoneType"
 | .bl _ => "bool"
 | .int _ => "int"
 | .str _ => "str"
 | .lst _ => "list"
 | .scr _ => "list"
 | .tup _ => "tuple"
def zcu(t T:String):Bool:=t==T||(t == "bool" && T == "int")
def okT(T:String):Bool:=T == "int" || T == "bool" || T == "str" || T == "list" || T == "tuple" || T == "dict"
theorem zj{T:String}(h:okT T=true):T = "int" ∨ T = "bool" ∨ T = "str" ∨ T = "list" ∨ T = "tuple" ∨ T = "dict" := by
 unfold okT at h
 simp only[Bool.or_eq_true,beq_iff_eq]at h
 rcases h with((((h|h)|h)|h)|h)|h
 · exact .inl h
 · exact .inr (.inl h)
 · exact .inr (.inr (.inl h))
 · exact .inr (.inr (.inr (.inl h)))
 · exact .inr (.inr (.inr (.inr (.inl h))))
 · exact .inr (.inr (.inr (.inr (.inr h))))
theorem kit_D{K:PySem.W.Frag}{d:Dt}{T:String}(h:okT T=true):PySem.W.kitOne K (.type (tyN d)) (.type T)=some (zcu (tyN d) T):=by
 rcases zj h with rfl|rfl|rfl|rfl|rfl|rfl<;>cases d<;>rfl
def fIsi(T:String)(F:FE):FE:=fun ρ=>(F ρ).map fun x=>(.nw,.bl (zcu (tyN x.2) T))
theorem znS{T:String}(hT:okT T=true):CallR X (.builtin "isinstance") (fun xs H Q=>∃ d v,xs=[v,.ty T]∧Rp X.K emp d H v∧Q (.bl (zcu (tyN d) T)) H):=by
 intro pins s σ H xs us Q I r ⟨d,v,ex,h1,fin⟩
 subst ex
 have e:=kit_D (K:=X.K) (d:=d) hT
 obtain⟨u,u',rfl,r1,r2⟩:=vals2 r
 cases r2
 cases d with
 | non=>rw[Rp.non_.mp h1]at r1;exact z5r I r1 .non e fun tk=>⟨.bl _,H,I.tok tk,rfl,fin⟩
 | bl b=>rw[Rp.bl_.mp h1]at r1;exact z5r I r1 (.bl b) e fun tk=>⟨.bl _,H,I.tok tk,rfl,fin⟩
 | int i=>rw[Rp.int_.mp h1]at r1;exact z5r I r1 (.int i) e fun tk=>⟨.bl _,H,I.tok tk,rfl,fin⟩
 | str x=>rw[Rp.str_.mp h1]at r1;exact z5r I r1 (.str x) e fun tk=>⟨.bl _,H,I.tok tk,rfl,fin⟩
 | lst ys =>
  obtain⟨p,vs,rfl,_,q1,q2⟩:=h1.items
  cases r1
  obtain⟨its,_,pl,_⟩:=I.list (SqL.of (K:=X.K) q1)
  obtain⟨o,ho,hc,_⟩:=pl.isList
  exact PySem.W.kia_one PySem.W.kitx_list I.kIn ⟨o,ho,hc⟩ e (fun z=>nomatch z) fun tk=>⟨.bl _,H,I.tok tk,rfl,fin⟩
 | scr ys =>
  obtain⟨p,rfl,_,q1⟩:=Rp.scr_.mp h1
  cases r1
  obtain⟨its,_,pl,_⟩:=I.list q1
  obtain⟨o,ho,hc,_⟩:=pl.isList
  exact PySem.W.kia_one PySem.W.kitx_list I.kIn ⟨o,ho,hc⟩ e (fun z=>nomatch z) fun tk=>⟨.bl _,H,I.tok tk,rfl,fin⟩
 | tup ys =>
  obtain⟨p,vs,rfl,q1,q2⟩:=Rp.tup_.mp h1
  cases r1
  obtain⟨its,_,pl,_⟩:=I.tuple q1
  obtain⟨o,ho,hc,_⟩:=pl
  exact PySem.W.kia_one PySem.W.kitx_tuple I.kIn ⟨o,ho,hc⟩ e (fun z=>nomatch z) fun tk=>⟨.bl _,H,I.tok tk,rfl,fin⟩
theorem z4K{a:Expr}{Fa:FE}{x:Str}{T:String}{p q pos:Pos}(hT:okT T=true)(hg:Gl X "isinstance")(hm:X.mg "isinstance" = none)(hgT:Gl X x)(hmT:X.mg x=none)(hvT:bootBuiltins x=some (.type T))(ha:PF X a Fa)
  (hn:x ≠ "__name__" := by decide) (hd:(x==("__debug__" : Str))=false:=by decide) (hs1:starEach [.Name x q] X.env=[(false,eval (.Name x q) X.env)]:=by rfl)
  (hs:starEach [a,.Name x q] X.env=(false,eval a X.env)::starEach [.Name x q] X.env:=by rfl):PF X (.Call (.Name "isinstance" p) [a,.Name x q] [] pos) (fIsi T Fa) :=
 (zcm (znS hT) hg hm boot_isinstance (z4d ha (z4d (pe_ty hgT hmT hvT hn hd) z8H hs1) hs) (by decide) (by decide) hs (by rw[hs1];rfl)).imp fun σ H Q hZ=>hZ.elim fun ρ hZ=>hZ.elim fun f hZ=>hZ.elim fun d hZ=>hZ.elim fun rs hZ=>hZ.elim fun e0 k=>by
  unfold fIsi at e0
  cases h:Fa ρ with
  | none=>rw[h]at e0;cases e0
  | some z =>
   rw[h]at e0
   cases e0
   exact⟨ρ,z.1,z.2,rs,h,fun v H1 s1 r1=>⟨z.2,v,rfl,r1.sh,k _ H1 s1 RpF.b_⟩⟩
abbrev FP:=Rho→Option (Option Int)
def upP(X:Cx)(F:FP):TO:=fun σ H Q=>∃ ρ o,RepS X.ky H ρ σ∧F ρ=some o∧∀ H',Same H H'→Q o H'
def PFP(X:Cx)(e:Option Expr)(F:FP):Prop:=PO X e (upP X F)
def z0A:FP:=fun _=>some none
def intD:Dt→Option Int
 | .int i=>some i
 | _=>none
def z1s(F:FE):FP:=fun ρ=>(F ρ).bind fun x=>(intD x.2).map some
theorem PO.imp{e:Option Expr}{t t':TO}(h:PO X e t)(q:∀ σ H Q,t' σ H Q→t σ H Q):PO X e t':=fun pins s σ H Q I z=>h pins s σ H Q I (q σ H Q z)
theorem z3H:PFP X none z0A:=znD.imp (by rintro σ H Q ⟨ρ,o,rs,e,k⟩;cases e;exact k H (Same.refl H))
theorem z3I{e:Expr}{F:FE}(h:PF X e F):PFP X (some e) (z1s F):=(znE h).imp fun σ H Q ⟨ρ,o,rs,e,k⟩=>by
 obtain⟨⟨f,d⟩,e1,e2⟩:=z05 e
 refine⟨ρ,f,d,rs,e1,fun v H1 s1 r1=>?_⟩
 cases d<;>first|cases e2|skip
 rename_i i
 exact⟨i,Rp.int_.mp r1.sh,k H1 s1⟩
def cutD{α:Type}(xs:List α)(lo hi:Option Int):List α:=(xs.drop (HT.sIx xs.length 0 lo)).take (HT.sIx xs.length xs.length hi-HT.sIx xs.length 0 lo)
def fSl(F:FE)(L U:FP):FE:=fun ρ=>(F ρ).bind fun x=>(L ρ).bind fun lo=>(U ρ).bind fun hi=>match x.2 with|.lst ds=>some (newL (cutD ds lo hi))|_=>none
theorem z2C{e:Expr}{F:FE}{lo hi:Option Expr}{L U:FP}{pos p2:Pos}(he:PF X e F)(hl:PFP X lo L)(hu:PFP X hi U):PF X (.Subscript e (.Slice lo hi none p2) pos) (fSl F L U) :=
 (zjP znG he hl hu).imp fun σ H Q hZ=>hZ.elim fun ρ hZ=>hZ.elim fun f hZ=>hZ.elim fun d hZ=>hZ.elim fun rs hZ=>hZ.elim fun e0 k=>by
  obtain⟨⟨fx,dx⟩,e1,e2⟩:=z05 e0
  obtain⟨l,e3,e4⟩:=z05 e2
  obtain⟨u,e5,e6⟩:=z05 e4
  clear e0 e2 e4
  refine⟨ρ,fx,dx,rs,e1,fun v H1 s1 r1=>⟨ρ,l,rs.mono s1,e3,fun H2 s2=>⟨ρ,u,rs.mono (s1.trans s2),e5,fun H3 s3=>?_⟩⟩⟩
  have ex:∃ ds,dx = .lst ds∧newL (cutD ds l u)=(f,d):=by
   cases dx<;>first|(rename_i ds;exact⟨ds,rfl,Option.some.inj e6⟩)|cases e6
  obtain⟨ds,rfl,e7⟩:=ex
  cases e7
  obtain⟨p,vs,rfl,_,q1,q2⟩:=(Rp.mono _ (s2.trans s3) r1.sh).items
  refine⟨p,vs,rfl,SqL.of q1,fun a ha=>k _ _ ((s1.trans (s2.trans s3)).trans (z1m ha)) ?_⟩
  have h1:Rps X.K emp (cutD ds l u) H3 (cutV vs l u):=by
   unfold cutD cutV
   rw[q2.length]
   exact Rps.take _ (Rps.drop _ q2)
  exact(z6n ha h1).early (s1.trans (s2.trans s3))
end
end L2

end
section
local macro_rules|`(tactic| omega)=>`(tactic| first|lia|omega +splitDisjunctions)
set_option Elab.async false
set_option linter.all false
set_option maxRecDepth 100000
namespace L2
open PySem PySem.Spec PyProof.Rows
def Walk(K:PySem.W.Frag)(J:It)(items:List Dt)(H1:Hp):Prop:=∀(A:List Addr) (H:Hp),Same H1 (hidL A H)→(∀ a∈A,∃ o,H a=some o) →
 (∀(i:Nat) (d:Dt),items[i]?=some d→J.go i H∧∀ x H',J.yld i H x H'→Same (hidL A H) (hidL A H')∧(∀ a∈A,H' a=H a)∧Rp K emp d (hidL A H') x)∧∀ i,items.length≤i→J.stop i H
abbrev FI:=Rho→Option (List Dt)
def upIK(Y:Ky)(F:FI):TI:=fun σ H R=>∃ ρ items,RepS Y H ρ σ∧F ρ=some items∧∀ J H',Same H H'→items.length≤sizeLine→Walk Y.K J items H'→R J H'
abbrev upI(X:Cx)(F:FI):TI:=upIK X.ky F
def PFI(X:Cx)(tg e:Expr)(F:FI):Prop:=PI X tg e (upI X F)
theorem PI.imp{X:Cx}{tg e:Expr}{t t':TI}(h:PI X tg e t)(q:∀ σ H Q,t' σ H Q→t σ H Q):PI X tg e t':=fun pins s σ H Q I z=>h pins s σ H Q I (q σ H Q z)
section
variable {X:Cx}{tg a b e:Expr}{Fa Fb Fe:FE}{pos:Pos}
theorem zj0{K:PySem.W.Frag}{p:Addr}{ds:List Dt}{vs:List V}{H1:Hp}(h1:SqL K H1 p vs)(h2:Rps K emp ds H1 vs):Walk K (Itl K p) ds H1:=by
 intro A H sm hA
 have s2:Same H1 H:=sm.trans z0P
 refine⟨fun i d e=>?_,fun i hi=>⟨vs,s2.seq h1,by rw[h2.length];exact hi⟩⟩
 obtain⟨v,e1,e2⟩:=h2.get e
 refine⟨⟨vs,v,s2.seq h1,e1⟩,?_⟩
 rintro x H' ⟨z,y⟩
 subst z
 have hx:=y vs (s2.seq h1)
 rw[e1]at hx
 cases hx
 exact⟨Same.refl _,fun _ _=>rfl,Rp.mono _ sm e2⟩
theorem zk8{K:PySem.W.Frag}{p:Addr}{ds:List Dt}{vs:List V}{H1:Hp}(h1:SqT K H1 p vs)(h2:Rps K emp ds H1 vs):Walk K (Itt K p) ds H1:=by
 intro A H sm hA
 have s2:Same H1 H:=sm.trans z0P
 refine⟨fun i d e=>?_,fun i hi=>⟨vs,s2.seqT h1,by rw[h2.length];exact hi⟩⟩
 obtain⟨v,e1,e2⟩:=h2.get e
 refine⟨⟨vs,v,s2.seqT h1,e1⟩,?_⟩
 rintro x H' ⟨z,y⟩
 subst z
 have hx:=y vs (s2.seqT h1)
 rw[e1]at hx
 cases hx
 exact⟨Same.refl _,fun _ _=>rfl,Rp.mono _ sm e2⟩
def z1Q(lo:Int)(n:Nat):List Dt:=(List.range n).map fun(k:Nat) => .int (lo+(k:Int))
theorem z60{K:PySem.W.Frag}{lo:Int}{n:Nat}{H1:Hp}:Walk K (Itr lo n) (z1Q lo n) H1:=by
 intro A H sm hA
 refine⟨fun i d e=>?_,fun i hi=>by unfold z1Q at hi;rw[List.length_map,List.length_range]at hi;exact hi⟩
 unfold z1Q at e
 rw[List.getElem?_map]at e
 have hi:i<n:=by
  by_cases hi:i<n
  · exact hi
  · rw[List.getElem?_eq_none (by simp;omega)]at e;cases e
 rw[List.getElem?_range hi]at e
 cases e
 refine⟨hi,fun x H' hZ=>hZ.elim fun z y=>?_⟩
 subst z;subst y
 exact⟨Same.refl _,fun _ _=>rfl,Rp.int_.mpr rfl⟩
def seqD:Dt→Option (List Dt)
 | .lst ds=>some ds
 | .tup ds=>some ds
 | _=>none
def iSeq(F:FE):FI:=fun ρ=>(F ρ).bind fun x=>seqD x.2
theorem z1n(ha:PF X a Fa):PFI X tg a (iSeq Fa):=by
 intro pins s σ H R I ⟨ρ,items,rs,e0,k⟩
 obtain⟨⟨f,d⟩,e1,e2⟩:=z05 e0
 refine thn (ha pins s σ H (fun x H1=>Same H H1∧Rp X.K emp d H1 x) I ⟨ρ,f,d,rs,e1,fun v H1 s1 r1=>⟨s1,r1.sh⟩⟩) fun v s1 hZ=>hZ.elim fun x hZ=>hZ.elim fun H1 hZ=>hZ.elim fun I1 hZ=>hZ.elim fun r1 hZ=>hZ.elim fun sm rd=>?_
 cases d<;>first|cases e2|skip
 · rename_i ds
   obtain⟨p,vs,rfl,_,h1,h2⟩:=rd.items
   cases r1
   obtain⟨its,rv,pl,hz⟩:=I1.list (SqL.of (K:=X.K) h1)
   refine wpAny_pyIter_list pl.isList ?_
   refine⟨s1.heap.objs.size,[s1.heap.objs.size],_,_,H1,rfl,I1.kept (t':=s1.toks) fun b o e=>Heap.get?_push_of_some _ e,ziO p _,⟨_,Heap.get?_push_size _ rfl,rfl,rfl⟩,fun b hb=>?_,k _ H1 sm (by rw[←h2.length];exact hz) (zj0 (SqL.of h1) h2)⟩
   have e:b=s1.heap.objs.size:=by simpa using hb
   subst e
   exact I1.fpOk (Nat.le_refl _) (I1.hok.fresh (Nat.le_refl _))
 · rename_i ds
   obtain⟨p,vs,rfl,h1,h2⟩:=Rp.tup_.mp rd
   cases r1
   obtain⟨its,rv,pl,hz⟩:=I1.tuple h1
   refine wpAny_pyIter_tuple (show s1.heap.IsTuple p its.toArray from pl) ?_
   refine⟨s1.heap.objs.size,[s1.heap.objs.size],_,_,H1,rfl,I1.kept (t':=s1.toks) fun b o e=>Heap.get?_push_of_some _ e,zdJ p _,⟨_,Heap.get?_push_size _ rfl,rfl,rfl⟩,fun b hb=>?_,k _ H1 sm (by rw[←h2.length];exact hz) (zk8 h1 h2)⟩
   have e:b=s1.heap.objs.size:=by simpa using hb
   subst e
   exact I1.fpOk (Nat.le_refl _) (I1.hok.fresh (Nat.le_refl _))
def z3c(i:Int):Bool:=decide (-1000000≤i)&&decide (i≤1000000)
theorem zbI{i:Int}(h:z3c i=true): -1000000≤i∧i≤1000000:=by
 unfold z3c at h
 rw[Bool.and_eq_true]at h
 exact⟨of_decide_eq_true h.1,of_decide_eq_true h.2⟩
def z0m(F:FE):FI:=fun ρ=>(F ρ).bind fun x=>(intD x.2).bind fun j=>if z3c j then some (z1Q 0 j.toNat) else none
theorem z61{lo:Int}{n:Nat}:(z1Q lo n).length=n:=by unfold z1Q;simp
theorem z5v{d:Dt}{i:Int}(h:intD d=some i):d = .int i:=by
 cases d<;>first|cases h|skip
 rfl
theorem z1z{p:Pos}(hg:Gl X "range")(hm:X.mg "range" = none)(ha:PF X a Fa)(hs:starEach [a] X.env=[(false,eval a X.env)]:=by rfl):PFI X tg (.Call (.Name "range" p) [a] [] pos) (z0m Fa) :=
 (zag hg hm (z4d ha z8H hs) hs).imp fun σ H R hZ=>hZ.elim fun ρ hZ=>hZ.elim fun items hZ=>hZ.elim fun rs hZ=>hZ.elim fun e0 k=>by
  obtain⟨⟨f,d⟩,e1,e2⟩:=z05 e0
  obtain⟨j,e3,e4⟩:=z05 e2
  clear e0 e2
  have ed:=z5v e3
  cases (show d = .int j from ed)
  split at e4
  · rename_i hr
    cases e4
    obtain⟨h1,h2⟩:=zbI hr
    refine⟨ρ,f,_,rs,e1,fun v H1 s1 r1=>⟨j,by rw[Rp.int_.mp r1.sh],by omega,by omega,k _ H1 s1 ?_ z60⟩⟩
    rw[z61]
    have:sizeLine=16777216:=rfl
    omega
  · cases e4
def z8o(F G:FE):FI:=fun ρ=>(F ρ).bind fun x=>(G ρ).bind fun y=>(intD x.2).bind fun i=>(intD y.2).bind fun j=>if z3c i&&z3c j then some (z1Q i (j-i).toNat) else none
end
inductive Tg where
 | one (i:Nat)|many (is:List Nat)
def z27:List Nat→TGs
 | []=>gNil
 | i::is=>gCons (z8E i) (z27 is)
def Tg.low(K:PySem.W.Frag):Tg→TG
 | .one i=>z8E i
 | .many is=>gTup K is.length (z27 is)
def z2n:Rho→List Nat→List Dt→Rho
 | ρ,i::is,d::ds=>z2n (ρ.set i (.sh false d)) is ds
 | ρ,_,_=>ρ
def Tg.put:Tg→Dt→Rho→Option Rho
 | .one i,d,ρ=>some (ρ.set i (.sh false d))
 | .many is,.tup ds,ρ=>if ds.length=is.length then some (z2n ρ is ds) else none
 | .many _,_,_=>none
def Tg.below(nt:Nat):Tg→Prop
 | .one i=>i<nt
 | .many is=>∀ i∈is,i<nt
def KeepS(nt:Nat)(σ σ':St):Prop:=σ'.length=σ.length∧∀ i,nt≤i→σ'[i]?=σ[i]?
theorem KeepS.refl{nt:Nat}{σ:St}:KeepS nt σ σ:=⟨rfl,fun _ _=>rfl⟩
theorem KeepS.set{nt i:Nat}{σ:St}{v:V}(h:i<nt):KeepS nt σ (σ.set i (some v)):=⟨List.length_set,fun j hj=>List.getElem?_set_ne (by omega)⟩
theorem KeepS.trans{nt:Nat}{a b c:St}(h:KeepS nt a b)(k:KeepS nt b c):KeepS nt a c:=⟨k.1.trans h.1,fun i hi=>(k.2 i hi).trans (h.2 i hi)⟩
theorem z7V:∀{is:List Nat} {vs:List V} {σ:St} {H:Hp} {Q Q':St→Hp→Prop},z27 is vs σ H Q→(∀ σ H,Q σ H→Q' σ H)→z27 is vs σ H Q':=by
 intro is
 induction is with
 | nil=>intro vs σ H Q Q' ⟨e,q⟩ k;exact⟨e,k _ _ q⟩
 | cons j js ih=>intro vs σ H Q Q' ⟨v,r,e,q⟩ k;exact⟨v,r,e,ih q k⟩
theorem zar{nt:Nat}:∀{is:List Nat} {vs:List V} {σ:St} {H:Hp} {Q:St→Hp→Prop},(∀ i∈is,i<nt)→z27 is vs σ H Q→z27 is vs σ H fun σ2 H2=>KeepS nt σ σ2∧Q σ2 H2
 | [],vs,σ,H,Q,_,⟨e,q⟩=>⟨e,KeepS.refl,q⟩
 | i::is,vs,σ,H,Q,hi,⟨v,r,e,q⟩=>by
  refine⟨v,r,e,?_⟩
  have q:z27 is r (σ.set i (some v)) H Q:=q
  have z:=zar (nt:=nt) (fun j hj=>hi j (List.mem_cons_of_mem _ hj)) q
  show z27 is r (σ.set i (some v)) H _
  exact z7V z fun σ2 H2 hZ=>hZ.elim fun k1 k2=>⟨(KeepS.set (hi i List.mem_cons_self)).trans k1,k2⟩
theorem Tg.ok{K:PySem.W.Frag}{nt:Nat}{g:Tg}(h:g.below nt):TgOk nt (g.low K):=by
 intro x σ H Q q
 cases g with
 | one i=>exact⟨KeepS.set h,q⟩
 | many is =>
  obtain⟨a,xs,e,hq,hl,q⟩:=q
  exact⟨a,xs,e,hq,hl,zar h q⟩
theorem Tg.low_mono{K:PySem.W.Frag}{g:Tg}{v:V}{σ:St}{H:Hp}{Q Q':St→Hp→Prop}(h:g.low K v σ H Q)(k:∀ σ H,Q σ H→Q' σ H):g.low K v σ H Q':=by
 cases g with
 | one i=>exact k _ _ h
 | many is =>
  obtain⟨a,xs,e,hq,hl,q⟩:=h
  exact⟨a,xs,e,hq,hl,z7V q k⟩
section
variable {Y:Ky}{H H':Hp}{ρ:Rho}{σ:St}
theorem RepS.set(h:RepS Y H ρ σ){i:Nat}{f:Bool}{d:Dt}{v:V}(r:Rp Y.K (bsOf Y f) d H v):RepS Y H (ρ.set i (.sh f d)) (σ.set i (some v)):=by
 refine⟨by rw[List.length_set,List.length_set];exact h.len,h.base,fun j c q=>?_⟩
 by_cases e:i=j
 · subst e
   rw[List.getElem?_set]at q ⊢
   rw[if_pos rfl]at q ⊢
   split at q
   · rename_i hl
     cases q
     rw[if_pos (by rw[←h.len];exact hl)]
     exact⟨_,rfl,v,rfl,r⟩
   · cases q
 · rw[List.getElem?_set_ne e]at q ⊢
   exact h.at_ j c q
theorem z8Q{Hh:Hp}{ρ':Rho}:∀{is:List Nat} {ds:List Dt} {vs:List V} {ρ:Rho} {σ:St},RepS Y Hh ρ σ→Rps Y.K emp ds Hh vs→ds.length=is.length→z2n ρ is ds=ρ' →
  z27 is vs σ H fun σ' H'=>H'=H∧RepS Y Hh ρ' σ'
 | [],[],vs,ρ,σ,rs,r,hl,q=>⟨Rps.nil_.mp r,rfl,by rw[←q];exact rs⟩
 | [],d::ds,vs,ρ,σ,rs,r,hl,q=>by cases hl
 | i::is,[],vs,ρ,σ,rs,r,hl,q=>by cases hl
 | i::is,d::ds,vs,ρ,σ,rs,r,hl,q=>by
  obtain⟨v,r',rfl,h1,h2⟩:=Rps.cons_.mp r
  exact⟨v,r',rfl,z8Q (rs.set (f:=false) h1) h2 (by simpa using hl) q⟩
theorem Tg.sim{Hh:Hp}{g:Tg}{d:Dt}{v:V}{ρ':Rho}(sm:Same Hh H)(rs:RepS Y Hh ρ σ)(r:Rp Y.K emp d Hh v)(h:g.put d ρ=some ρ'):
  g.low Y.K v σ H fun σ' H'=>H'=H∧RepS Y Hh ρ' σ':=by
 cases g with
 | one i=>cases h;exact⟨rfl,rs.set (f:=false) r⟩
 | many is =>
  cases d<;>first|cases h|skip
  rename_i ds
  replace h:(if ds.length=is.length then some (z2n ρ is ds) else none)=some ρ':=h
  split at h
  · rename_i hl
    obtain⟨a,vs,rfl,h1,h2⟩:=Rp.tup_.mp r
    exact⟨a,vs,rfl,sm.seqT h1,by rw[h2.length];exact hl,z8Q rs h2 hl (Option.some.inj h)⟩
  · cases h
end
section
variable {X:Cx}{pos:Pos}
theorem z0I{i:Nat}{x:Str}(hN:X.N.Nodup)(hi:X.N[i]?=some x)(hx:Loc X.env.scope x)(hf:X.fn x=true∨X.env.scope.names.lookup x=some .local):PG X (.Name x pos) ((Tg.one i).low X.K):=z0K hN hi hx hf
theorem z3d:PGs X [] (z27 []):=znw
theorem z0S{e:Expr}{es:List Expr}{i:Nat}{is:List Nat}(h1:PG X e (z8E i))(h2:PGs X es (z27 is))(hs:(assignEach (e::es) X.env).map (·.2)=assign e X.env::(assignEach es X.env).map (·.2):=by rfl):PGs X (e::es) (z27 (i::is)):=zjH h1 h2 hs
theorem z3e{es:List Expr}{k:Nat}{is:List Nat}(hc:X.calm=true)(h:PGs X es (z27 is))(hn:(assignEach es X.env).length=is.length:=by rfl)(hst:(assignEach es X.env).findIdx? (·.1)=none:=by rfl):PG X (.Tuple es k pos) ((Tg.many is).low X.K):=pg_tup hc h hn hst
end
def z4L(g:Tg)(Fc:FT)(Fe:FE)(ρ0:Rho):List Dt→Option (List Dv)
 | []=>some []
 | x::xs=>(g.put x ρ0).bind fun ρ1=>(Fc ρ1).bind fun b=>if b then(Fe ρ1).bind fun v=>(z4L g Fc Fe ρ0 xs).bind fun r=>some (v::r) else z4L g Fc Fe ρ0 xs
def z4M:Cell→Cell
 | .no => .no
 | .sh _ d => .sh false d
 | .ow _ ds => .sh false (.lst ds)
def sigD(nt:Nat)(js:List Nat)(ρ:Rho):Rho:=List.replicate nt Cell.no++js.map fun j=>match ρ[j]? with|some c=>z4M c|none => .no
def z0e(nt:Nat)(js:List Nat)(Fi:FI)(g:Tg)(Fc:FT)(Fe:FE):FE:=fun ρ=>(Fi ρ).bind fun items=>(z4L g Fc Fe (sigD nt js ρ) items).bind fun vs=>some (if z2T vs then .nw else .tn,.lst (sndL vs))
theorem z77{g:Tg}{Fc:FT}{Fe:FE}{ρ0:Rho}:∀{xs:List Dt} {vs:List Dv},z4L g Fc Fe ρ0 xs=some vs→vs.length≤xs.length
 | [],vs,h=>by cases h;exact Nat.le_refl _
 | x::xs,vs,h=>by
  unfold z4L at h
  obtain⟨ρ1,_,h⟩:=z05 h
  obtain⟨b,_,h⟩:=z05 h
  split at h
  · obtain⟨v,_,h⟩:=z05 h
    obtain⟨r,h1,h⟩:=z05 h
    cases h
    have:=z77 h1
    rw[List.length_cons,List.length_cons];omega
  · have:=z77 h
    rw[List.length_cons];omega
def PFTs(X:Cx)(ifs:List Expr)(F:FT):Prop:=PTs X ifs (upB X F)
def fYes:FT:=fun _=>some true
theorem z0B{X:Cx}:PFTs X [] fYes:=fun pins s σ H Q I hZ=>hZ.elim fun ρ hZ=>hZ.elim fun b hZ=>hZ.elim fun rs hZ=>hZ.elim fun e k=>by cases e;exact znK pins s σ H Q I (k H (Same.refl H))
theorem zdT{X:Cx}{c:Expr}{F:FT}(h:PFT X c F):PFTs X [c] F:=znL h
theorem RpC.shS{Y:Ky}{H H1:Hp}{c:Cell}{o:Option V}(h:RpC Y H c o):RpC ⟨Y.K,H1⟩ H (z4M c) o:=by
 cases c with
 | no=>trivial
 | sh f d=>obtain⟨v,q,r⟩:=h;exact⟨v,q,Rp.anti Same.emp d r⟩
 | ow f ds=>obtain⟨v,q,r⟩:=h;exact⟨v,q,Rp.anti Same.emp _ r⟩
theorem RepS.sigs{Y:Ky}{H H1:Hp}{ρ:Rho}{σ:St}{nt:Nat}{js:List Nat}(h:RepS Y H ρ σ)(hj:∀ j∈js,j<σ.length)(h1:Same H1 H):RepS ⟨Y.K,H1⟩ H (sigD nt js ρ) (sig nt js σ):=by
 unfold sigD sig
 refine⟨by simp,h1,fun i c q=>?_⟩
 by_cases hi:i<nt
 · rw[List.getElem?_append_left (by simpa using hi),List.getElem?_replicate,if_pos hi]at q
   cases q
   exact⟨none,by rw[List.getElem?_append_left (by simpa using hi),List.getElem?_replicate,if_pos hi],trivial⟩
 · rw[List.getElem?_append_right (by simp;omega),List.length_replicate,List.getElem?_map]at q
   rw[List.getElem?_append_right (by simp;omega),List.length_replicate,List.getElem?_map]
   cases ej:js[i-nt]? with
   | none=>rw[ej]at q;cases q
   | some j =>
    rw[ej]at q
    have hlt:=hj j (List.mem_of_getElem? ej)
    have hlt':j<ρ.length:=by rw[h.len];exact hlt
    rw[Option.map_some,List.getElem?_eq_getElem hlt']at q
    cases q
    obtain⟨o,e1,e2⟩:=h.at_ j _ (List.getElem?_eq_getElem hlt')
    refine⟨o,?_,e2.shS⟩
    rw[Option.map_some,e1];rfl
def frE(t:Hp→TE)(H1:Hp):TE:=fun σ H Q=>∃ A:List Addr,(∀ a∈A,(∃ vs,H a=some (.lst vs))∧H1 a=none)∧t H1 σ (hidL A H) fun v H'=>(∀ a∈A,H' a=none)→Q v (z1i A H H')
def frT(t:Hp→TT)(H1:Hp):TT:=fun σ H Q=>∃ A:List Addr,(∀ a∈A,(∃ vs,H a=some (.lst vs))∧H1 a=none)∧t H1 σ (hidL A H) fun v H'=>(∀ a∈A,H' a=none)→Q v (z1i A H H')
theorem PTs.frame{Y:Cx}{ifs:List Expr}{t:Hp→TT}(h:PTs Y ifs (t Y.H₀)):PTs Y ifs (frT t Y.H₀):=by
 intro pins s σ H Q I ⟨A,hA,z⟩
 refine thn (h _ s σ _ _ (I.hide hA) z) ?_
 rintro u s' ⟨H',J,q⟩
 obtain⟨hn,J'⟩:=I.unhide hA J
 exact⟨_,J',q hn⟩
theorem zbJ{D:Addr}{H:Hp}{o:HO}:hidL [D] (upd H D o)=hidL [D] H:=funext fun b=>by
 by_cases q:b=D
 · subst q;rw[z2B (by simp),z2B (by simp)]
 · rw[z0q (by simpa using q),z0q (by simpa using q),z0v q]
theorem zk9{D:Addr}{H:Hp}(h:H D=none):hidL [D] H=H:=funext fun b=>by
 by_cases q:b=D
 · subst q;rw[z2B (by simp),h]
 · rw[z0q (by simpa using q)]
section
variable {X:Cx}{N:List Str}{scope:Scope}{nt:Nat}{js:List Nat}{tg elt iter:Expr}{ifs:List Expr}{Fi:FI}{g:Tg}{Fc:FT}{Fe:FE}{pos:Pos}
theorem RpFs.append{Y:Ky}{H H':Hp}:∀{xs ys:List Dv} {vs ws:List V},RpFs Y H xs H' vs→RpFs Y H ys H' ws→RpFs Y H (xs++ys) H' (vs++ws)
 | [],ys,vs,ws,h,h'=>by rw[show vs=[]from h];exact h'
 | x::xs,ys,vs,ws,⟨v,r,e,h1,h2⟩,h'=>⟨v,r++ws,by rw[e];rfl,h1,RpFs.append h2 h'⟩
def RpE(Y:Ky)(x:Dv)(H':Hp)(v:V):Prop:=if x.1.isFr then Rp Y.K Y.H₀ x.2 H' v else Rp Y.K emp x.2 H' v
def RpEs(Y:Ky):List Dv→Hp→List V→Prop
 | [],_,vs=>vs=[]
 | x::xs,H',vs=>∃ v r,vs=v::r∧RpE Y x H' v∧RpEs Y xs H' r
theorem RpE.of{Y:Ky}{H H':Hp}{x:Dv}{v:V}(h0:Same Y.H₀ H)(h:RpF Y H x.1 x.2 H' v):RpE Y x H' v:=by
 unfold RpE
 by_cases q:x.1.isFr=true
 · rw[if_pos q];exact h.fr h0 q
 · rw[if_neg q];exact h.sh
theorem RpE.mono{Y:Ky}{H H':Hp}{x:Dv}{v:V}(h:RpE Y x H v)(s:Same H H'):RpE Y x H' v:=by
 unfold RpE at h ⊢
 by_cases q:x.1.isFr=true
 · rw[if_pos q]at h ⊢;exact Rp.mono _ s h
 · rw[if_neg q]at h ⊢;exact Rp.mono _ s h
theorem RpEs.mono{Y:Ky}{H H':Hp}(s:Same H H'):∀{xs:List Dv} {vs:List V},RpEs Y xs H vs→RpEs Y xs H' vs
 | [],vs,h=>h
 | x::xs,vs,⟨v,r,e,h1,h2⟩=>⟨v,r,e,h1.mono s,RpEs.mono s h2⟩
theorem RpEs.append{Y:Ky}{H':Hp}:∀{xs ys:List Dv} {vs ws:List V},RpEs Y xs H' vs→RpEs Y ys H' ws→RpEs Y (xs++ys) H' (vs++ws)
 | [],ys,vs,ws,h,h'=>by rw[show vs=[]from h];exact h'
 | x::xs,ys,vs,ws,⟨v,r,e,h1,h2⟩,h'=>⟨v,r++ws,by rw[e];rfl,h1,RpEs.append h2 h'⟩
theorem RpEs.length{Y:Ky}{H':Hp}:∀{xs:List Dv} {vs:List V},RpEs Y xs H' vs→vs.length=xs.length
 | [],vs,h=>by rw[show vs=[]from h];rfl
 | x::xs,vs,⟨v,r,e,_,h2⟩=>by rw[e,List.length_cons,List.length_cons,RpEs.length h2]
theorem RpEs.sh{Y:Ky}{H':Hp}:∀{xs:List Dv} {vs:List V},RpEs Y xs H' vs→Rps Y.K emp (sndL xs) H' vs
 | [],vs,h=>Rps.nil_.mpr h
 | x::xs,vs,⟨v,r,e,h1,h2⟩=>by
  refine Rps.cons_.mpr ⟨v,r,e,?_,RpEs.sh h2⟩
  unfold RpE at h1
  split at h1
  · exact Rp.anti Same.emp _ h1
  · exact h1
theorem RpEs.fr{Y:Ky}{H':Hp}:∀{xs:List Dv} {vs:List V},z2T xs=true→RpEs Y xs H' vs→Rps Y.K Y.H₀ (sndL xs) H' vs
 | [],vs,_,h=>Rps.nil_.mpr h
 | x::xs,vs,q,⟨v,r,e,h1,h2⟩=>by
  unfold z2T at q
  rw[Bool.and_eq_true]at q
  refine Rps.cons_.mpr ⟨v,r,e,?_,RpEs.fr q.2 h2⟩
  unfold RpE at h1
  rw[if_pos q.1]at h1
  exact h1
theorem zi{σ:St}{H:Hp}{Q:VK}(hj:∀ j∈js,j<σ.length)(h:upF X (z0e nt js Fi g Fc Fe) σ H Q):
   zhV nt js (upI X Fi) (g.low X.K) (frT fun H1=>upBK ⟨X.K,H1⟩ Fc) (frE fun H1=>upK ⟨X.K,H1⟩ Fe) σ H Q:=by
 obtain⟨ρ,f,d,rs,e0,k⟩:=h
 obtain⟨items,ei,e1⟩:=z05 e0
 obtain⟨vs0,ec,e2⟩:=z05 e1
 cases e2
 clear e0 e1
 refine⟨ρ,items,rs,ei,fun J H1 sm hsz wk D hD=>?_⟩
 have nD:H D=none:=sm.free hD
 refine⟨fun i m ys H2=>m=items.length-i∧H2 D=some (.lst ys)∧Same H1 (hidL [D] H2)∧∃ ds rest,RpEs ⟨X.K,H1⟩ ds (hidL [D] H2) ys∧z4L g Fc Fe (sigD nt js ρ) (items.drop i)=some rest∧ds++rest=vs0,⟨_,rfl,z10,?_,[],vs0,rfl,ec,rfl⟩,?_⟩
 · rw[zbJ,zk9 hD];exact Same.refl _
 rintro i m ys H2 ⟨rfl,e2,s2,ds,rest,r2,c2,es⟩
 obtain⟨w1,w2⟩:=wk [D] H2 s2 (fun a ha=>by rw[List.mem_singleton.mp ha];exact⟨_,e2⟩)
 by_cases hlt:i<items.length
 · obtain⟨x,hx⟩:∃ x,items[i]?=some x:=⟨_,List.getElem?_eq_getElem hlt⟩
   have hdrop:items.drop i=x::items.drop (i+1):=by
     rw[List.drop_eq_getElem_cons hlt]
     rw[List.getElem?_eq_getElem hlt]at hx
     cases hx;rfl
   rw[hdrop]at c2
   unfold z4L at c2
   obtain⟨ρ1,p1,c3⟩:=z05 c2
   obtain⟨b,p2,c4⟩:=z05 c3
   obtain⟨go,yl⟩:=w1 i x hx
   refine .inr ⟨go,fun xv H3 y3=>?_⟩
   obtain⟨s3,k3,r3⟩:=yl xv H3 y3
   have e3:H3 D=some (.lst ys):=by rw[k3 D (by simp)];exact e2
   have s13:Same H1 (hidL [D] H3):=s2.trans s3
   refine Tg.low_mono (Tg.sim (Y:=⟨X.K,H1⟩) (Hh:=hidL [D] H3) z0P ((rs.mono (sm.trans s13)).sigs hj s13) r3 p1) ?_
   rintro σ4 H4 ⟨eH,rs4⟩
   subst eH
   have own:∀{H':Hp},H' D=some (.lst ys)→∀ a∈[D],(∃ vs,H' a=some (.lst vs))∧H1 a=none:=fun{H'} z a ha=>by
     rw[List.mem_singleton.mp ha]
     exact⟨⟨ys,z⟩,hD⟩
   refine⟨[D],own e3,ρ1,b,rs4,p2,fun H5 s5 n5=>?_⟩
   have h5:hidL [D] (z1i [D] H4 H5)=H5:=z39 n5
   have e5:z1i [D] H4 H5 D=some (.lst ys):=by rw[z5s (by simp)];exact e3
   have m5:items.length-(i+1)<items.length-i:=by omega
   dsimp only
   cases b with
   | true =>
     rw[if_pos rfl]at c4 ⊢
     obtain⟨⟨fv,dv⟩,p3,c5⟩:=z05 c4
     obtain⟨rest',p4,c6⟩:=z05 c5
     cases c6
     have rs5:RepS ⟨X.K,H1⟩ H5 ρ1 σ4:=rs4.mono s5
     refine⟨[D],own e5,ρ1,fv,dv,by rw[h5];exact rs5,p3,fun v H6 s6 r6 n6=>?_⟩
     rw[h5]at s6 r6
     have h6:hidL [D] (z1i [D] (z1i [D] H4 H5) H6)=H6:=z39 n6
     have r2':RpEs ⟨X.K,H1⟩ ds H6 ys:=r2.mono (s3.trans (s5.trans s6))
     have hlen:ys.length<sizeLine:=by
       have a1:=z77 ec
       have a2:=r2.length
       rw[←es,List.length_append,List.length_cons]at a1
       omega
     refine⟨by rw[z5s (by simp)];exact e5,hlen,_,m5,rfl,z10,?_,ds++[(fv,dv)],rest',?_,p4,by rw[List.append_assoc];exact es⟩
     · rw[zbJ,h6];exact s13.trans (s5.trans s6)
     · rw[zbJ,h6];exact r2'.append ⟨v,[],rfl,RpE.of rs5.base r6,rfl⟩
   | false =>
     rw[if_neg Bool.false_ne_true]at c4 ⊢
     refine⟨_,m5,rfl,e5,?_,ds,rest,?_,c4,es⟩
     · rw[h5];exact s13.trans s5
     · rw[h5];exact r2.mono (s3.trans s5)
 · have hd:items.drop i=[]:=List.drop_of_length_le (by omega)
   rw[hd]at c2
   cases c2
   rw[List.append_nil]at es
   subst es
   refine .inl ⟨w2 i (by omega),k _ H2 (sm.trans (s2.trans z0P)) ?_⟩
   by_cases q:z2T ds=true
   · rw[if_pos q]
     exact(Rp.lst_ (K:=X.K) (B:=H)).mpr ⟨D,ys,rfl,nD,e2,Rps.anti (show Same H H1 from sm) _ (r2.fr q)⟩
   · rw[if_neg q]
     exact⟨Rp.lst_.mpr ⟨D,ys,rfl,rfl,e2,r2.sh⟩,⟨_,rfl⟩,fun a e=>by cases e;exact nD⟩
theorem z0G(S:CompScope X N scope nt js)(hc:X.calm=true)(hi:PFI X tg iter Fi)(hg:∀ cl C fp s H,PG (z14 X N scope cl C fp s H) tg (g.low X.K))(hb:g.below nt)
  (hcs:∀ cl C fp s H,PFTs (z14 X N scope cl C fp s H) ifs Fc) (he:∀ cl C fp s H,PF (z14 X N scope cl C fp s H) elt Fe) (hj:∀ j∈js,j<X.N.length)
  (hs:∀ x,foldedSetIterable iter X.env x=pure x:=by intro _;rfl):PF X (.ListComp elt [⟨tg,iter,ifs,0⟩] scope pos) (z0e nt js Fi g Fc Fe):=by
 intro pins s σ H Q I h
 exact znM S hc hi hg (Tg.ok hb) (fun cl C fp s H=>PTs.frame (t:=fun H1=>upBK ⟨X.K,H1⟩ Fc) (hcs cl C fp s H)) (fun cl C fp s H=>PE.frame (he cl C fp s H)) hs pins s σ H Q I (zi (fun j z=>by rw[I.len];exact hj j z) h)
end
end L2

end
section
local macro_rules|`(tactic| omega)=>`(tactic| first|lia|omega +splitDisjunctions)
set_option Elab.async false
set_option linter.all false
set_option maxRecDepth 100000
namespace L2
open PySem PySem.Spec PyProof.Rows
abbrev Own:=List (Nat×Addr)
abbrev Own.adr(O:Own):List Addr:=O.map (·.2)
def CellB(X:Cx)(H:Hp)(O:Own)(i:Nat):Cell→Option V→Prop
 | .no,_=>True
 | .sh f d,o=>∃ v,o=some v∧Rp X.K (bsOf X.ky f) d (hidL O.adr H) v
 | .ow f ds,o=>∃ a vs,(i,a)∈O∧o=some (.ref a)∧H a=some (.lst vs)∧Rps X.K (bsOf X.ky f) ds (hidL O.adr H) vs
structure RepO(X:Cx)(H₀ H:Hp)(O:Own)(ρ:Rho)(σ:St):Prop where
 ndA:O.adr.Nodup
 ndI:(O.map (·.1)).Nodup
 own:OwnL X O.adr H
 len:ρ.length=σ.length
 b0:Same X.H₀ H₀
 same:Same H₀ (hidL O.adr H)
 at_:∀(i:Nat) (c:Cell),ρ[i]?=some c→∃ o,σ[i]?=some o∧CellB X H O i c o
def RepB(X:Cx)(H₀ H:Hp)(ρ:Rho)(σ:St):Prop:=∃ O,RepO X H₀ H O ρ σ
def z1d:Cell→Cell
 | .ow _ _ => .no
 | c=>c
def z1e:Rho→Rho
 | []=>[]
 | c::ρ=>z1d c::z1e ρ
theorem zas:∀ ρ:Rho,z1e ρ=ρ.map z1d
 | []=>rfl
 | c::ρ=>by rw[z1e,zas ρ,List.map_cons]
section
variable {X:Cx}{H₀ H H':Hp}{O:Own}{ρ:Rho}{σ:St}
theorem RepO.mono(h:RepO X H₀ H O ρ σ)(sm:Same H H'):RepO X H₀ H' O ρ σ:=by
 refine⟨h.ndA,h.ndI,fun a ha=>?_,h.len,h.b0,h.same.trans (z1Y sm),fun i c e=>?_⟩
 · obtain⟨⟨vs,q⟩,z⟩:=h.own a ha
   exact⟨⟨vs,sm _ _ q⟩,z⟩
 · obtain⟨o,e1,e2⟩:=h.at_ i c e
   refine⟨o,e1,?_⟩
   cases c with
   | no=>trivial
   | sh f d=>obtain⟨v,q,r⟩:=e2;exact⟨v,q,Rp.mono _ (z1Y sm) r⟩
   | ow f ds=>obtain⟨a,vs,q1,q2,q3,r⟩:=e2;exact⟨a,vs,q1,q2,sm _ _ q3,Rps.mono _ (z1Y sm) r⟩
theorem RepO.base(h:RepO X H₀ H O ρ σ){H1:Hp}(sm:Same H1 H₀)(b:Same X.H₀ H1):RepO X H1 H O ρ σ:=⟨h.ndA,h.ndI,h.own,h.len,b,sm.trans h.same,h.at_⟩
theorem RepO.below(h:RepO X H₀ H O ρ σ):Same X.H₀ H:=h.b0.trans (h.same.trans z0P)
theorem RepO.bsFree(h:RepO X H₀ H O ρ σ){a:Addr}(ha:a∈O.adr)(f:Bool):bsOf X.ky f a=none:=by
 cases f with
 | false=>rfl
 | true=>exact(h.own a ha).2
theorem z4m{i:Nat}{a:Addr}(h:(i,a)∈O):a∈O.adr:=List.mem_map.mpr ⟨_,h,rfl⟩
theorem RepO.all(h:RepO X H₀ H O ρ σ):RepS X.ky H ρ σ:=by
 refine⟨h.len,h.below,fun i c e=>?_⟩
 obtain⟨o,e1,e2⟩:=h.at_ i c e
 refine⟨o,e1,?_⟩
 cases c with
 | no=>trivial
 | sh f d=>obtain⟨v,q,r⟩:=e2;exact⟨v,q,Rp.mono _ z0P r⟩
 | ow f ds =>
  obtain⟨a,vs,q1,q2,q3,r⟩:=e2
  exact⟨_,q2,Rp.lst_.mpr ⟨a,vs,rfl,h.bsFree (z4m q1) f,q3,Rps.mono _ (z3N fun b hb=>by rw[List.mem_singleton.mp hb];exact z4m q1) r⟩⟩
theorem RepO.rest(h:RepO X H₀ H O ρ σ):RepS X.ky (hidL O.adr H) (z1e ρ) σ:=by
 rw[zas]
 refine⟨by rw[List.length_map];exact h.len,h.b0.trans h.same,fun i c e=>?_⟩
 rw[List.getElem?_map]at e
 cases q:ρ[i]? with
 | none=>rw[q]at e;cases e
 | some c' =>
  rw[q]at e
  obtain⟨o,e1,e2⟩:=h.at_ i c' q
  refine⟨o,e1,?_⟩
  cases c' with
  | no=>cases e;trivial
  | sh f d=>cases e;obtain⟨v,q,r⟩:=e2;exact⟨v,q,r⟩
  | ow f ds=>cases e;trivial
def z3S(O:Own)(i:Nat):Own:=O.filter fun p=>p.1 != i
theorem z2o{p:Nat×Addr}{i:Nat}:p∈z3S O i↔p∈O∧p.1≠i:=by
 unfold z3S
 rw[List.mem_filter]
 simp
theorem z1L{i:Nat}:∀ a∈(z3S O i).adr,a∈O.adr:=fun a ha=>by
 obtain⟨p,hp,e⟩:=List.mem_map.mp ha
 exact List.mem_map.mpr ⟨p,(z2o.mp hp).1,e⟩
theorem RepO.set(h:RepO X H₀ H O ρ σ){i:Nat}{f:Bool}{d:Dt}{v:V}(r:Rp X.K (bsOf X.ky f) d (hidL O.adr H) v):RepO X H₀ H (z3S O i) (ρ.set i (.sh f d)) (σ.set i (some v)):=by
 have sm:Same (hidL O.adr H) (hidL (z3S O i).adr H):=z3N z1L
 refine⟨h.ndA.sublist (List.Sublist.map _ (List.filter_sublist)),h.ndI.sublist (List.Sublist.map _ (List.filter_sublist)),fun a ha=>h.own a (z1L a ha),by rw[List.length_set,List.length_set];exact h.len,h.b0,h.same.trans sm,fun j c q=>?_⟩
 by_cases e:i=j
 · subst e
   rw[List.getElem?_set,if_pos rfl]at q
   rw[List.getElem?_set,if_pos rfl]
   split at q
   · rename_i hl
     cases q
     rw[if_pos (by rw[←h.len];exact hl)]
     exact⟨_,rfl,v,rfl,Rp.mono _ sm r⟩
   · cases q
 · rw[List.getElem?_set_ne e]at q ⊢
   obtain⟨o,e1,e2⟩:=h.at_ j c q
   refine⟨o,e1,?_⟩
   cases c with
   | no=>trivial
   | sh f d=>obtain⟨v,q,r⟩:=e2;exact⟨v,q,Rp.mono _ sm r⟩
   | ow f ds=>obtain⟨a,vs,q1,q2,q3,r⟩:=e2;exact⟨a,vs,z2o.mpr ⟨q1,fun z=>e z.symm⟩,q2,q3,Rps.mono _ sm r⟩
theorem z8R{D:Addr}{A:List Addr}{H:Hp}:hidL A (hidL [D] H)=hidL (D::A) H:=funext fun b=>by
 unfold hidL
 by_cases q1:b=D
 · subst q1;simp
 · by_cases q2:b∈A
   · simp[q1,q2]
   · simp[q1,q2]
theorem RepO.setNew(h:RepO X H₀ H' O ρ σ){i:Nat}{D:Addr}{f:Bool}{ds:List Dt}{vs:List V}(hi:i<ρ.length)(sm0:Same H' H)(hN:H' D=none)(hD:H D=some (.lst vs))(hn:D ∉ O.adr)(hX:X.H₀ D=none)
   (r:Rps X.K (bsOf X.ky f) ds (hidL (D::O.adr) H) vs):RepO X H₀ H ((i,D)::z3S O i) (ρ.set i (.ow f ds)) (σ.set i (some (.ref D))):=by
 have sub:∀ a∈(Own.adr ((i,D)::z3S O i)),a∈D::O.adr:=fun a ha=>by
   rcases List.mem_cons.mp ha with z|z
   · rw[z];exact List.mem_cons_self
   · exact List.mem_cons_of_mem _ (z1L a z)
 have sm:Same (hidL (D::O.adr) H) (hidL (Own.adr ((i,D)::z3S O i)) H):=z3N sub
 have sm1:Same H' (hidL [D] H):=fun b o e=>by
   rw[z0q (by rw[List.mem_singleton];rintro rfl;rw[hN]at e;cases e)];exact sm0 _ _ e
 have sm2:Same (hidL O.adr H') (hidL (D::O.adr) H):=by rw[←z8R];exact z1Y sm1
 have nD:D ∉ (z3S O i).adr:=fun z=>hn (z1L D z)
 refine⟨List.nodup_cons.mpr ⟨nD,h.ndA.sublist (List.Sublist.map _ (List.filter_sublist))⟩,List.nodup_cons.mpr ⟨fun z=>?_,h.ndI.sublist (List.Sublist.map _ (List.filter_sublist))⟩,fun a ha=>?_,by rw[List.length_set,List.length_set];exact h.len,h.b0,h.same.trans (sm2.trans sm),fun j c q=>?_⟩
 · obtain⟨p,hp,e⟩:=List.mem_map.mp z
   exact(z2o.mp hp).2 e
 · rcases List.mem_cons.mp ha with z|z
   · rw[z];exact⟨⟨vs,hD⟩,hX⟩
   · obtain⟨⟨ws,q⟩,z2⟩:=h.own a (z1L a z)
     exact⟨⟨ws,sm0 _ _ q⟩,z2⟩
 · by_cases e:i=j
   · subst e
     rw[List.getElem?_set,if_pos rfl,if_pos hi]at q
     rw[List.getElem?_set,if_pos rfl,if_pos (by rw[←h.len];exact hi)]
     cases q
     exact⟨_,rfl,D,vs,List.mem_cons_self,rfl,hD,Rps.mono _ sm r⟩
   · rw[List.getElem?_set_ne e]at q ⊢
     obtain⟨o,e1,e2⟩:=h.at_ j c q
     refine⟨o,e1,?_⟩
     cases c with
     | no=>trivial
     | sh f d=>obtain⟨v,q,r⟩:=e2;exact⟨v,q,Rp.mono _ (sm2.trans sm) r⟩
     | ow f ds' =>
      obtain⟨a,vs',q1,q2,q3,r⟩:=e2
      exact⟨a,vs',List.mem_cons_of_mem _ (z2o.mpr ⟨q1,fun z=>e z.symm⟩),q2,sm0 _ _ q3,Rps.mono _ (sm2.trans sm) r⟩
theorem zi0{O:Own}(nd:O.adr.Nodup):∀{p q:Nat×Addr},p∈O→q∈O→p.2=q.2→p=q:=by
 induction O with
 | nil=>intro p q hp;cases hp
 | cons o O ih =>
  intro p q hp hq e
  have nd:(o.2::O.map (·.2)).Nodup:=nd
  obtain⟨n1,n2⟩:=List.nodup_cons.mp nd
  rcases List.mem_cons.mp hp with hp|hp<;>rcases List.mem_cons.mp hq with hq|hq
  · rw[hp,hq]
  · exact absurd (List.mem_map.mpr ⟨q,hq,by rw[←e,hp]⟩) n1
  · exact absurd (List.mem_map.mpr ⟨p,hp,by rw[e,hq]⟩) n1
  · exact ih n2 hp hq e
theorem znT{O:Own}(nd:(O.map (·.1)).Nodup):∀{p q:Nat×Addr},p∈O→q∈O→p.1=q.1→p=q:=by
 induction O with
 | nil=>intro p q hp;cases hp
 | cons o O ih =>
  intro p q hp hq e
  have nd:(o.1::O.map (·.1)).Nodup:=nd
  obtain⟨n1,n2⟩:=List.nodup_cons.mp nd
  rcases List.mem_cons.mp hp with hp|hp<;>rcases List.mem_cons.mp hq with hq|hq
  · rw[hp,hq]
  · exact absurd (List.mem_map.mpr ⟨q,hq,by rw[←e,hp]⟩) n1
  · exact absurd (List.mem_map.mpr ⟨p,hp,by rw[e,hq]⟩) n1
  · exact ih n2 hp hq e
theorem zdU{A:List Addr}{a:Addr}{o:HO}{H:Hp}(h:a∈A):hidL A (upd H a o)=hidL A H:=funext fun b=>by
 by_cases q:b∈A
 · rw[z2B q,z2B q]
 · rw[z0q q,z0q q,z0v fun z=>q (by rw[z];exact h)]
theorem RepO.upd(h:RepO X H₀ H O ρ σ){i:Nat}{a:Addr}{f g:Bool}{ds ds0:List Dt}{vs:List V}(hc:ρ[i]?=some (.ow g ds0))(hi:(i,a)∈O)(r:Rps X.K (bsOf X.ky f) ds (hidL O.adr H) vs):
   RepO X H₀ (upd H a (.lst vs)) O (ρ.set i (.ow f ds)) σ:=by
 have ha:a∈O.adr:=z4m hi
 have hh:hidL O.adr (L2.upd H a (.lst vs))=hidL O.adr H:=zdU ha
 have hlt:i<ρ.length:=by
   by_cases hlt:i<ρ.length
   · exact hlt
   · rw[List.getElem?_eq_none (by omega)]at hc;cases hc
 refine⟨h.ndA,h.ndI,fun b hb=>?_,by rw[List.length_set];exact h.len,h.b0,by rw[hh];exact h.same,fun j c q=>?_⟩
 · by_cases e:b=a
   · subst e;exact⟨⟨vs,z10⟩,(h.own b hb).2⟩
   · rw[z0v e];exact h.own b hb
 · by_cases e:i=j
   · subst e
     rw[List.getElem?_set,if_pos rfl,if_pos hlt]at q
     cases q
     obtain⟨o,e1,a',vs',q1,q2,q3,r'⟩:=h.at_ i _ hc
     have e2:(i,a')=(i,a):=znT h.ndI q1 hi rfl
     cases e2
     exact⟨o,e1,a,vs,hi,q2,z10,by rw[hh];exact r⟩
   · rw[List.getElem?_set_ne e]at q
     obtain⟨o,e1,e2⟩:=h.at_ j c q
     refine⟨o,e1,?_⟩
     cases c with
     | no=>trivial
     | sh f d=>obtain⟨v,q,r⟩:=e2;exact⟨v,q,by rw[hh];exact r⟩
     | ow f ds' =>
      obtain⟨b,vs',q1,q2,q3,r'⟩:=e2
      have hne:b≠a:=fun z=>by
       have:=zi0 h.ndA q1 hi z
       exact e (congrArg Prod.fst this).symm
      exact⟨b,vs',q1,q2,by rw[z0v hne];exact q3,by rw[hh];exact r'⟩
def relC:Cell→Cell
 | .ow f ds => .sh f (.lst ds)
 | c=>c
def zat(ρ:Rho)(i:Nat):Rho:=match ρ[i]? with|some c=>ρ.set i (relC c)|none=>ρ
def relS:List Nat→Rho→Rho
 | [],ρ=>ρ
 | i::is,ρ=>relS is (zat ρ i)
theorem RepO.rel(h:RepO X H₀ H O ρ σ)(i:Nat):RepO X H₀ H (z3S O i) (zat ρ i) σ:=by
 have sm:Same (hidL O.adr H) (hidL (z3S O i).adr H):=z3N z1L
 have hl:(zat ρ i).length=ρ.length:=by
  unfold zat
  split
  · exact List.length_set
  · rfl
 refine⟨h.ndA.sublist (List.Sublist.map _ (List.filter_sublist)),h.ndI.sublist (List.Sublist.map _ (List.filter_sublist)),fun a ha=>h.own a (z1L a ha),hl.trans h.len,h.b0,h.same.trans sm,fun j c q=>?_⟩
 have other:∀{c:Cell},ρ[j]?=some c→(∀ f ds,c = .ow f ds→j≠i)→∃ o,σ[j]?=some o∧CellB X H (z3S O i) j c o:=fun{c} q hne=>by
  obtain⟨o,e1,e2⟩:=h.at_ j c q
  refine⟨o,e1,?_⟩
  cases c with
  | no=>trivial
  | sh f d=>obtain⟨v,q,r⟩:=e2;exact⟨v,q,Rp.mono _ sm r⟩
  | ow f ds=>obtain⟨a,vs,q1,q2,q3,r⟩:=e2;exact⟨a,vs,z2o.mpr ⟨q1,hne f ds rfl⟩,q2,q3,Rps.mono _ sm r⟩
 unfold zat at q
 cases e:ρ[i]? with
 | none =>
  rw[e]at q
  exact other q fun f ds _ z=>by rw[z,e]at q;cases q
 | some c' =>
  rw[e]at q
  dsimp only at q
  by_cases hij:i=j
  · subst hij
    have hlt:i<ρ.length:=by
     by_cases hlt:i<ρ.length
     · exact hlt
     · rw[List.getElem?_eq_none (by omega)]at e;cases e
    rw[List.getElem?_set,if_pos rfl,if_pos hlt]at q
    cases q
    cases c' with
    | no=>obtain⟨o,e1,e2⟩:=h.at_ i _ e;exact⟨o,e1,trivial⟩
    | sh f d=>exact other e fun f ds z=>by cases z
    | ow f ds =>
     obtain⟨o,e1,a,vs,q1,q2,q3,r⟩:=h.at_ i _ e
     have hna:a ∉ (z3S O i).adr:=fun z=>by
       obtain⟨p,hp,ep⟩:=List.mem_map.mp z
       have:=zi0 h.ndA (z2o.mp hp).1 q1 ep
       exact(z2o.mp hp).2 (by rw[this])
     refine⟨o,e1,.ref a,q2,Rp.lst_.mpr ⟨a,vs,rfl,h.bsFree (z4m q1) f,by rw[z0q hna];exact q3,Rps.mono _ ?_ r⟩⟩
     rw[z8K,z8R]
     refine z3N fun b hb=>?_
     rcases List.mem_cons.mp hb with z|z
     · rw[z];exact z4m q1
     · exact z1L b z
  · rw[List.getElem?_set_ne hij]at q
    exact other q fun f ds _ z=>hij z.symm
theorem RepO.rels(h:RepO X H₀ H O ρ σ):∀ is:List Nat,∃ O',RepO X H₀ H O' (relS is ρ) σ:=fun is=>by
 induction is generalizing O ρ with
 | nil=>exact⟨O,h⟩
 | cons i is ih=>exact ih (h.rel i)
end
inductive Oc where
 | nx (ρ:Rho)|rt (f:Fl) (d:Dt)|bk (ρ:Rho)|ct (ρ:Rho)
def OcOk(X:Cx)(H₀:Hp)(D:Ends):Oc→Prop
 | .nx ρ=>∀ σ H,RepB X H₀ H ρ σ→D.nx σ H
 | .rt f d=>∀ v H,Same H₀ H→Rp X.K (bsOf X.ky f.isFr) d H v→D.rt v H
 | .bk ρ=>∀ σ H,RepB X H₀ H ρ σ→D.bk σ H
 | .ct ρ=>∀ σ H,RepB X H₀ H ρ σ→D.ct σ H
abbrev FS:=Rho→Option Oc
def upS(X:Cx)(F:FS):TS:=fun D σ H=>∃ H₀ ρ oc,RepB X H₀ H ρ σ∧F ρ=some oc∧OcOk X H₀ D oc
def PFS(X:Cx)(st:Stmt)(F:FS):Prop:=PS X st (upS X F)
def PFSs(X:Cx)(sts:List Stmt)(F:FS):Prop:=PSs X sts (upS X F)
theorem PS.imp{X:Cx}{st:Stmt}{t t':TS}(h:PS X st t)(q:∀ D σ H,t' D σ H→t D σ H):PS X st t':=fun pins s σ H D I z=>h pins s σ H D I (q D σ H z)
theorem PSs.imp{X:Cx}{st:List Stmt}{t t':TS}(h:PSs X st t)(q:∀ D σ H,t' D σ H→t D σ H):PSs X st t':=fun pins s σ H D I z=>h pins s σ H D I (q D σ H z)
section
variable {X:Cx}{st:Stmt}{rest:List Stmt}{F G:FS}{e:Expr}{Fe:FE}{pos:Pos}
def z0y:FS:=fun ρ=>some (.nx ρ)
def seqO(G:FS):Oc→Option Oc
 | .nx ρ=>G ρ
 | o=>some o
def sSeq(F G:FS):FS:=fun ρ=>(F ρ).bind (seqO G)
theorem z0H:PFSs X [] z0y:=znu.imp (by rintro D σ H ⟨H₀,ρ,oc,rb,e,k⟩;cases e;exact k σ H rb)
theorem z0b(h:PFS X st F):PFSs X [st] F:=znv h
theorem z08(h1:PFS X st F)(h2:PFSs X rest G):PFSs X (st::rest) (sSeq F G):=(zjG h1 h2).imp fun D σ H hZ=>hZ.elim fun H₀ hZ=>hZ.elim fun ρ hZ=>hZ.elim fun oc hZ=>hZ.elim fun rb hZ=>hZ.elim fun e k=>by
 obtain⟨o1,e1,e2⟩:=z05 e
 refine⟨H₀,ρ,o1,rb,e1,?_⟩
 cases o1 with
 | nx ρ'=>exact fun σ' H' rb'=>⟨H₀,ρ',oc,rb',e2,k⟩
 | rt f d=>cases e2;exact k
 | bk ρ'=>cases e2;exact k
 | ct ρ'=>cases e2;exact k
def z8S:FS:=fun _=>none
theorem z8p:PFS X st z8S:=fun pins s σ H D I hZ=>hZ.elim fun H₀ hZ=>hZ.elim fun ρ hZ=>hZ.elim fun oc hZ=>hZ.elim fun rb hZ=>hZ.elim fun e k=>by cases e
def sRet(F:FE):FS:=fun ρ=>(F ρ).map fun x => .rt x.1 x.2
theorem z0k(he:PF X e Fe):PFS X (.Return (some e) pos) (sRet Fe):=(ps_ret he).imp fun D σ H ⟨H₀,ρ,oc,⟨O,rb⟩,e0,k⟩=>by
 unfold sRet at e0
 cases h:Fe ρ with
 | none=>rw[h]at e0;cases e0
 | some x =>
  rw[h]at e0
  cases e0
  refine⟨ρ,x.1,x.2,rb.all,h,fun v H' sm r=>k v H' (rb.same.trans (z0P.trans sm)) ?_⟩
  by_cases q:x.1.isFr=true
  · rw[q];exact r.fr rb.below q
  · rw[show x.1.isFr=false by simpa using q];exact r.sh
def sIf(c:FT)(F G:FS):FS:=fun ρ=>(c ρ).bind fun b=>if b then F ρ else G ρ
theorem s_if{c:Expr}{a b:List Stmt}{Fc:FT}(hc:PFT X c Fc)(ha:PFSs X a F)(hb:PFSs X b G):PFS X (.If c a b pos) (sIf Fc F G):=(ps_if hc ha hb).imp fun D σ H ⟨H₀,ρ,oc,⟨O,rb⟩,e0,k⟩=>by
 obtain⟨z,e1,e2⟩:=z05 e0
 refine⟨ρ,z,rb.all,e1,fun H' sm=>?_⟩
 dsimp only
 cases z with
 | true=>rw[if_pos rfl]at e2 ⊢;exact⟨H₀,ρ,oc,⟨O,rb.mono sm⟩,e2,k⟩
 | false=>rw[if_neg Bool.false_ne_true]at e2 ⊢;exact⟨H₀,ρ,oc,⟨O,rb.mono sm⟩,e2,k⟩
def z6q(F:FE):FS:=fun ρ=>(F ρ).map fun _ => .nx ρ
theorem zbK(he:PF X e Fe)(hs:swapsWith e none pos.line X.env=pure false:=by rfl):PFS X (.Expr e pos) (z6q Fe):=(zbB he hs).imp fun D σ H ⟨H₀,ρ,oc,⟨O,rb⟩,e0,k⟩=>by
 unfold z6q at e0
 cases h:Fe ρ with
 | none=>rw[h]at e0;cases e0
 | some x =>
  rw[h]at e0
  cases e0
  exact⟨ρ,x.1,x.2,rb.all,h,fun v H' sm r=>k σ H' ⟨O,rb.mono sm⟩⟩
def AsgF(X:Cx)(st:Stmt)(i:Nat)(F:FE):Prop:=PS X st (tAsg (upF X F) (z8E i))
theorem z0a{i:Nat}{x:Str}{pos':Pos}(he:PF X e Fe)(hN:X.N.Nodup)(hi:X.N[i]?=some x)(hx:Loc X.env.scope x)(hs:swapsWith e (some (.Name x pos')) pos.line X.env=pure false)(hf:X.fn x=true∨X.env.scope.names.lookup x=some .local):
 AsgF X (.Assign [.Name x pos'] e pos) i Fe:=ps_set hN hi hx he hs hf
theorem z4N{N:List Str}{scope:Scope}{nt:Nat}{js:List Nat}{tg elt iter:Expr}{ifs:List Expr}{Fi:FI}{g:Tg}{Fc:FT}{i:Nat}{x:Str}{pos' spos:Pos}(hN:X.N.Nodup)(hix:X.N[i]?=some x)(hx:X.env.scope.names.lookup x=some .local)
  (hsw:swapsWith (.ListComp elt [⟨tg,iter,ifs,0⟩] scope pos) (some (.Name x pos')) spos.line X.env=pure true)
  (S:CompScope X N scope nt js) (hc:X.calm=true) (hi:PFI X tg iter Fi) (hg:∀ cl C fp s H,PG (z14 X N scope cl C fp s H) tg (g.low X.K)) (hb:g.below nt)
  (hcs:∀ cl C fp s H,PFTs (z14 X N scope cl C fp s H) ifs Fc) (he:∀ cl C fp s H,PF (z14 X N scope cl C fp s H) elt Fe) (hj:∀ j∈js,j<X.N.length)
  (hs:∀ x,foldedSetIterable iter X.env x=pure x:=by intro _;rfl):AsgF X (.Assign [.Name x pos'] (.ListComp elt [⟨tg,iter,ifs,0⟩] scope pos) spos) i (z0e nt js Fi g Fc Fe):=by
 intro pins s σ H D I h
 exact znN hN hix hx S hc hi hg (Tg.ok hb) (fun cl C fp s H=>PTs.frame (t:=fun H1=>upBK ⟨X.K,H1⟩ Fc) (hcs cl C fp s H)) (fun cl C fp s H=>PE.frame (he cl C fp s H)) hsw hs pins s σ H D I
  (zi (fun j z=>by rw[I.len];exact hj j z) h)
def sSet(rels:List Nat)(i:Nat)(F:FE):FS:=fun ρ=>(F (z1e (relS rels ρ))).map fun x => .nx ((relS rels ρ).set i (.sh x.1.isFr x.2))
theorem z0l{rels:List Nat}{i:Nat}(ha:AsgF X st i Fe):PFS X st (sSet rels i Fe):=(PS.frame ha).imp fun D σ H ⟨H₀,ρ,oc,⟨O,rb⟩,e0,k⟩=>by
 unfold sSet at e0
 cases h:Fe (z1e (relS rels ρ)) with
 | none=>rw[h]at e0;cases e0
 | some x =>
  rw[h]at e0
  cases e0
  obtain⟨O',rb'⟩:=rb.rels rels
  refine⟨O'.adr,rb'.own,z1e (relS rels ρ),x.1,x.2,rb'.rest,h,fun v H' sm r hn=>?_⟩
  have hg:hidL O'.adr (z1i O'.adr H H')=H':=z39 hn
  have rb2:RepO X H₀ (z1i O'.adr H H') O' (relS rels ρ) σ:=rb'.mono (Same.glue sm hn)
  refine k _ _ ⟨_,rb2.set (f:=x.1.isFr) ?_⟩
  rw[hg]
  by_cases q:x.1.isFr=true
  · rw[q];exact r.fr (rb'.b0.trans rb'.same) q
  · rw[show x.1.isFr=false by simpa using q];exact r.sh
def z2E(i:Nat)(F:FE):FS:=fun ρ=>(F ρ).bind fun x=>if x.1.isNw then some (.nx (ρ.set i (.sh true x.2))) else none
theorem zka{H H':Hp}{O:Own}{f:Fl}{d:Dt}{v:V}(ho:OwnL X O.adr H)(sm:Same H H')(q:f.isNw=true)(r:RpF X.ky H f d H' v):Rp X.K H d (hidL O.adr H') v:=by
 cases f<;>first|cases q|skip
 refine Rp.hid (fun b hb=>?_) d (fun b hb o e=>?_) r
 · obtain⟨⟨vs,z⟩,_⟩:=ho b hb
   rw[z];exact fun w=>nomatch w
 · obtain⟨⟨vs,z⟩,_⟩:=ho b hb
   rw[sm _ _ z]at e
   cases e
   exact⟨vs,rfl⟩
theorem z8T{i:Nat}(ha:AsgF X st i Fe):PFS X st (z2E i Fe):=PS.imp ha fun D σ H ⟨H₀,ρ,oc,⟨O,rb⟩,e0,k⟩=>by
 obtain⟨x,e1,e2⟩:=z05 e0
 split at e2
 · rename_i q
   cases e2
   refine⟨ρ,x.1,x.2,rb.all,e1,fun v H' sm r=>k _ _ ⟨_,(rb.mono sm).set (f:=true) ?_⟩⟩
   exact Rp.anti rb.below _ (zka rb.own sm q r)
 · cases e2
def sOwn(i:Nat)(F:FE):FS:=fun ρ=>(F (z1e ρ)).bind fun x=>match x with
 | (.nw,.lst ds)=>if i<ρ.length then some (.nx (ρ.set i (.ow true ds))) else none
 | (.tn,.lst ds)=>if i<ρ.length then some (.nx (ρ.set i (.ow false ds))) else none
 | _=>none
theorem zcv{i:Nat}(ha:AsgF X st i Fe):PFS X st (sOwn i Fe):=(PS.frame ha).imp fun D σ H ⟨H₀,ρ,oc,⟨O,rb⟩,e0,k⟩=>by
 obtain⟨x,e1,e2⟩:=z05 e0
 refine⟨O.adr,rb.own,z1e ρ,x.1,x.2,rb.rest,e1,fun v H' sm r hn=>?_⟩
 have hg:hidL O.adr (z1i O.adr H H')=H':=z39 hn
 have sg:Same H (z1i O.adr H H'):=Same.glue sm hn
 have new:∀{f:Bool} {ds:List Dt} {D:Addr} {vs:List V},hidL O.adr H D=none→H' D=some (.lst vs)→Rps X.K (bsOf X.ky f) ds (hidL [D] H') vs→i<ρ.length→RepB X H₀ (z1i O.adr H H') (ρ.set i (.ow f ds)) (σ.set i (some (.ref D))):=by
   intro f ds D vs hD hv hr hi
   have nO:D ∉ O.adr:=fun z=>by rw[hn D z]at hv;cases hv
   have hH:H D=none:=by rw[z0q nO]at hD;exact hD
   refine⟨_,rb.setNew hi sg hH (by rw[z1c nO];exact hv) nO (rb.below.free hH) ?_⟩
   rw[←z8R,z8K,hg]
   exact hr
 split at e2
 · rename_i ds
   split at e2
   · rename_i hi
     cases e2
     obtain⟨D,vs,rfl,h0,h1,h2⟩:=(Rp.lst_ (K:=X.K)).mp (show Rp X.K (hidL O.adr H) (.lst ds) H' v from r)
     exact k _ _ (new (f:=true) h0 h1 (Rps.anti (rb.b0.trans rb.same) _ h2) hi)
   · cases e2
 · rename_i ds
   split at e2
   · rename_i hi
     cases e2
     obtain⟨D,vs,rfl,h0,h1,h2⟩:=Rp.lst_.mp r.1
     exact k _ _ (new (f:=false) (r.2.2 D rfl) h1 h2 hi)
   · cases e2
 · cases e2
def sOwnA(i:Nat)(F:FE):FS:=fun ρ=>(F ρ).bind fun x=>match x with
 | (.nw,.lst ds)=>if i<ρ.length then some (.nx (ρ.set i (.ow true ds))) else none
 | _=>none
def z19(c:FT)(F:FS):Nat→FS
 | 0,_=>none
 | n+1,ρ=>(c ρ).bind fun b=>if b then(F ρ).bind fun oc=>match oc with|.nx ρ'=>z19 c F n ρ'|.ct ρ'=>z19 c F n ρ'|.bk ρ'=>some (.nx ρ')|.rt f d=>some (.rt f d) else some (.nx ρ)
open Classical in
noncomputable def z3J(c:FT)(F:FS):FS:=fun ρ=>if h:∃ n o,z19 c F n ρ=some o then some (choose (choose_spec h)) else none
theorem z3u{c:FT}{F:FS}:∀{n m:Nat} {ρ:Rho} {o:Oc},n≤m→z19 c F n ρ=some o→z19 c F m ρ=some o
 | 0,m,ρ,o,_,h=>by cases h
 | n+1,0,ρ,o,hl,h=>by omega
 | n+1,m+1,ρ,o,hl,h=>by
  unfold z19 at h ⊢
  obtain⟨b,e1,e2⟩:=z05 h
  rw[e1]
  show(if b=true then _ else _)=_
  cases b with
  | false=>exact e2
  | true =>
   rw[if_pos rfl]at e2 ⊢
   obtain⟨oc,e3,e4⟩:=z05 e2
   rw[e3]
   cases oc with
   | nx ρ'=>exact z3u (by omega) e4
   | ct ρ'=>exact z3u (by omega) e4
   | bk ρ'=>exact e4
   | rt f d=>exact e4
theorem z5w{c:FT}{F:FS}{n:Nat}{ρ:Rho}{o:Oc}(h:z19 c F n ρ=some o):z3J c F ρ=some o:=by
 have hx:∃ n o,z19 c F n ρ=some o:=⟨n,o,h⟩
 unfold z3J
 rw[dif_pos hx]
 have z:=Classical.choose_spec (Classical.choose_spec hx)
 have a:=z3u (Nat.le_max_left n (Classical.choose hx)) h
 have b:=z3u (Nat.le_max_right n (Classical.choose hx)) z
 rw[a]at b
 exact b.symm
theorem zj1{c:FT}{F:FS}{ρ:Rho}{o:Oc}(h:z3J c F ρ=some o):∃ n,z19 c F n ρ=some o:=by
 unfold z3J at h
 split at h
 · rename_i hx
   cases h
   exact⟨_,Classical.choose_spec (Classical.choose_spec hx)⟩
 · cases h
theorem zbL{c:Expr}{body:List Stmt}{Fc:FT}(hp:PassesOwn (model X.prog X.w) X.A X.env X.xe)(hc:PFT X c Fc)(hb:PFSs X body F):PFS X (.While c body [] pos) (z3J Fc F):=(zjI hp hc hb).imp fun D σ H hZ=>hZ.elim fun H₀ hZ=>hZ.elim fun ρ hZ=>hZ.elim fun oc hZ=>hZ.elim fun rb hZ=>hZ.elim fun e0 k=>by
 obtain⟨n0,e1⟩:=zj1 e0
 refine⟨fun m σ' H'=>∃ ρ',RepB X H₀ H' ρ' σ'∧z19 Fc F m ρ'=some oc,⟨n0,ρ,rb,e1⟩,?_⟩
 rintro m σ' H' ⟨ρ',⟨O,rb'⟩,w'⟩
 cases m with
 | zero=>cases w'
 | succ n =>
  unfold z19 at w'
  obtain⟨z,p1,p2⟩:=z05 w'
  refine⟨ρ',z,rb'.all,p1,fun H2 sm=>?_⟩
  dsimp only
  cases z with
  | false =>
   rw[if_neg Bool.false_ne_true]at p2 ⊢
   cases p2
   exact k _ _ ⟨O,rb'.mono sm⟩
  | true =>
   rw[if_pos rfl]at p2 ⊢
   obtain⟨oc',p3,p4⟩:=z05 p2
   refine⟨fun σ' H'=>∃ ρ'',RepB X H₀ H' ρ'' σ'∧z19 Fc F n ρ''=some oc,fun σ3 H3 hZ=>hZ.elim fun ρ3 hZ=>hZ.elim fun rb3 w3=>⟨n,Nat.lt_succ_self n,ρ3,rb3,w3⟩,H₀,ρ',oc',⟨O,rb'.mono sm⟩,p3,?_⟩
   cases oc' with
   | nx ρ3=>exact fun σ3 H3 rb3=>⟨ρ3,rb3,p4⟩
   | ct ρ3=>exact fun σ3 H3 rb3=>⟨ρ3,rb3,p4⟩
   | bk ρ3=>cases p4;exact k
   | rt f d=>cases p4;exact k
def forF(g:Tg)(F:FS):List Dt→FS
 | [],ρ=>some (.nx ρ)
 | x::xs,ρ=>(g.put x ρ).bind fun ρ2=>(F ρ2).bind fun oc=>match oc with|.nx ρ'=>forF g F xs ρ'|.ct ρ'=>forF g F xs ρ'|.bk ρ'=>some (.nx ρ')|.rt f d=>some (.rt f d)
def sFor(rels:List Nat)(Fi:FI)(g:Tg)(F:FS):FS:=fun ρ=>(Fi (z1e (relS rels ρ))).bind fun items=>forF g F items (relS rels ρ)
end
section
variable {X:Cx}{H₀ H H':Hp}{O:Own}{ρ ρ':Rho}{σ:St}
theorem z7W:∀{is:List Nat} {ds:List Dt} {vs:List V} {O:Own} {ρ:Rho} {σ:St},RepO X H₀ H O ρ σ→Rps X.K emp ds (hidL O.adr H) vs→ds.length=is.length→z2n ρ is ds=ρ' →
  z27 is vs σ H fun σ' H'=>H'=H∧∃ O',RepO X H₀ H O' ρ' σ'
 | [],[],vs,O,ρ,σ,rs,r,hl,q=>⟨Rps.nil_.mp r,rfl,O,by rw[←q];exact rs⟩
 | [],d::ds,vs,O,ρ,σ,rs,r,hl,q=>by cases hl
 | i::is,[],vs,O,ρ,σ,rs,r,hl,q=>by cases hl
 | i::is,d::ds,vs,O,ρ,σ,rs,r,hl,q=>by
  obtain⟨v,r',rfl,h1,h2⟩:=Rps.cons_.mp r
  exact⟨v,r',rfl,z7W (rs.set (f:=false) h1) (Rps.mono _ (z3N z1L) h2) (by simpa using hl) q⟩
theorem Tg.simO{g:Tg}{d:Dt}{v:V}(rs:RepO X H₀ H O ρ σ)(r:Rp X.K emp d (hidL O.adr H) v)(h:g.put d ρ=some ρ'):
  g.low X.K v σ H fun σ' H'=>H'=H∧∃ O',RepO X H₀ H O' ρ' σ':=by
 cases g with
 | one i=>cases h;exact⟨rfl,_,rs.set (f:=false) r⟩
 | many is =>
  cases d<;>first|cases h|skip
  rename_i ds
  replace h:(if ds.length=is.length then some (z2n ρ is ds) else none)=some ρ':=h
  split at h
  · rename_i hl
    obtain⟨a,vs,rfl,h1,h2⟩:=Rp.tup_.mp r
    exact⟨a,vs,rfl,z0P.seqT h1,by rw[h2.length];exact hl,z7W rs h2 hl (Option.some.inj h)⟩
  · cases h
end
section
variable {X:Cx}{tg iter:Expr}{body:List Stmt}{Fi:FI}{g:Tg}{F:FS}{pos:Pos}
theorem z3v{rels:List Nat}(hp:PassesOwn (model X.prog X.w) X.A X.env X.xe)(hc:X.calm=true)(hi:PFI X tg iter Fi)(hg:PG X tg (g.low X.K))(hb:PFSs X body F)
   (hs:∀ x,foldedSetIterable iter X.env x=pure x:=by intro _;rfl):PFS X (.For tg iter body [] pos) (sFor rels Fi g F):=(zjJ hp hc (PI.frame hi) hg hb hs).imp fun D σ H ⟨H₀,ρ,oc,⟨O,rb⟩,e0,k⟩=>by
 obtain⟨items,e1,e2⟩:=z05 e0
 obtain⟨O',rb'⟩:=rb.rels rels
 refine⟨O'.adr,rb'.own,z1e (relS rels ρ),items,rb'.rest,e1,fun J H1 sm hsz wk hn=>?_⟩
 have hg1:hidL O'.adr (z1i O'.adr H H1)=H1:=z39 hn
 have s01:Same H₀ H1:=rb'.same.trans sm
 have start:RepO X H1 (z1i O'.adr H H1) O' (relS rels ρ) σ:=by
   have z:=rb'.mono (Same.glue sm hn)
   exact⟨z.ndA,z.ndI,z.own,z.len,rb'.b0.trans s01,by rw[hg1];exact Same.refl _,z.at_⟩
 have back:∀{oc:Oc},OcOk X H₀ D oc→OcOk X H1 D oc:=fun{oc} z=>by
   cases oc with
   | nx ρ5=>exact fun σ5 H5 hZ=>hZ.elim fun O5 r5=>z σ5 H5 ⟨O5,r5.base s01 rb'.b0⟩
   | bk ρ5=>exact fun σ5 H5 hZ=>hZ.elim fun O5 r5=>z σ5 H5 ⟨O5,r5.base s01 rb'.b0⟩
   | ct ρ5=>exact fun σ5 H5 hZ=>hZ.elim fun O5 r5=>z σ5 H5 ⟨O5,r5.base s01 rb'.b0⟩
   | rt f d=>exact fun v H5 s5 r5=>z v H5 (s01.trans s5) r5
 refine⟨fun i m σ' H'=>m=items.length-i∧∃ ρ',RepB X H1 H' ρ' σ'∧forF g F (items.drop i) ρ'=some oc,⟨_,rfl,_,⟨O',start⟩,e2⟩,?_⟩
 rintro i m σ' H' ⟨rfl,ρ',⟨O2,r2⟩,f2⟩
 obtain⟨w1,w2⟩:=wk O2.adr H' r2.same fun a ha=>by obtain⟨⟨vs,q⟩,_⟩:=r2.own a ha;exact⟨_,q⟩
 by_cases hlt:i<items.length
 · obtain⟨x,hx⟩:∃ x,items[i]?=some x:=⟨_,List.getElem?_eq_getElem hlt⟩
   have hdrop:items.drop i=x::items.drop (i+1):=by
    rw[List.drop_eq_getElem_cons hlt]
    rw[List.getElem?_eq_getElem hlt]at hx
    cases hx;rfl
   rw[hdrop]at f2
   unfold forF at f2
   obtain⟨ρ2,p1,f3⟩:=z05 f2
   obtain⟨oc',p2,f4⟩:=z05 f3
   obtain⟨go,yl⟩:=w1 i x hx
   refine .inr ⟨go,fun σ3 H3=>∃ ρ3,RepB X H1 H3 ρ3 σ3∧forF g F (items.drop (i+1)) ρ3=some oc,fun σ3 H3 hZ=>hZ.elim fun ρ3 hZ=>hZ.elim fun r3 f3=>⟨items.length-(i+1),by omega,rfl,ρ3,r3,f3⟩,fun xv H3 y3=>?_⟩
   obtain⟨s3,k3,r3⟩:=yl xv H3 y3
   have sm3:Same H' H3:=fun b o e=>by
    by_cases hb:b∈O2.adr
    · rw[k3 b hb];exact e
    · exact(z4i (s3 b o (by rw[z0q hb];exact e))).2
   refine Tg.low_mono (Tg.simO (r2.mono sm3) r3 p1) ?_
   rintro σ4 H4 ⟨eH,O4,r4⟩
   subst eH
   refine⟨H1,ρ2,oc',⟨O4,r4⟩,p2,?_⟩
   cases oc' with
   | nx ρ5=>exact fun σ5 H5 r5=>⟨ρ5,r5,f4⟩
   | ct ρ5=>exact fun σ5 H5 r5=>⟨ρ5,r5,f4⟩
   | bk ρ5=>cases f4;exact back k
   | rt f d=>cases f4;exact back k
 · have hd:items.drop i=[]:=List.drop_of_length_le (by omega)
   rw[hd]at f2
   cases f2
   exact .inl ⟨w2 i (by omega),back k σ' H' ⟨O2,r2⟩⟩
end
section
variable {P:Program}{w:World}{K:PySem.W.Frag}{mg:Str→Option Value}{base:Heap}
def rho0(n:Nat)(ds:List Dt):Rho:=ds.map (Cell.sh false)++List.replicate (n-ds.length) Cell.no
theorem zdV{X:Cx}{H:Hp}{ds:List Dt}{vs:List V}{N:List Str}(h0:X.H₀=H)(h:Rps X.K emp ds H vs):RepO X H H [] (rho0 N.length ds) (start N vs):=by
 have hl:=h.length
 refine⟨List.nodup_nil,List.nodup_nil,fun a ha=>(nomatch ha),by unfold rho0 start;simp[hl],by rw[h0];exact Same.refl H,by show Same H (hidL [] H);rw[zcp];exact Same.refl H,fun i c e=>?_⟩
 unfold rho0 at e
 unfold start
 by_cases hi:i<ds.length
 · rw[List.getElem?_append_left (by simpa using hi),List.getElem?_map]at e
   cases q:ds[i]? with
   | none=>rw[q]at e;cases e
   | some d =>
     rw[q]at e
     cases e
     obtain⟨v,e1,e2⟩:=h.get q
     refine⟨some v,?_,v,rfl,by show Rp X.K emp d (hidL [] H) v;rw[zcp];exact e2⟩
     rw[List.getElem?_append_left (by simp;omega),List.getElem?_map,e1];rfl
 · rw[List.getElem?_append_right (by simp;omega),List.getElem?_replicate]at e
   split at e
   · cases e
     rename_i hlt
     simp at hlt
     refine⟨none,?_,trivial⟩
     rw[List.getElem?_append_right (by simp;omega),List.getElem?_replicate,if_pos (by simp;omega)]
   · cases e
def cOf(np n:Nat)(fr:Bool)(F:FS):FC:=fun ds=>if ds.length=np then
 (F (rho0 n ds)).bind fun oc=>match oc with|.rt f d=>if fr&&!(f.isFr||d.flat) then none else some d|.nx _=>some .non|_=>none
 else none
theorem Fun.data{x qual:Str}{st:Stmt}{f:Addr}{fd:FuncData}{N ps:List Str}{k:Nat}{fr:Bool}{F:FS}(Fu:Fun K x qual st f fd)(S:FnScope N ps (z04 st))
    (body:∀(cdv:Value) (A:Around) (outer:List Env) (s:Shared) (H:Hp) (E:XK),Room k (A.deeper (envOfC qual (z04 st) s.heap.objs.size f cdv)) →
      PFSs (cxOf CX0 P w K mg base N qual (z04 st) f cdv A outer s H E).nox (z1K st) F):FnOk P w K mg base CX0 (k+1) f fd ps (spc K fr (cOf ps.length N.length fr F)):=by
  refine Fu.ok S (fun vs H Q E h=>?_) (fun cdv A outer s H vs Q E hr h=>?_)
  · obtain⟨ds,d,r,e,q⟩:=h
    unfold cOf at e
    split at e
    · rename_i hl
      rw[r.length];exact hl
    · cases e
  · obtain⟨ ds,d,r,e,q⟩:=h
    unfold cOf at e
    split at e
    · rename_i hl
      obtain⟨oc,e1,e2⟩:=z05 e
      refine⟨_,body cdv A outer s H E hr,H,rho0 N.length ds,oc,⟨[],zdV rfl r⟩,e1,?_⟩
      cases oc with
      | nx ρ=>cases e2;exact fun σ H' hZ=>hZ.elim fun O rb=>q _ H' (rb.same.trans z0P) (Rp.non_.mpr rfl)
      | bk ρ=>cases e2
      | ct ρ=>cases e2
      | rt f d' =>
        have e2:(if(fr&&!(f.isFr||d'.flat))=true then none else some d')=some d:=e2
        split at e2
        · cases e2
        · rename_i hf
          cases e2
          refine fun v H' sm r'=>q v H' sm ?_
          cases fr with
          | false=>exact Rp.anti Same.emp _ r'
          | true =>
            have hf:f.isFr=true∨d.flat=true:=by
              cases h1:f.isFr<;>cases h2:d.flat<;>simp[h1,h2]at hf ⊢
            rcases hf with hf|hf
            · rw[hf]at r';exact r'
            · exact Rp.flat d hf r'
    · cases e
theorem zj2{l:PySem.W.OpenLaw}{q:Program}{loose:List Str}{XP:(Str→Option Value)→Heap→Prop}{YP:World→Heap→Prop}{d:DefRec}{K:Params→PySem.W.Frag}{x:Str}{k:Nat}{fr:Bool}{c:FC}(hn:l.most=some 63)(hdf:d.params.defaults=[])
  (hY:∀(w:World) (h:Heap),YP w h→(K w.params).In h)
  (F:∀(w:World) (mg:Str→Option Value) (fa:Addr) (h:Heap),(K w.params).In h→h.Ns mainGlobals mg→mg d.name=some (.ref fa) →
   ∃ fd:FuncData,(∀(s:Shared) (u:Value),BindsTo s fd ⟨[u],[]⟩ [(x,u)])∧∀ base:Heap,(K w.params).In base→base.Ns mainGlobals mg→FnOk l.prog w (K w.params) mg base CX0 k fa fd [x] (spc (K w.params) fr c))
  (hc:∀ ns:List Int,ns.length≤63→c [.scr ns]=some (.bl true))
  (hr:Room k callerA):PySem.W.WalkO q loose XP YP l.row.toRowW d [] (fun f vs=>PySem.call f vs) :=
 L2.znJ (n:=63) (k:=k) (x:=x) (CX:=fun _=>CX0) (sp:=fun w=>spc (K w.params) fr c) hn (by decide) hdf hr hY F
  (fun w H a ns hl _ hS=>⟨[.scr ns],_,Rps.one (Rp.scr_.mpr ⟨a,rfl,rfl,hS⟩),hc ns hl,fun v H' _ r=>by cases fr<;>exact Rp.bl_.mp r⟩) fun _ _ _ _ _ z=>z
end
def zkb(XN:List Str)(xs:List (Str×NameKind))(scope:Scope)(N:List Str)(nt:Nat)(js:List Nat):Bool :=
 decide ((scope.names.map (·.1)).Nodup)&&(N.length==nt+js.length)&&((List.range js.length).all fun k=>match js[k]? with
  | some j=>(match N[nt+k]?,XN[j]? with|some x,some y=>x==y&&scope.names.lookup x==some .free|_,_=>false)
  | none=>false)&&scope.names.all fun p=>p.2 != .free||xs.lookup p.1==some .cell||xs.lookup p.1==some .free
theorem z0d{X:Cx}{N:List Str}{scope:Scope}{nt:Nat}{js:List Nat}(XN:List Str)(xs:List (Str×NameKind))(h1:X.N=XN)(h2:X.env.scope.names=xs)(hk:scope.kind = .function)(c:zkb XN xs scope N nt js=true):CompScope X N scope nt js:=by
 unfold zkb at c
 rw[Bool.and_eq_true,Bool.and_eq_true,Bool.and_eq_true]at c
 obtain⟨⟨⟨c1,c2⟩,c3⟩,c4⟩:=c
 have nd:=of_decide_eq_true c1
 refine⟨hk,nd,fun x hx e=>by rw[z2O nd hx,e],beq_iff_eq.mp c2,fun k j e=>?_,fun x hx e=>?_⟩
 · have hk:k<js.length:=by
     by_cases hk:k<js.length
     · exact hk
     · rw[List.getElem?_eq_none (by omega)]at e;cases e
   have z:=List.all_eq_true.mp c3 k (List.mem_range.mpr hk)
   rw[e]at z
   dsimp only at z
   rw[h1]
   cases q1:N[nt+k]? with
   | none=>rw[q1]at z;cases z
   | some x =>
     cases q2:XN[j]? with
     | none=>rw[q1,q2]at z;cases z
     | some y =>
       rw[q1,q2]at z
       dsimp only at z
       rw[Bool.and_eq_true]at z
       have exy:x=y:=beq_iff_eq.mp z.1
       subst exy
       exact⟨x,rfl,rfl,beq_iff_eq.mp z.2⟩
 · have z:=List.all_eq_true.mp c4 x hx
   rw[e]at z
   have z:(xs.lookup x.1==some .cell||xs.lookup x.1==some .free)=true:=by simpa using z
   show X.env.scope.names.lookup x.1=_∨X.env.scope.names.lookup x.1=_
   rw[h2]
   rcases Bool.or_eq_true _ _ |>.mp z with z|z
   · exact .inl (beq_iff_eq.mp z)
   · exact .inr (beq_iff_eq.mp z)
structure Df(K:PySem.W.Frag)(mg:Str→Option Value)(name:Str)(st:Stmt)(ps:List Str)(f:Addr)(fd:FuncData):Prop where
 fn:Fun K name name st f fd
 mg:mg name=some (.ref f)
 bd:Binds K fd ps []
theorem df_mk{K:PySem.W.Frag}{h:Heap}{mg:Str→Option Value}(X:K.In h)(G:h.Ns mainGlobals mg){x:Str}{st:Stmt}{f:Addr}{oc:Value}{od an:Option Addr}{osl:Array (Option Value)}{kV doc pm cdv ct:Value}{ps:List Str}
  (e:PySem.W.nsIn K mainGlobals x=some (some (.ref f))) (l:K.lookup f=some ⟨oc,od,.func (PySem.W.fnOf x x (z2A st) (z1K st) (z04 st) .none kV doc pm an cdv ct),osl⟩) (c:PySem.W.codeIn K cdv x=true) (k:PySem.W.keepIn K (.ref f)=true)
  (hb:∀(kV doc pm:Value) (an:Option Addr) (cdv ct:Value) (us:List Value),us.length=ps.length→bindArgs (PySem.W.fnOf x x (z2A st) (z1K st) (z04 st) .none kV doc pm an cdv ct) ⟨us,[]⟩=pure (ps.zip us)) :
  Df K mg x st ps f (PySem.W.fnOf x x (z2A st) (z1K st) (z04 st) .none kV doc pm an cdv ct) :=
 ⟨zjT l c k,PySem.W.mg_of X G e,(zjT (st:=st) l c k).binds hb⟩
end L2

end
section
set_option Elab.async false
set_option linter.all false
set_option maxRecDepth 100000
namespace ZL
open PySem PyProof.Rows
def ItAt(h:Heap)(tu:Bool)(it l:Addr)(k:Nat):Prop:=if tu then h.IsTupleIter it l k else h.IsListIter it l k
def SqAt(h:Heap)(tu:Bool)(l:Addr)(xs:Array Value):Prop:=if tu then h.IsTuple l xs else h.IsList l xs
section
variable {h h':Heap}{tu:Bool}{it l c:Addr}{k:Nat}{xs:Array Value}
theorem ItAt.at(x:ItAt h tu it l k)(q:∀ o,h.get? it=some o→h'.get? it=some o):ItAt h' tu it l k:=by
 unfold ItAt at x ⊢
 cases tu with
 | true=>obtain⟨o,e,r⟩:=x;exact⟨o,q o e,r⟩
 | false=>obtain⟨o,e,r⟩:=x;exact⟨o,q o e,r⟩
theorem SqAt.at(x:SqAt h tu l xs)(q:∀ o,h.get? l=some o→h'.get? l=some o):SqAt h' tu l xs:=by
 unfold SqAt at x ⊢
 cases tu with
 | true=>obtain⟨o,e,r⟩:=x;exact⟨o,q o e,r⟩
 | false=>obtain⟨o,e,r⟩:=x;exact⟨o,q o e,r⟩
theorem ItAt.lt(x:ItAt h tu it l k):it<h.objs.size:=by
 unfold ItAt at x
 cases tu with
 | true=>obtain⟨o,e,_⟩:=x;exact Heap.lt_size e
 | false=>obtain⟨o,e,_⟩:=x;exact Heap.lt_size e
theorem SqAt.lt(x:SqAt h tu l xs):l<h.objs.size:=by
 unfold SqAt at x
 cases tu with
 | true=>obtain⟨o,e,_⟩:=x;exact Heap.lt_size e
 | false=>obtain⟨o,e,_⟩:=x;exact Heap.lt_size e
end
section
variable {prog:Program}{w:World}{A:Around}{E:Value→Shared→Prop}{s:Shared}
theorem zdW{it t:Addr}{i:Nat}{items:Array Value}{x:Value}{Q:Value→Shared→Prop}(a:s.heap.IsTupleIter it t i)(b:s.heap.IsTuple t items)(c:items[i]?=some x)
  (q:∀ h',h'.IsTupleIter it t (i+1)→Heap.SameBut it s.heap h'→Q x { s with heap:=h' }):wpAny (model prog w) A (Builtin.SmallTypes.nextOf (.ref it)) Q E s:=by
 obtain⟨o,e1,e2,e3⟩:=id a
 obtain⟨p,f1,_,n,f2⟩:=b
 unfold Builtin.SmallTypes.nextOf
 refine wpAny_bind (wpAny_callSpecial?_slot (name:=Str.ofString "__next__") a.typeIs F.slot_tuple_iterator_next (wpAny_call_entry F.slot_tuple_iterator_next a.typeIs F.entry_tuple_iterator_next ?_ (F.args_tuple_iterator_next_1 _)))
 show wpAny _ _ (field (.ref it) 0 >>= fun z=>_) _ _ s
 refine wpAny_bind (wpAny_field e1 e3 (x:=Value.ref t) rfl ?_)
 show wpAny _ _ (if(Value.ref t==Value.none)=true then _ else _) _ _ s
 rw[if_neg (by exact Bool.false_ne_true)]
 show wpAny _ _ (field (.ref it) 1 >>= fun z=>_) _ _ s
 refine wpAny_bind (wpAny_field e1 e3 (x:=Value.int i 0) rfl ?_)
 show wpAny _ _ (seqItems? (.ref t) >>= fun z=>_) _ _ s
 refine wpAny_bind (wpAny_seqItems f1 f2 ?_)
 simp only[Int.toNat_natCast,c]
 refine wpAny_bind (wpAny_setField e1 e3 (by simp) (wpAny_pure ⟨x,rfl,wpAny_pure (q _ ⟨_,Heap.get?_update_self _ e1 (Obj.isFreed_of_fields (Obj.data_mapFields e3 _)),(Obj.cls_mapFields ..).trans e2,?_⟩ (Heap.SameBut.update ..))⟩))
 rw[Obj.data_mapFields e3]
 simp[rawInt]
theorem zj3{it t:Addr}{i:Nat}{items:Array Value}{Q:Value→Shared→Prop}(hn:A.handled=none)(a:s.heap.IsTupleIter it t i)(b:s.heap.IsTuple t items)(c:items[i]?=none)
  (q:∀ h' e,Heap.ExtBut it s.heap h'→(∃ o,h'.get? e=some o∧o.cls = .type "StopIteration")→E (.ref e) { s with heap:=h' }):wpAny (model prog w) A (Builtin.SmallTypes.nextOf (.ref it)) Q E s:=by
 obtain⟨o,e1,e2,e3⟩:=id a
 obtain⟨p,f1,_,n,f2⟩:=b
 unfold Builtin.SmallTypes.nextOf
 refine wpAny_bind (wpAny_callSpecial?_slot (name:=Str.ofString "__next__") a.typeIs F.slot_tuple_iterator_next (wpAny_call_entry F.slot_tuple_iterator_next a.typeIs F.entry_tuple_iterator_next ?_ (F.args_tuple_iterator_next_1 _)))
 show wpAny _ _ (field (.ref it) 0 >>= fun z=>_) _ _ s
 refine wpAny_bind (wpAny_field e1 e3 (x:=Value.ref t) rfl ?_)
 show wpAny _ _ (if(Value.ref t==Value.none)=true then _ else _) _ _ s
 rw[if_neg (by exact Bool.false_ne_true)]
 show wpAny _ _ (field (.ref it) 1 >>= fun z=>_) _ _ s
 refine wpAny_bind (wpAny_field e1 e3 (x:=Value.int i 0) rfl ?_)
 show wpAny _ _ (seqItems? (.ref t) >>= fun z=>_) _ _ s
 refine wpAny_bind (wpAny_seqItems f1 f2 ?_)
 simp only[Int.toNat_natCast,c]
 refine wpAny_bind (wpAny_rule (wpAny_bind (wpAny_setField e1 e3 (by simp) ?_)))
 show wpAny _ _ (newExc (.type "StopIteration") [] >>= fun z=>_) _ _ _
 refine wpAny_bind ?_
 simp only[newExc,newTuple]
 refine wpAny_bind (wpAny_newObj_type ?_ (by size_fits))
 refine wpAny_bind (m:=firstArgMember _ _) (wpAny_of_eq (a:=Value.none) (by first|(simp only[firstArgMember];rfl)|rfl) ?_)
 refine wpAny_newObj_type ?_ (by size_fits)
 simp only[raiseNew]
 refine wpAny_bind (wpAny_handled ?_)
 first|rw[hn]|rw[show A.in1.handled=none from hn]
 refine wpAny_bind (wpAny_pure (wpAny_throw ?_))
 exact q _ _ (((Heap.SameBut.update ..).extBut.push _).push _) ⟨_,Heap.get?_push_size _ rfl,rfl⟩
theorem zau{tu:Bool}{it l:Addr}{i:Nat}{items:Array Value}{x:Value}{Q:Option Value→Shared→Prop}(a:ItAt s.heap tu it l i)(b:SqAt s.heap tu l items)(c:items[i]?=some x)
  (q:∀ h',ItAt h' tu it l (i+1)→Heap.SameBut it s.heap h'→Q (some x) { s with heap:=h' }):wpAny (model prog w) A (Builtin.SmallTypes.nextOrEnd (.ref it)) Q E s:=by
 unfold Builtin.SmallTypes.nextOrEnd
 cases tu with
 | true=>exact wpAny_bind (wpAny_attempt (zdW a b c fun h' p1 p2=>wpAny_pure (q h' p1 p2)))
 | false=>exact wpAny_bind (wpAny_attempt (wpAny_nextOf_list_item a b c fun h' p1 p2=>wpAny_pure (q h' p1 p2)))
theorem zcw{tu:Bool}{it l:Addr}{i:Nat}{items:Array Value}{Q:Option Value→Shared→Prop}(hn:A.handled=none)(a:ItAt s.heap tu it l i)(b:SqAt s.heap tu l items)(c:items[i]?=none)
  (q:∀ h',Heap.ExtBut it s.heap h'→Q none { s with heap:=h' }):wpAny (model prog w) A (Builtin.SmallTypes.nextOrEnd (.ref it)) Q E s:=by
 unfold Builtin.SmallTypes.nextOrEnd
 cases tu with
 | true=>exact wpAny_bind (wpAny_attempt (zj3 hn a b c fun h' e p1 hZ=>hZ.elim fun o hZ=>hZ.elim fun p2 p3=>wpAny_bind (wpAny_isInstance (T := "StopIteration") (b:=true) ⟨o,p2,p3⟩ isSubtype_stop (wpAny_pure (q h' p1)))))
 | false=>exact wpAny_bind (wpAny_attempt (wpAny_nextOf_list_end hn a b c fun h' e p1 hZ=>hZ.elim fun o hZ=>hZ.elim fun p2 p3=>wpAny_bind (wpAny_isInstance (T := "StopIteration") (b:=true) ⟨o,p2,p3⟩ isSubtype_stop (wpAny_pure (q h' p1)))))
def z2F(h:Heap)(z ti to:Addr)(f:Value):Prop:=h.get? z=some { cls := .type "zip",dict:=none,data := .fields #[f,.bool false,.bool true,.ref ti,.ref to],slots:=#[] }
structure Apart(z ti to i j a b:Addr):Prop where
 p1:ti≠z
 p2:to≠z
 p3:i≠z
 p4:j≠z
 p5:ti≠to
 p6:ti≠i
 p7:ti≠j
 p8:to≠i
 p9:to≠j
 p10:i≠j
 a1:a≠z
 a2:a≠to
 a3:a≠i
 a4:a≠j
 b1:b≠z
 b2:b≠to
 b3:b≠i
 b4:b≠j
def zEnd(l:List Value)(n:Nat):Sem PySem.Fin:=do
 if n > 0 then
  rule "zip.__next__.shorter";raiseError "ValueError" s!"zip() argument {n + 1} is shorter than {if n == 1 then "argument 1" else s!"arguments 1-{n}"}"
 for (e,m) in (l.drop 1).zipIdx 1 do
  if(←Builtin.SmallTypes.nextOrEnd e).isSome then
   rule "zip.__next__.longer";raiseError "ValueError" s!"zip() argument {m + 1} is longer than {if m == 1 then "argument 1" else s!"arguments 1-{m}"}"
 rule "zip.__next__.all-ended";Builtin.SmallTypes.stopIteration
theorem zkc{z ti to i j a b:Addr}{ta tb:Bool}{k:Nat}{xs ys:Array Value}{x y u v:Value}{Q:Value→Shared→Prop}(D:Apart z ti to i j a b)
  (hz:z2F s.heap z ti to .none) (hI:IsPair s.heap ti (.ref i) (.ref j)) (hO:IsPair s.heap to u v) (hi:ItAt s.heap ta i a k) (hj:ItAt s.heap tb j b k) (ha:SqAt s.heap ta a xs) (hb:SqAt s.heap tb b ys) (hx:xs[k]?=some x) (hy:ys[k]?=some y)
  (hQ:∀ h',z2F h' z ti to (rawInt s.heap.objs.size)→IsPair h' to x y→ItAt h' ta i a (k+1)→ItAt h' tb j b (k+1)→IsPair h' s.heap.objs.size x y→h'.objs.size=s.heap.objs.size+1 →
   (∀ c o,c≠z→c≠to→c≠i→c≠j→s.heap.get? c=some o→h'.get? c=some o)→Q (.ref s.heap.objs.size) { s with heap:=h' }) :
  wpAny (model prog w) A (Builtin.«zip.__next__» ⟨[.ref z],[]⟩) (fun fin s'=>∃ v,fin = .done (.ret v)∧Q v s') E s:=by
 show wpAny _ _ (field (.ref z) 2 >>= fun t=>_) _ _ _
 refine wpAny_bind (wpAny_field hz rfl (x:=Value.bool true) rfl ?_)
 show wpAny _ _ (field (.ref z) 3 >>= fun t=>_) _ _ _
 refine wpAny_bind (wpAny_field hz rfl (x:=Value.ref ti) rfl ?_)
 refine wpAny_bind (wpAny_seqItems hI rfl ?_)
 show wpAny _ _ (Builtin.SmallTypes.ownedTupleIsFree (.ref z) >>= fun t=>_) _ _ _
 refine wpAny_bind ?_
 unfold Builtin.SmallTypes.ownedTupleIsFree
 refine wpAny_bind (wpAny_field hz rfl (x:=Value.none) rfl (wpAny_pure ?_))
 simp only[if_true]
 refine wpAny_bind (wpAny_rule ?_)
 refine wpAny_bind (wpAny_field hz rfl (x:=Value.ref to) rfl ?_)
 refine wpAny_bind (wpAny_setField_rec hz (by simp) fun g1 z1 m1=>?_)
 replace z1:z2F g1 z ti to .ellipsis:=z1
 refine wpAny_bind ?_
 simp only[List.zipIdx_cons,List.forIn_cons,List.zipIdx_nil,List.forIn_nil]
 refine wpAny_bind (wpAny_bind (wpAny_onRaise ?_))
 show wpAny _ _ (Builtin.SmallTypes.nextOrEnd (.ref i)) _ _ _
 refine zau (hi.at fun o e=>m1.extBut _ _ D.p3 e) (ha.at fun o e=>m1.extBut _ _ D.a1 e) hx fun g2 i2 m2=>?_
 have o2:IsPair g2 to u v:=m2.extBut _ _ D.p8 (m1.extBut _ _ D.p2 hO)
 refine wpAny_bind (wpAny_seqItems o2 rfl ?_)
 refine wpAny_bind (wpAny_updateSeq_pair o2 fun g3 o3 m3=>?_)
 replace o3:IsPair g3 to x v:=o3
 refine wpAny_bind (wpAny_letGo (wpAny_pure ?_))
 refine wpAny_bind (wpAny_bind (wpAny_onRaise ?_))
 show wpAny _ _ (Builtin.SmallTypes.nextOrEnd (.ref j)) _ _ _
 refine zau (hj.at fun o e=>m3.extBut _ _ D.p9.symm (m2.extBut _ _ D.p10.symm (m1.extBut _ _ D.p4 e))) (hb.at fun o e=>m3.extBut _ _ D.b2 (m2.extBut _ _ D.b3 (m1.extBut _ _ D.b1 e))) hy fun g4 j4 m4=>?_
 have o4:IsPair g4 to x v:=m4.extBut _ _ D.p9 o3
 refine wpAny_bind (wpAny_seqItems o4 rfl ?_)
 refine wpAny_bind (wpAny_updateSeq_pair o4 fun g5 o5 m5=>?_)
 replace o5:IsPair g5 to x y:=o5
 refine wpAny_bind (wpAny_letGo (wpAny_pure (wpAny_pure ?_)))
 refine wpAny_bind (wpAny_seqItems o5 rfl ?_)
 refine wpAny_bind (wpAny_newTuple ?_)
 have sz:g5.objs.size=s.heap.objs.size:=by rw[m5.1,m4.1,m3.1,m2.1,m1.1]
 have z5:z2F g5 z ti to .ellipsis:=m5.extBut _ _ D.p2.symm (m4.extBut _ _ D.p4.symm (m3.extBut _ _ D.p2.symm (m2.extBut _ _ D.p3.symm z1)))
 have k5:∀ c o,c≠z→c≠to→c≠i→c≠j→s.heap.get? c=some o→g5.get? c=some o:=fun c o c1 c2 c3 c4 e=>m5.extBut _ _ c2 (m4.extBut _ _ c4 (m3.extBut _ _ c2 (m2.extBut _ _ c3 (m1.extBut _ _ c1 e))))
 have i5:ItAt g5 ta i a (k+1):=i2.at fun o e=>m5.extBut _ _ D.p8.symm (m4.extBut _ _ D.p10 (m3.extBut _ _ D.p8.symm e))
 have j5:ItAt g5 tb j b (k+1):=j4.at fun o e=>m5.extBut _ _ D.p9.symm e
 have zl:z<g5.objs.size:=Heap.lt_size z5
 show wpAny _ _ (Builtin.SmallTypes.ownedTupleHandOut (.ref z) (.ref g5.objs.size) >>= fun t=>_) _ _ _
 refine wpAny_bind ?_
 unfold Builtin.SmallTypes.ownedTupleHandOut
 have z6:z2F (g5.push { cls := .type "tuple",data := .seq #[x,y] }) z ti to .ellipsis:=Heap.get?_push_of_some _ z5
 refine wpAny_bind (wpAny_setField_rec z6 (by simp) fun g7 z7 m7=>?_)
 replace z7:z2F g7 z ti to (rawInt g5.objs.size):=z7
 refine wpAny_setField_rec z7 (by simp) fun g8 z8 m8=>?_
 replace z8:z2F g8 z ti to (rawInt g5.objs.size):=z8
 have up:∀ c o,c≠z→g5.get? c=some o→g8.get? c=some o:=fun c o c1 e=>m8.extBut _ _ c1 (m7.extBut _ _ c1 (Heap.get?_push_of_some _ e))
 have t8:IsPair g8 g5.objs.size x y:=m8.extBut _ _ (Nat.ne_of_gt zl) (m7.extBut _ _ (Nat.ne_of_gt zl) (Heap.get?_push_size _ rfl))
 have s8:g8.objs.size=g5.objs.size+1:=by rw[m8.1,m7.1,Heap.size_push]
 rw[sz]at z8 t8 s8
 refine wpAny_pure ⟨_,rfl,?_⟩
 show Q (.ref g5.objs.size) _
 rw[sz]
 exact hQ g8 z8 (up _ _ D.p2 o5) (i5.at fun o e=>up _ o D.p3 e) (j5.at fun o e=>up _ o D.p4 e) t8 s8 fun c o c1 c2 c3 c4 e=>up c o c1 (k5 c o c1 c2 c3 c4 e)
theorem znU{z ti to i j a b:Addr}{ta tb:Bool}{k:Nat}{xs ys:Array Value}{u v:Value}{Q:Fin→Shared→Prop}(hn:A.handled=none)(D:Apart z ti to i j a b)
  (hz:z2F s.heap z ti to .none) (hI:IsPair s.heap ti (.ref i) (.ref j)) (hO:IsPair s.heap to u v) (hi:ItAt s.heap ta i a k) (hj:ItAt s.heap tb j b k) (ha:SqAt s.heap ta a xs) (hb:SqAt s.heap tb b ys) (hx:xs[k]?=none) (hy:ys[k]?=none)
  (hE:∀ h' e,(∀ c o,c≠z→c≠to→c≠i→c≠j→s.heap.get? c=some o→h'.get? c=some o)→(∃ o,h'.get? e=some o∧o.cls = .type "StopIteration")→E (.ref e) { s with heap:=h' }) :
  wpAny (model prog w) A (Builtin.«zip.__next__» ⟨[.ref z],[]⟩) Q E s:=by
 show wpAny _ _ (field (.ref z) 2 >>= fun t=>_) _ _ _
 refine wpAny_bind (wpAny_field hz rfl (x:=Value.bool true) rfl ?_)
 show wpAny _ _ (field (.ref z) 3 >>= fun t=>_) _ _ _
 refine wpAny_bind (wpAny_field hz rfl (x:=Value.ref ti) rfl ?_)
 refine wpAny_bind (wpAny_seqItems hI rfl ?_)
 show wpAny _ _ (Builtin.SmallTypes.ownedTupleIsFree (.ref z) >>= fun t=>_) _ _ _
 refine wpAny_bind ?_
 unfold Builtin.SmallTypes.ownedTupleIsFree
 refine wpAny_bind (wpAny_field hz rfl (x:=Value.none) rfl (wpAny_pure ?_))
 simp only[if_true]
 refine wpAny_bind (wpAny_rule ?_)
 refine wpAny_bind (wpAny_field hz rfl (x:=Value.ref to) rfl ?_)
 refine wpAny_bind (wpAny_setField_rec hz (by simp) fun g1 z1 m1=>?_)
 replace z1:z2F g1 z ti to .ellipsis:=z1
 refine wpAny_bind ?_
 simp only[List.zipIdx_cons,List.forIn_cons,List.zipIdx_nil,List.forIn_nil]
 refine wpAny_bind (wpAny_bind (wpAny_onRaise ?_))
 show wpAny _ _ (Builtin.SmallTypes.nextOrEnd (.ref i)) _ _ _
 refine zcw hn (hi.at fun o e=>m1.extBut _ _ D.p3 e) (ha.at fun o e=>m1.extBut _ _ D.a1 e) hx fun g2 m2=>?_
 have z2:z2F g2 z ti to .ellipsis:=m2 _ _ D.p3.symm z1
 refine wpAny_bind (wpAny_setField_rec z2 (by simp) fun g3 z3 m3=>?_)
 refine wpAny_bind ?_
 show wpAny _ _ (zEnd [.ref i,.ref j] 0) _ _ _
 unfold zEnd
 rw[if_neg (Nat.lt_irrefl 0)]
 show wpAny _ _ (forIn [(Value.ref j,1)] PUnit.unit _ >>= fun t=>_) _ _ _
 simp only[List.forIn_cons,List.forIn_nil]
 refine wpAny_bind (wpAny_bind (wpAny_bind (zcw hn (hj.at fun o e=>m3.extBut _ _ D.p4 (m2 _ _ D.p10.symm (m1.extBut _ _ D.p4 e))) (hb.at fun o e=>m3.extBut _ _ D.b1 (m2 _ _ D.b3 (m1.extBut _ _ D.b1 e))) hy fun g4 m4=>?_)))
 simp only[Option.isSome_none,Bool.false_eq_true,if_false]
 refine wpAny_pure (wpAny_pure (wpAny_bind (wpAny_rule ?_)))
 unfold Builtin.SmallTypes.stopIteration
 refine wpAny_bind ?_
 simp only[newExc,newTuple]
 refine wpAny_bind (wpAny_newObj_type ?_ (by size_fits))
 refine wpAny_bind (m:=firstArgMember _ _) (wpAny_of_eq (a:=Value.none) (by first|(simp only[firstArgMember];rfl)|rfl) ?_)
 refine wpAny_newObj_type ?_ (by size_fits)
 simp only[raiseNew]
 refine wpAny_bind (wpAny_handled ?_)
 first|rw[hn]|rw[show A.in1.handled=none from hn]
 refine wpAny_bind (wpAny_pure (wpAny_throw ?_))
 refine hE _ _ (fun c o c1 c2 c3 c4 e=>?_) ⟨_,Heap.get?_push_size _ rfl,rfl⟩
 exact Heap.get?_push_of_some _ (Heap.get?_push_of_some _ (m4 _ _ c4 (m3.extBut _ _ c1 (m2 _ _ c3 (m1.extBut _ _ c1 e)))))
theorem zj4{z ti to i j a b:Addr}{ta tb:Bool}{k:Nat}{xs ys:Array Value}{x y u v:Value}{Q:Option Value→Shared→Prop}(D:Apart z ti to i j a b)
  (hz:z2F s.heap z ti to .none) (hI:IsPair s.heap ti (.ref i) (.ref j)) (hO:IsPair s.heap to u v) (hi:ItAt s.heap ta i a k) (hj:ItAt s.heap tb j b k) (ha:SqAt s.heap ta a xs) (hb:SqAt s.heap tb b ys) (hx:xs[k]?=some x) (hy:ys[k]?=some y)
  (hQ:∀ h',z2F h' z ti to (rawInt s.heap.objs.size)→IsPair h' to x y→ItAt h' ta i a (k+1)→ItAt h' tb j b (k+1)→IsPair h' s.heap.objs.size x y→h'.objs.size=s.heap.objs.size+1 →
   (∀ c o,c≠z→c≠to→c≠i→c≠j→s.heap.get? c=some o→h'.get? c=some o)→Q (some (.ref s.heap.objs.size)) { s with heap:=h' }):wpAny (model prog w) A (pyNext (.ref z)) Q E s:=by
 have t:s.TypeIs (.ref z) "zip" := ⟨_,hz,rfl⟩
 unfold pyNext
 exact wpAny_bind (wpAny_attempt (wpAny_callSpecial?_slot (name:=Str.ofString "__next__") t F.slot_zip_next (wpAny_call_entry F.slot_zip_next t F.entry_zip_next
  (zkc D hz hI hO hi hj ha hb hx hy fun h' q1 q2 q3 q4 q5 q6 q7=>wpAny_pure (hQ h' q1 q2 q3 q4 q5 q6 q7)) (F.args_zip_next_1 _))))
theorem zkd{z ti to i j a b:Addr}{ta tb:Bool}{k:Nat}{xs ys:Array Value}{u v:Value}{Q:Option Value→Shared→Prop}(hn:A.handled=none)(D:Apart z ti to i j a b)
  (hz:z2F s.heap z ti to .none) (hI:IsPair s.heap ti (.ref i) (.ref j)) (hO:IsPair s.heap to u v) (hi:ItAt s.heap ta i a k) (hj:ItAt s.heap tb j b k) (ha:SqAt s.heap ta a xs) (hb:SqAt s.heap tb b ys) (hx:xs[k]?=none) (hy:ys[k]?=none)
  (hQ:∀ h',(∀ c o,c≠z→c≠to→c≠i→c≠j→s.heap.get? c=some o→h'.get? c=some o)→Q none { s with heap:=h' }):wpAny (model prog w) A (pyNext (.ref z)) Q E s:=by
 have t:s.TypeIs (.ref z) "zip" := ⟨_,hz,rfl⟩
 unfold pyNext
 refine wpAny_bind (wpAny_attempt (wpAny_callSpecial?_slot (name:=Str.ofString "__next__") t F.slot_zip_next (wpAny_call_entry F.slot_zip_next t F.entry_zip_next
  (znU hn D hz hI hO hi hj ha hb hx hy fun h' e q1 hZ=>hZ.elim fun o hZ=>hZ.elim fun q2 q3=>?_) (F.args_zip_next_1 _))))
 exact wpAny_bind (wpAny_isInstance (T := "StopIteration") (b:=true) ⟨o,q2,q3⟩ isSubtype_stop (wpAny_pure (hQ _ q1)))
theorem let_go{elts:List Expr}{n:Nat}{pos:Pos}{z ti to t:Addr}{Q:Unit→Shared→Prop}(hz:z2F s.heap z ti to (rawInt t))
  (hQ:∀ h',z2F h' z ti to .none→Heap.SameBut z s.heap h'→Q () { s with heap:=h' }):wpAny (model prog w) A (letOwnedTupleGo (.Tuple elts n pos) (.ref z) (.ref t)) Q E s:=by
 unfold letOwnedTupleGo
 refine wpAny_bind (wpAny_load hz ?_)
 show wpAny _ _ (if(["enumerate", "zip", "dict_itemiterator", "dict_reverseitemiterator", "odict_iterator", "itertools.zip_longest", "itertools.pairwise"].contains "zip" && (#[rawInt t,.bool false,.bool true,.ref ti,.ref to]:Array Value)[0]?==some (rawInt t))=true then _ else _) Q E s
 rw[if_pos (by simp)]
 refine wpAny_bind (wpAny_rule ?_)
 show wpAny _ _ (setField (.ref z) 0 .none) Q E s
 exact wpAny_setField_rec hz (by simp) fun h' q1 q2=>hQ h' q1 q2
theorem zcx{z ti to:Addr}{f:Value}{Q:Value→Shared→Prop}(hz:z2F s.heap z ti to f)(h:Q (.ref z) s):wpAny (model prog w) A (pyIter (.ref z)) Q E s:=by
 have t:s.TypeIs (.ref z) "zip" := ⟨_,hz,rfl⟩
 refine wpAny_pyIter_slot t F.slot_zip_iter (wpAny_call_entry F.slot_zip_iter t F.entry_zip_iter ?_ (F.args_zip_iter_1 _))
 show wpAny _ _ (ret (.ref z)) _ _ s
 exact wpAny_pure ⟨_,rfl, "zip",_,t,F.slot_zip_next.lookup,h⟩
def zcy(tu:Bool)(l:Addr):Obj:={ cls := .type (if tu then "tuple_iterator" else "list_iterator"),data := .fields #[.ref l,.int 0 0] }
theorem zcz{tu:Bool}{l:Addr}{xs:Array Value}{Q:Value→Shared→Prop}(h:SqAt s.heap tu l xs)(q:Q (.ref s.heap.objs.size) { s with heap:=s.heap.push (zcy tu l) }):wpAny (model prog w) A (pyIter (.ref l)) Q E s:=by
 cases tu with
 | true=>exact wpAny_pyIter_tuple h q
 | false=>exact wpAny_pyIter_list h q
theorem zcA{h:Heap}{tu:Bool}{l p:Addr}(e:h.get? p=some (zcy tu l)):ItAt h tu p l 0:=by
 unfold ItAt
 cases tu with
 | true=>exact⟨_,e,rfl,rfl⟩
 | false=>exact⟨_,e,rfl,rfl⟩
abbrev h1(h:Heap)(ta:Bool)(a:Addr):Heap:=h.push (zcy ta a)
abbrev h2(h:Heap)(ta tb:Bool)(a b:Addr):Heap:=(h1 h ta a).push (zcy tb b)
abbrev h3(h:Heap)(ta tb:Bool)(a b:Addr):Heap:=(h2 h ta tb a b).push { cls := .type "tuple",data := .seq #[.ref h.objs.size,.ref (h1 h ta a).objs.size] }
abbrev h4(h:Heap)(ta tb:Bool)(a b:Addr):Heap:=(h3 h ta tb a b).push { cls := .type "tuple",data := .seq #[.none,.none] }
abbrev h5(h:Heap)(ta tb:Bool)(a b:Addr):Heap:=(h4 h ta tb a b).push { cls := .type "zip",data := .fields #[.none,.bool false,.bool true,.ref (h2 h ta tb a b).objs.size,.ref (h3 h ta tb a b).objs.size] }
theorem zj5(a b:Addr)(ta tb:Bool)(xs ys:Array Value):Meets (Builtin.«zip.__new__» ⟨[.type "zip",.ref a,.ref b],[(Str.ofString "strict",.bool true)]⟩)
  (fun _ R s=>SqAt s.heap ta a xs∧SqAt s.heap tb b ys∧R (.ok (.ret (.ref (h4 s.heap ta tb a b).objs.size))) { s with heap:=h5 s.heap ta tb a b }) :=
 .of_wp fun prog w A R s hZ=>hZ.elim fun qa hZ=>hZ.elim fun qb q=>by
  obtain⟨hp,g,d,tk,os⟩:=s
  have f1:=sub_zip
  have e1:SqAt (Shared.heap ⟨hp,g,d,tk,os⟩) ta a xs:=qa
  have e2:SqAt (Shared.heap ⟨hp.push (zcy ta a),g,d,tk,os⟩) tb b ys:=qb.at fun o e=>Heap.get?_push_of_some _ e
  wp_walk using zcz e1,zcz e2
  exact⟨_,rfl,q⟩
end
end ZL

end
section
set_option Elab.async false
set_option linter.all false
set_option maxRecDepth 100000
set_option maxHeartbeats 4000000
namespace ZL
open PySem PyProof.Rows
theorem okT(a b v:Value):checkTypeCall "zip" ⟨[a,b],[(Str.ofString "strict",v)]⟩=pure ():=by kernel_rfl
theorem okN(a b v:Value):checkBuiltinCall "zip.__new__" ⟨[.type "zip",a,b],[(Str.ofString "strict",v)]⟩=pure ():=by kernel_rfl
theorem okI(a b c v:Value):argsOk "object.__init__" ⟨[a,b,c],[(Str.ofString "strict",v)]⟩:=by
 unfold argsOk;rw[signature?_of (id := "object.__init__") (n := "__init__".toList.reverse) (o := "object".toList.reverse) (by kernel_rfl) F.owner_object];kernel_rfl
section
variable {prog:Program}{w:World}{A:Around}{E:Value→Shared→Prop}{s:Shared}
theorem zdX(self a b v:Value):Meets (Builtin.«object.__init__» ⟨[self,a,b],[(Str.ofString "strict",v)]⟩) (fun _ R s=>s.TypeIs self "zip" ∧ R (.ok (.ret .none)) s):=by
 refine Meets.of_wp ?_
 rintro prog w A R s ⟨t,q⟩
 have hl:=F.called_zip.init.lookup
 have hm:=F.called_zip.made
 have hne:(some "zip.__new__" != some "object.__new__")=true:=by decide
 repeat (any_goals first|assumption|wp_step)
 exact⟨_,rfl,q⟩
theorem zke{a b:Addr}{ta tb:Bool}{xs ys:Array Value}{Q:Value→Shared→Prop}(qa:SqAt s.heap ta a xs)(qb:SqAt s.heap tb b ys)
   (q:Q (.ref (h4 s.heap ta tb a b).objs.size) { s with heap:=h5 s.heap ta tb a b }):wpAny (model prog w) A (call (.type "zip") [.ref a,.ref b] [(Str.ofString "strict",.bool true)]) Q E s:=by
 obtain⟨c,tl,hmro⟩:=F.called_zip.mro
 have m1:=F.called_zip.made
 have m2:=F.called_zip.sub
 have m3:=okT (.ref a) (.ref b) (.bool true)
 refine wpAny_call (codeAny_of_tree ?_)
 show wpAny _ _ (callAny (.type "zip") _) _ _ _
 refine wpAny_pure ⟨Code.quiet_builtin _ (by decide +kernel),codeAny_builtin F.entry_type_call ?_⟩
 rw[Around.under_plain (weight_type_call_type "zip" _ _) (units_type_call_type "zip" _ _)]
 have m4:=F.called_zip.notType
 have m5:=F.called_zip.canCreate
 repeat (any_goals first|assumption|wp_step)
 refine codeAny_mono (codeAny_call_builtin F.called_zip.plain F.entry_zip_new (wpAny_of_eq (okN _ _ _) (zj5 a b ta tb xs ys prog w A.in1 (wants (fun o s1=>s1.TypeIs o "zip" ∧ Q o s1) E) s ⟨qa,qb,?_⟩))) fun r s1 hr=>?_
 · exact⟨⟨_,Heap.get?_push_size _ rfl,rfl⟩,q⟩
 cases r with
 | error e=>exact hr
 | ok fl =>
   cases fl with
   | ret o =>
    obtain⟨ty,hq⟩:=hr
    have n1:=F.called_zip.init.lookup
    have n2:=F.called_zip.init.bind o
    repeat (any_goals first|assumption|wp_step)
    refine codeAny_mono (codeAny_call_builtin F.called_zip.init.plain F.entry_object_init (F.called_zip.init.check _ _ _ _ _ _ _ _ ty (okI o _ _ _) (zdX o _ _ _ prog w A.in1 (wants (fun r s2=>r = .none∧Q o s2) E) s1 ⟨ty,rfl,hq⟩))) fun r2 s2 hr2=>?_
    cases r2 with
    | error e=>exact hr2
    | ok f2 =>
     cases f2 with
     | ret r =>
      obtain⟨rfl,hq⟩:=hr2
      repeat (any_goals first|assumption|wp_step)
     | _=>exact hr2.elim
   | _=>exact hr.elim
end
end ZL

end
section
local macro_rules|`(tactic| omega)=>`(tactic| first|lia|omega +splitDisjunctions)
set_option Elab.async false
set_option linter.all false
set_option maxRecDepth 100000
set_option maxHeartbeats 1000000
namespace L2
open PySem PySem.Spec PyProof.Rows ZL
section
variable {X:Cx}{pins:List (Addr×Obj)}{σ:St}{H:Hp}{s:Shared}{h':Heap}
theorem Inv.turnedL{t':Nat}{ch:List Addr}(I:Inv X pins σ H s)(k:∀ b o,b ∉ ch→s.heap.get? b=some o→h'.get? b=some o)(hc:∀ b∈ch,FpOk X pins H b):Inv X pins σ H { s with heap:=h',toks:=t' }:=by
 have nit:∀ b u,H b=some u→b ∉ ch:=fun b u e z=>by rw[(hc b z).1]at e;cases e
 refine I.step (g':=s.gens) (d':=s.drawn) (ch:=ch) (fun b hb=>?_) (fun b o _ _ hn e _=>k b o hn e) (fun b o _ _ hn e _=>⟨o.slots,k b o hn e⟩) (fun _ _ _ _ n=>n)
   (fun b o hn e=>⟨o,k b o hn e⟩) (fun _ _ e=>e) (fun _ _ _ e=>e) (fun b ps e=>⟨#[],by rw[e];simp⟩) (fun m hm=>?_) (fun b u e=>?_) I.bare
 · obtain⟨f0,f1,f2,f3,f4,f5⟩:=hc b hb
   exact⟨f3,f1,f4,f5⟩
 · obtain⟨o,es,ep,ho,r⟩:=hm
   exact⟨o,es,ep,k _ o (fun z=>(hc _ z).2.1 rfl) ho,r⟩
 · refine(I.hok b u e).stay (fun c v hcc q=>k c v ?_ q) (fun _ q=>q) fun _ _ q=>q
   rcases hcc with z|z
   · rw[z];exact nit b u e
   · exact nit c _ z
theorem Inv.pair{t':Nat}{ch:List Addr}{x y:V}{u v:Value}(I:Inv X pins σ H s)(rx:RelV x u)(ry:RelV y v)(hp:h'.get? s.heap.objs.size=some { cls := .type "tuple",data := .seq #[u,v] })
   (k:∀ b o,b ∉ ch→s.heap.get? b=some o→h'.get? b=some o) (hc:∀ b∈ch,FpOk X pins H b) (hl:∀ b∈ch,b<s.heap.objs.size) :
   H s.heap.objs.size=none∧Inv X pins σ (upd H s.heap.objs.size (.tup [x,y])) { s with heap:=h',toks:=t' }:=by
 have hn:H s.heap.objs.size=none:=I.hok.fresh (Nat.le_refl _)
 have I1:Inv X pins σ (upd H s.heap.objs.size (.tup [x,y])) { s with heap:=s.heap.push { cls := .type "tuple",data := .seq #[u,v] },toks:=t' } :=
   I.laid (fun b o e=>Heap.get?_push_of_some _ e) (Nat.le_refl _) ⟨by show 2≤sizeLine;decide,[u,v],.cons rx (.cons ry .nil),⟨_,Heap.get?_push_size _ rfl,rfl,_,rfl⟩⟩
 refine⟨hn,Inv.turnedL (s:={ s with heap:=s.heap.push { cls := .type "tuple",data := .seq #[u,v] },toks:=t' }) (h':=h') (t':=t') (ch:=ch) I1 (fun b o hb e=>?_) fun b hb=>?_⟩
 · by_cases q:b=s.heap.objs.size
   · subst q
     have e2:(s.heap.push { cls := .type "tuple",data := .seq #[u,v] }).get? s.heap.objs.size=some _:=Heap.get?_push_size _ rfl
     have e:(s.heap.push { cls := .type "tuple",data := .seq #[u,v] }).get? s.heap.objs.size=some o:=e
     rw[e2]at e
     rw[hp];exact e
   · refine k b o hb ?_
     have e:(s.heap.push { cls := .type "tuple",data := .seq #[u,v] }).get? b=some o:=e
     rw[Heap.get?_push_ne _ _ _ q]at e
     exact e
 · obtain⟨f0,f⟩:=hc b hb
   exact⟨by rw[z0v (Nat.ne_of_lt (hl b hb))];exact f0,f⟩
end
def SqV(K:PySem.W.Frag)(tu:Bool)(H:Hp)(a:Addr)(xs:List V):Prop:=if tu then SqT K H a xs else SqL K H a xs
theorem SqV.mono{K:PySem.W.Frag}{tu:Bool}{H H':Hp}{a:Addr}{xs:List V}(e:Same H H')(h:SqV K tu H a xs):SqV K tu H' a xs:=by
 unfold SqV at h ⊢
 cases tu with
 | true=>exact e.seqT h
 | false=>exact e.seq h
theorem Inv.sq{X:Cx}{pins:List (Addr×Obj)}{σ:St}{H:Hp}{s:Shared}{tu:Bool}{a:Addr}{xs:List V}(I:Inv X pins σ H s)(h:SqV X.K tu H a xs):∃ its:List Value,Vals xs its∧SqAt s.heap tu a its.toArray∧xs.length≤sizeLine:=by
 unfold SqV at h
 unfold SqAt
 cases tu with
 | true=>obtain⟨its,r,p,z⟩:=I.tuple h;exact⟨its,r,p,z⟩
 | false=>obtain⟨its,r,p,z⟩:=I.list h;exact⟨its,r,p.isList,z⟩
theorem Inv.sq_inj{X:Cx}{pins:List (Addr×Obj)}{σ:St}{H:Hp}{s:Shared}{tu:Bool}{a:Addr}{xs ys:List V}(I:Inv X pins σ H s)(h:SqV X.K tu H a xs)(h':SqV X.K tu H a ys):xs=ys:=by
 unfold SqV at h h'
 cases tu with
 | true=>exact I.tuple_inj h h'
 | false=>exact I.list_inj h h'
def Itz(K:PySem.W.Frag)(ta tb:Bool)(a b:Addr):It where
 go:=fun i H=>∃ xs ys x y,SqV K ta H a xs∧SqV K tb H b ys∧xs[i]?=some x∧ys[i]?=some y
 yld:=fun i H v H'=>∃ p x y,(∀ xs,SqV K ta H a xs→xs[i]?=some x)∧(∀ ys,SqV K tb H b ys→ys[i]?=some y)∧H p=none∧v = .ref p∧H'=upd H p (.tup [x,y])
 stop:=fun i H=>∃ xs ys,SqV K ta H a xs∧SqV K tb H b ys∧xs.length≤i∧ys.length≤i
theorem mem5{z ti to i j c:Addr}(h:c ∉ [z,ti,to,i,j]):c≠z∧c≠ti∧c≠to∧c≠i∧c≠j:=by simpa using h
theorem zkf{P:Program}{w:World}{K:PySem.W.Frag}{elts:List Expr}{n:Nat}{pos:Pos}{ta tb:Bool}{z ti to i j a b:Addr}(D:Apart z ti to i j a b):
  Turn P w K (.Tuple elts n pos) (Itz K ta tb a b) [z,ti,to,i,j] z (fun k h=>z2F h z ti to .none∧IsPair h ti (.ref i) (.ref j)∧(∃ u v,IsPair h to u v)∧ItAt h ta i a k∧ItAt h tb j b k) where
 mem:=by simp
 obj:=fun k h ⟨q1,q2,⟨u,v,q3⟩,q4,q5⟩ c hc=>by
  have it:∀{tu:Bool} {it l:Addr} {k:Nat},ItAt h tu it l k→∃ o,h.get? it=some o∧∀ v,o.data ≠ .cell v:=fun{tu it l k} q=>by
    unfold ItAt at q
    cases tu with
    | true=>obtain⟨o,e,_,d⟩:=q;exact⟨o,e,fun v z=>by rw[d]at z;cases z⟩
    | false=>obtain⟨o,e,_,d⟩:=q;exact⟨o,e,fun v z=>by rw[d]at z;cases z⟩
  simp only[List.mem_cons,List.not_mem_nil,or_false]at hc
  rcases hc with rfl|rfl|rfl|rfl|rfl
  · exact⟨_,q1,fun v z=>by have z':Data.fields _=Data.cell v:=z;cases z'⟩
  · exact⟨_,q2,fun v z=>by have z':Data.seq _ _=Data.cell v:=z;cases z'⟩
  · exact⟨_,q3,fun v z=>by have z':Data.seq _ _=Data.cell v:=z;cases z'⟩
  · exact it q4
  · exact it q5
 keep:=fun k h h' ⟨q1,q2,⟨u,v,q3⟩,q4,q5⟩ kk=>⟨kk z (by simp) _ q1,kk ti (by simp) _ q2,⟨u,v,kk to (by simp) _ q3⟩,q4.at fun o e=>kk i (by simp) o e,q5.at fun o e=>kk j (by simp) o e⟩
 item:=by
  intro X hP hw hK hc k pins s σ H E I hf ⟨q1,q2,⟨u,v,q3⟩,q4,q5⟩ hg
  subst hP hw hK
  obtain⟨xs,ys,x,y,hx,hy,ex,ey⟩:=hg
  obtain⟨its,rx,px,_⟩:=I.sq hx
  obtain⟨jts,ry,py,_⟩:=I.sq hy
  obtain⟨ux,hux,rux⟩:=rx.get ex
  obtain⟨uy,huy,ruy⟩:=ry.get ey
  have lt:∀ b∈[z,ti,to,i,j],b<s.heap.objs.size:=fun b hb=>by
    simp only[List.mem_cons,List.not_mem_nil,or_false]at hb
    rcases hb with rfl|rfl|rfl|rfl|rfl
    · exact Heap.lt_size q1
    · exact Heap.lt_size q2
    · exact Heap.lt_size q3
    · exact q4.lt
    · exact q5.lt
  refine zj4 D q1 q2 q3 q4 q5 px py (x:=ux) (y:=uy) (by simpa using hux) (by simpa using huy) fun h' a1 a2 a3 a4 a5 a6 a7=>⟨_,rfl,let_go a1 fun h'' b1 b2=>?_⟩
  have hzp:s.heap.objs.size≠z:=Nat.ne_of_gt (lt z (by simp))
  have kk:∀ b o,b ∉ [z,ti,to,i,j]→s.heap.get? b=some o→h''.get? b=some o:=fun b o hb e=>by
    obtain⟨c1,c2,c3,c4,c5⟩:=mem5 hb
    exact b2.extBut _ _ c1 (a7 b o c1 c3 c4 c5 e)
  obtain⟨hn,I1⟩:=I.pair (t':=s.toks) (h':=h'') rux ruy (b2.extBut _ _ hzp a5) kk hf lt
  refine⟨.ref s.heap.objs.size,_,I1,rfl,⟨_,x,y,fun zs hz=>by rw[I.sq_inj hz hx];exact ex,fun zs hz=>by rw[I.sq_inj hz hy];exact ey,hn,rfl,rfl⟩,?_,fun b hb=>by rw[z0v (Nat.ne_of_lt (lt b hb))];exact(hf b hb).1⟩
  exact⟨b1,b2.extBut _ _ D.p1 (a7 _ _ D.p1 D.p5 D.p6 D.p7 q2),⟨_,_,b2.extBut _ _ D.p2 a2⟩,a3.at fun o e=>b2.extBut _ _ D.p3 e,a4.at fun o e=>b2.extBut _ _ D.p4 e⟩
 done:=by
  intro X hP hw hK hc k pins s σ H E I hf ⟨q1,q2,⟨u,v,q3⟩,q4,q5⟩ hg
  subst hP hw hK
  obtain⟨xs,ys,hx,hy,ex,ey⟩:=hg
  obtain⟨its,rx,px,_⟩:=I.sq hx
  obtain⟨jts,ry,py,_⟩:=I.sq hy
  have l1:=rx.length
  have l2:=ry.length
  refine zkd (I.ok.hd hc) D q1 q2 q3 q4 q5 px py (by simp;omega) (by simp;omega) fun h' a7=>⟨rfl,I.turnedL (t':=s.toks) (ch:=[z,ti,to,i,j]) (fun b o hb e=>?_) hf⟩
  obtain⟨c1,c2,c3,c4,c5⟩:=mem5 hb
  exact a7 b o c1 c3 c4 c5 e
 self:=fun _ _ _ _ _ q h=>zcx q.1 h
def Ite(K:PySem.W.Frag)(a:Addr):It where
 go:=fun i H=>∃ xs x,SqL K H a xs∧xs[i]?=some x
 yld:=fun i H v H'=>∃ p x,(∀ xs,SqL K H a xs→xs[i]?=some x)∧H p=none∧v = .ref p∧H'=upd H p (.tup [.int i,x])
 stop:=fun i H=>∃ xs,SqL K H a xs∧xs.length≤i
theorem zj6{P:Program}{w:World}{K:PySem.W.Frag}{elts:List Expr}{n:Nat}{pos:Pos}{e it a:Addr}(hne:e≠it):
  Turn P w K (.Tuple elts n pos) (Ite K a) [e,it] e (fun k h=>(∃ old,IsEnum h e it k old)∧h.IsListIter it a k) where
 mem:=by simp
 obj:=fun k h ⟨⟨old,q1⟩,q2⟩ c hc=>by
  simp only[List.mem_cons,List.not_mem_nil,or_false]at hc
  rcases hc with rfl|rfl
  · exact⟨_,q1,fun v z=>by have z':Data.fields _=Data.cell v:=z;cases z'⟩
  · obtain⟨o,e,_,d⟩:=q2;exact⟨o,e,fun v z=>by rw[d]at z;cases z⟩
 keep:=fun k h h' ⟨⟨old,q1⟩,q2⟩ kk=>⟨⟨old,kk e (by simp) _ q1⟩,q2.at fun o q=>kk it (by simp) o q⟩
 item:=by
  intro X hP hw hK hc k pins s σ H E I hf ⟨⟨old,q1⟩,q2⟩ hg
  subst hP hw hK
  obtain⟨xs,x,hx,ex⟩:=hg
  obtain⟨its,rx,px,_⟩:=I.list hx
  obtain⟨ux,hux,rux⟩:=rx.get ex
  have lt:∀ b∈[e,it],b<s.heap.objs.size:=fun b hb=>by
    simp only[List.mem_cons,List.not_mem_nil,or_false]at hb
    rcases hb with rfl|rfl
    · exact Heap.lt_size q1
    · obtain⟨o,z,_⟩:=q2;exact Heap.lt_size z
  refine wpAny_pyNext_enum_item q1 q2 px.isList (x:=ux) (by simpa using hux) hne fun h' a1 a2 a3 a4 a5=>⟨_,rfl,wpAny_letOwnedTupleGo_enum a1 fun h'' b1 b2=>?_⟩
  have hzp:s.heap.objs.size≠e:=Nat.ne_of_gt (lt e (by simp))
  have kk:∀ b o,b ∉ [e,it]→s.heap.get? b=some o→h''.get? b=some o:=fun b o hb q=>by
    have c:b≠e∧b≠it:=by simpa using hb
    exact b2.extBut _ _ c.1 (a5 b o c.1 c.2 q)
  obtain⟨hn,I1⟩:=I.pair (x := .int k) (t':=s.toks+1) (h':=h'') ⟨s.toks,rfl⟩ rux (b2.extBut _ _ hzp a3) kk hf lt
  refine⟨.ref s.heap.objs.size,_,I1,rfl,⟨_,x,fun zs hz=>by rw[I.list_inj hz hx];exact ex,hn,rfl,rfl⟩,⟨⟨_,b1⟩,a2.at fun o q=>b2.extBut _ _ (Ne.symm hne) q⟩,fun b hb=>by rw[z0v (Nat.ne_of_lt (lt b hb))];exact(hf b hb).1⟩
 done:=by
  intro X hP hw hK hc k pins s σ H E I hf ⟨⟨old,q1⟩,q2⟩ hg
  subst hP hw hK
  obtain⟨xs,hx,ex⟩:=hg
  obtain⟨its,rx,px,_⟩:=I.list hx
  have l1:=rx.length
  refine wpAny_pyNext_enum_end (I.ok.hd hc) q1 q2 px.isList (by simp;omega) fun h' a5=>⟨rfl,I.turnedL (t':=s.toks) (ch:=[e,it]) (fun b o hb q=>?_) hf⟩
  have c:b≠e∧b≠it:=by simpa using hb
  exact a5 b o c.2 q
 self:=fun _ _ _ _ _ q h=>by obtain⟨⟨old,q1⟩,_⟩:=q;exact wpAny_pyIter_enum q1 h
def Itv(K:PySem.W.Frag)(a:Addr)(n:Nat):It where
 go:=fun i H=>i<n∧∃ xs,SqL K H a xs∧xs.length=n
 yld:=fun i H v H'=>H'=H∧∀ xs,SqL K H a xs→xs[n-1-i]?=some v
 stop:=fun i H=>n≤i
theorem zkg{P:Program}{w:World}{K:PySem.W.Frag}{tg:Expr}{it a:Addr}{n:Nat}:Turn P w K tg (Itv K a n) [it] it (fun k h=>k≤n∧h.IsRevIter it a ((n:Int)-1-(k:Int))) where
 mem:=by simp
 obj:=fun k h ⟨_,q⟩ c hc=>by
  have e:c=it:=by simpa using hc
  subst e
  obtain⟨o,e,_,d⟩:=q;exact⟨o,e,fun v z=>by rw[d]at z;cases z⟩
 keep:=fun k h h' ⟨q0,q⟩ kk=>⟨q0,q.at fun o z=>kk it (by simp) o z⟩
 item:=by
  intro X hP hw hK hc k pins s σ H E I hf ⟨q0,q⟩ hg
  subst hP hw hK
  obtain⟨hk,xs,hx,hn⟩:=hg
  obtain⟨its,rx,px,_⟩:=I.list hx
  have hlt:n-1-k<xs.length:=by omega
  obtain⟨ux,hux,rux⟩:=rx.get (List.getElem?_eq_getElem hlt)
  obtain⟨f0,f1,f2,f3,f4,f5⟩:=hf it (by simp)
  have e1:(n:Int)-1-(k:Int)=((n-1-k:Nat):Int):=by omega
  rw[e1]at q
  refine wpAny_pyNext_rev_item q px.isList (x:=ux) (by simpa using hux) fun h' b1 b2=>?_
  have I1:Inv X pins σ H { s with heap:=h' }:=I.turned (t':=s.toks) (fun b o hb e=>(b2.2 b hb).trans e) f0 f1 f3 f4 f5
  have e2:((n-1-k:Nat):Int)-1=(n:Int)-1-((k+1:Nat):Int):=by omega
  rw[e2]at b1
  obtain⟨o,e,c,d⟩:=id b1
  exact⟨ux,rfl,zhQ (s:={ s with heap:=h' }) e c d (by decide) ⟨_,H,I1,rux,⟨rfl,fun ys hy=>by rw[I.list_inj hy hx];exact List.getElem?_eq_getElem hlt⟩,⟨by omega,b1⟩,fun b hb=>(hf b hb).1⟩⟩
 done:=by
  intro X hP hw hK hc k pins s σ H E I hf ⟨q0,q⟩ hg
  subst hP hw hK
  have hg:n≤k:=hg
  obtain rfl:k=n:=by omega
  obtain⟨f0,f1,f2,f3,f4,f5⟩:=hf it (by simp)
  have e1:(k:Int)-1-(k:Int) = -1:=by omega
  rw[e1]at q
  exact wpAny_pyNext_rev_end (I.ok.hd hc) q fun h' eb=>⟨rfl,I.turned (t':=s.toks) (fun b o hb e=>eb b o hb e) f0 f1 f3 f4 f5⟩
 self:=fun _ _ _ _ _ st h=>wpAny_pyIter_revIter st.2 h
section
variable {K:PySem.W.Frag}{H1:Hp}
theorem znV{A:List Addr}{H:Hp}{p:Addr}{o:HO}(hp:H p=none)(hA:∀ a∈A,∃ o,H a=some o):hidL A (upd H p o)=upd (hidL A H) p o:=funext fun b=>by
 have np:p ∉ A:=fun z=>by obtain⟨u,e⟩:=hA p z;rw[hp]at e;cases e
 by_cases q:b=p
 · subst q;rw[z0q np,z10,z10]
 · rw[z0v q]
   by_cases z:b∈A
   · rw[z2B z,z2B z]
   · rw[z0q z,z0q z,z0v q]
theorem zcB{A:List Addr}{H:Hp}{p:Addr}{d d':Dt}{x y:V}(hp:H p=none)(hA:∀ a∈A,∃ o,H a=some o)(rx:Rp K emp d (hidL A H) x)(ry:Rp K emp d' (hidL A H) y):
  Same (hidL A H) (hidL A (upd H p (.tup [x,y])))∧(∀ a∈A,upd H p (.tup [x,y]) a=H a)∧Rp K emp (.tup [d,d']) (hidL A (upd H p (.tup [x,y]))) (.ref p):=by
 have np:p ∉ A:=fun z=>by obtain⟨u,e⟩:=hA p z;rw[hp]at e;cases e
 have hq:hidL A H p=none:=by rw[z0q np];exact hp
 rw[znV hp hA]
 refine⟨z1m hq,fun a ha=>z0v fun z=>np (z ▸ ha),Rp.tup_.mpr ⟨p,_,rfl,SqT.of z10,?_⟩⟩
 exact Rps.cons_.mpr ⟨x,[y],rfl,Rp.mono _ (z1m hq) rx,Rps.one (Rp.mono _ (z1m hq) ry)⟩
def zipD:List Dt→List Dt→List Dt
 | x::xs,y::ys => .tup [x,y]::zipD xs ys
 | _,_=>[]
theorem zcC:∀{xs ys:List Dt} {i:Nat} {d:Dt},(zipD xs ys)[i]?=some d→∃ x y,xs[i]?=some x∧ys[i]?=some y∧d = .tup [x,y]
 | [],ys,i,d,h=>by simp[zipD]at h
 | x::xs,[],i,d,h=>by simp[zipD]at h
 | x::xs,y::ys,0,d,h=>by simp[zipD]at h;exact⟨x,y,rfl,rfl,h.symm⟩
 | x::xs,y::ys,i+1,d,h=>by
  have h:(zipD xs ys)[i]?=some d:=by simpa[zipD]using h
  obtain⟨a,b,q1,q2,q3⟩:=zcC h
  exact⟨a,b,by simpa using q1,by simpa using q2,q3⟩
theorem z6r:∀{xs ys:List Dt},(zipD xs ys).length=min xs.length ys.length
 | [],ys=>by simp[zipD]
 | x::xs,[]=>by simp[zipD]
 | x::xs,y::ys=>by rw[zipD,List.length_cons,z6r,List.length_cons,List.length_cons];omega
theorem zkh{ta tb:Bool}{a b:Addr}{ds es:List Dt}{vs ws:List V}(h1:SqV K ta H1 a vs)(h2:SqV K tb H1 b ws)(r1:Rps K emp ds H1 vs)(r2:Rps K emp es H1 ws)(hl:ds.length=es.length):Walk K (Itz K ta tb a b) (zipD ds es) H1:=by
 intro A H sm hA
 have s2:Same H1 H:=sm.trans z0P
 refine⟨fun i d e=>?_,fun i hi=>⟨vs,ws,h1.mono s2,h2.mono s2,?_,?_⟩⟩
 · obtain⟨x,y,ex,ey,rfl⟩:=zcC e
   obtain⟨v,e1,p1⟩:=r1.get ex
   obtain⟨u,e2,p2⟩:=r2.get ey
   refine⟨⟨vs,ws,v,u,h1.mono s2,h2.mono s2,e1,e2⟩,?_⟩
   rintro z H' ⟨p,v',u',f1,f2,hp,ez,eH⟩
   have g1:=f1 vs (h1.mono s2)
   have g2:=f2 ws (h2.mono s2)
   rw[e1]at g1
   rw[e2]at g2
   cases g1;cases g2
   subst ez;subst eH
   exact zcB hp hA (Rp.mono _ sm p1) (Rp.mono _ sm p2)
 · rw[z6r]at hi;rw[r1.length];omega
 · rw[z6r]at hi;rw[r2.length];omega
def z2V:Nat→List Dt→List Dt
 | _,[]=>[]
 | n,x::xs => .tup [.int n,x]::z2V (n+1) xs
theorem zav:∀{xs:List Dt} {n i:Nat} {d:Dt},(z2V n xs)[i]?=some d→∃ x,xs[i]?=some x∧d = .tup [.int ((n+i:Nat):Int),x]
 | [],n,i,d,h=>by simp[z2V]at h
 | x::xs,n,0,d,h=>by simp[z2V]at h;exact⟨x,rfl,h.symm⟩
 | x::xs,n,i+1,d,h=>by
  have h:(z2V (n+1) xs)[i]?=some d:=by simpa[z2V]using h
  obtain⟨a,q1,q3⟩:=zav h
  exact⟨a,by simpa using q1,by rw[q3,show n+1+i=n+(i+1) by omega]⟩
theorem z78:∀{xs:List Dt} {n:Nat},(z2V n xs).length=xs.length
 | [],n=>rfl
 | x::xs,n=>by rw[z2V,List.length_cons,List.length_cons,z78]
theorem zj7{a:Addr}{ds:List Dt}{vs:List V}(h1:SqL K H1 a vs)(r1:Rps K emp ds H1 vs):Walk K (Ite K a) (z2V 0 ds) H1:=by
 intro A H sm hA
 have s2:Same H1 H:=sm.trans z0P
 refine⟨fun i d e=>?_,fun i hi=>⟨vs,s2.seq h1,?_⟩⟩
 · obtain⟨x,ex,rfl⟩:=zav e
   rw[Nat.zero_add]
   obtain⟨v,e1,p1⟩:=r1.get ex
   refine⟨⟨vs,v,s2.seq h1,e1⟩,?_⟩
   rintro z H' ⟨p,v',f1,hp,ez,eH⟩
   have g1:=f1 vs (s2.seq h1)
   rw[e1]at g1
   cases g1
   subst ez;subst eH
   exact zcB hp hA (Rp.int_.mpr rfl) (Rp.mono _ sm p1)
 · rw[z78]at hi;rw[r1.length];omega
theorem zki{a:Addr}{ds:List Dt}{vs:List V}(h1:SqL K H1 a vs)(r1:Rps K emp ds H1 vs):Walk K (Itv K a vs.length) ds.reverse H1:=by
 intro A H sm hA
 have s2:Same H1 H:=sm.trans z0P
 have hl:=r1.length
 refine⟨fun i d e=>?_,fun i hi=>?_⟩
 · have hi:i<ds.length:=by
    by_cases hi:i<ds.length
    · exact hi
    · rw[List.getElem?_eq_none (by simp;omega)]at e;cases e
   rw[List.getElem?_reverse hi]at e
   obtain⟨v,e1,p1⟩:=r1.get e
   refine⟨⟨by omega,vs,s2.seq h1,rfl⟩,?_⟩
   rintro z H' ⟨eH,f1⟩
   subst eH
   have g1:=f1 vs (s2.seq h1)
   rw[hl,e1]at g1
   cases g1
   exact⟨Same.refl _,fun _ _=>rfl,Rp.mono _ sm p1⟩
 · show vs.length≤i
   rw[List.length_reverse]at hi;omega
end
section
variable {X:Cx}{a b e:Expr}{Fa Fb:FE}{elts:List Expr}{n:Nat}{tpos pos:Pos}
theorem zj8{M:Model}{A:Around}{E:Value→Shared→Prop}{s:Shared}{env:Env}{T:String}{es:List Expr}{kws:List Keyword}{Q:Value→Shared→Prop}
  (h:wpAny M A (spliced (backTo pos (starEach (e::es) env))) (fun vs s1=>wpAny M A (evalAll ((backToKw pos (keywordEach kws env)).map (·.2))) (fun ks s2=>wpAny M A (call (.type T) vs (((backToKw pos (keywordEach kws env)).filterMap (·.1)).zip ks)) Q E s2) E s1) E s)
  (h1:backTo pos (starEach (e::es) env)=(false,eval e env)::backTo pos (starEach es env)) (h2:(backTo pos (starEach (e::es) env)).any (·.1)=false) (h3:(backToKw pos (keywordEach kws env)).all (·.1.isSome)=true) (h4:(backToKw pos (keywordEach kws env)).any (·.1.isNone)=false) :
  wpAny M A (callWith pos (.type T) [] (backTo pos (starEach (e::es) env)) (backToKw pos (keywordEach kws env))) Q E s:=by
 unfold callWith
 have g:wpAny M A (evalArgs (.type T) true (backTo pos (starEach (e::es) env)) (backToKw pos (keywordEach kws env))) (fun z s1=>wpAny M A (call (.type T) ([]++z.pos) z.kw) Q E s1) E s:=by
  rw[h1]at h ⊢
  exact evalArgs_kwB h3 h
 refine wpAny_bind (wpAny_holding (wpAny_mono g (fun z s1 g1=>wpAny_bind (wpAny_standAt ?_)) fun _ _ x=>x))
 simp only[h2,h4,Bool.or_false]
 refine wpAny_bind (wpAny_pure ?_)
 exact wpAny_bind (wpAny_mono g1 (fun r s2 hr=>wpAny_bind (wpAny_holding (wpAny_point (wpAny_pure hr)))) fun _ _ x=>x)
theorem zkj{H:Hp}{d:Dt}{ds:List Dt}{v:V}(e:seqD d=some ds)(r:Rp X.K emp d H v):∃ tu p vs,v = .ref p∧SqV X.K tu H p vs∧Rps X.K emp ds H vs:=by
 cases d<;>first|cases e|skip
 · obtain⟨p,vs,rfl,_,h1,h2⟩:=r.items
   exact⟨false,p,vs,rfl,SqL.of h1,h2⟩
 · obtain⟨p,vs,rfl,h1,h2⟩:=Rp.tup_.mp r
   exact⟨true,p,vs,rfl,h1,h2⟩
def iZip(F G:FE):FI:=fun ρ=>(F ρ).bind fun x=>(G ρ).bind fun y=>(seqD x.2).bind fun xs=>(seqD y.2).bind fun ys=>if xs.length=ys.length then some (zipD xs ys) else none
theorem zi1{p kp kpos:Pos}{jc:Nat}(hg:Gl X "zip")(hm:X.mg "zip" = none)(ha:PF X a Fa)(hb:PF X b Fb)(hs:starEach [a,b] X.env=[(false,eval a X.env),(false,eval b X.env)]:=by rfl)(hs1:starEach [b] X.env=[(false,eval b X.env)]:=by rfl):
   PFI X (.Tuple elts n tpos) (.Call (.Name "zip" p) [a,b] [⟨some "strict",.Constant (.bool true) jc kp,kpos⟩] pos) (iZip Fa Fb):=by
 intro pins s σ H R I ⟨ρ,items,rs,e0,k⟩
 obtain⟨⟨fa,da⟩,ea,e1⟩:=z05 e0
 obtain⟨⟨fb,db⟩,eb,e2⟩:=z05 e1
 obtain⟨xs,ex,e3⟩:=z05 e2
 obtain⟨ys,ey,e4⟩:=z05 e3
 clear e0 e1 e2 e3
 split at e4
 · rename_i hl
   cases e4
   have hA:PA X [a,b] (upAs X (z01 Fa (z01 Fb fNil))):=z03 ha (z03 hb z07 hs1) (by rw[hs,hs1])
   refine wpAny_Call_Name_kw (z4b I hg hm (by decide +kernel:bootBuiltins "zip" = some (.type "zip")) ?_)
   refine zj8 (T := "zip") (thn (hA pos pins s σ H (fun vs H1=>Same H H1∧∃ va vb,vs=[va,vb]∧Rp X.K emp da H1 va∧Rp X.K emp db H1 vb) I ⟨ρ,[(fa,da),(fb,db)],rs,by simp[z01,fNil,ea,eb],fun vs H1 s1 ⟨va,r1,ee1,q1,vb,r2,ee2,q2,q3⟩=>⟨s1,va,vb,by rw[ee1,ee2,show r2=[]from q3],q1.sh,q2.sh⟩⟩) fun us s1 ⟨vs,H1,I1,rv,s1H,va,vb,ev,ra,rb⟩=>?_) (by rw[hs,hs1];rfl) (by rw[hs];rfl) rfl rfl
   subst ev
   obtain⟨ua,ub,rfl,rua,rub⟩:=rv.two
   obtain⟨ta,pa,vsa,rfl,qa1,qa2⟩:=zkj ex ra
   obtain⟨tb,pb,vsb,rfl,qb1,qb2⟩:=zkj ey rb
   cases rua;cases rub
   have hk:=zhS (X:=X) (nm:=some "strict") (kpos:=kpos) (pe_bl (X:=X) (b:=true) (j:=jc) (pos:=kp)) zjO
   refine thn (hk pos pins s1 σ H1 (fun zs H2=>zs=[.bl true]∧H2=H1) I1 ⟨rfl,rfl⟩) ?_
   rintro ks s2 ⟨zs,H2,I2,rz,ez,eH⟩
   subst ez;subst eH
   obtain⟨uk,rfl,ruk⟩:=rz.one
   cases ruk
   obtain⟨ita,rva,sa,hza⟩:=I2.sq qa1
   obtain⟨itb,rvb,sb,hzb⟩:=I2.sq qb1
   refine zke sa sb ?_
   have z1:(h1 s2.heap ta pa).objs.size=s2.heap.objs.size+1:=Heap.size_push ..
   have z2:(h2 s2.heap ta tb pa pb).objs.size=s2.heap.objs.size+2:=by rw[Heap.size_push,z1]
   have z3:(h3 s2.heap ta tb pa pb).objs.size=s2.heap.objs.size+3:=by rw[Heap.size_push,z2]
   have z4:(h4 s2.heap ta tb pa pb).objs.size=s2.heap.objs.size+4:=by rw[Heap.size_push,z3]
   have g5:(h5 s2.heap ta tb pa pb).get? (h4 s2.heap ta tb pa pb).objs.size=some _:=Heap.get?_push_size _ rfl
   have g4:(h5 s2.heap ta tb pa pb).get? (h3 s2.heap ta tb pa pb).objs.size=some _:=Heap.get?_push_of_some _ (Heap.get?_push_size _ rfl)
   have g3:(h5 s2.heap ta tb pa pb).get? (h2 s2.heap ta tb pa pb).objs.size=some _:=Heap.get?_push_of_some _ (Heap.get?_push_of_some _ (Heap.get?_push_size _ rfl))
   have g2:(h5 s2.heap ta tb pa pb).get? (h1 s2.heap ta pa).objs.size=some _:=Heap.get?_push_of_some _ (Heap.get?_push_of_some _ (Heap.get?_push_of_some _ (Heap.get?_push_size _ rfl)))
   have g1:(h5 s2.heap ta tb pa pb).get? s2.heap.objs.size=some _:=Heap.get?_push_of_some _ (Heap.get?_push_of_some _ (Heap.get?_push_of_some _ (Heap.get?_push_of_some _ (Heap.get?_push_size _ rfl))))
   have up:∀ c o,s2.heap.get? c=some o→(h5 s2.heap ta tb pa pb).get? c=some o:=fun c o x=>Heap.get?_push_of_some _ (Heap.get?_push_of_some _ (Heap.get?_push_of_some _ (Heap.get?_push_of_some _ (Heap.get?_push_of_some _ x))))
   refine zcx (z:=(h4 s2.heap ta tb pa pb).objs.size) (ti:=(h2 s2.heap ta tb pa pb).objs.size) (to:=(h3 s2.heap ta tb pa pb).objs.size) (f := .none) g5 ?_
   have la:=sa.lt
   have lb:=sb.lt
   have D:Apart (h4 s2.heap ta tb pa pb).objs.size (h2 s2.heap ta tb pa pb).objs.size (h3 s2.heap ta tb pa pb).objs.size s2.heap.objs.size (h1 s2.heap ta pa).objs.size pa pb:=by
     rw[z1,z2,z3,z4]
     constructor<;>exact fun z=>by simp only[Addr]at *;omega
   refine⟨_,[(h4 s2.heap ta tb pa pb).objs.size,(h2 s2.heap ta tb pa pb).objs.size,(h3 s2.heap ta tb pa pb).objs.size,s2.heap.objs.size,(h1 s2.heap ta pa).objs.size],_,_,H2,rfl,I2.kept (t':=s2.toks) up,zkf (ta:=ta) (tb:=tb) D,⟨g5,g3,⟨_,_,g4⟩,zcA g1,zcA g2⟩,fun c hc=>?_,k _ H2 s1H ?_ (zkh qa1 qb1 qa2 qb2 hl)⟩
   · have hge:s2.heap.objs.size≤c:=by
      rw[z1,z2,z3,z4]at hc
      simp only[List.mem_cons,List.not_mem_nil,or_false]at hc
      rcases hc with rfl|rfl|rfl|rfl|rfl<;>omega
     exact I2.fpOk hge (I2.hok.fresh hge)
   · rw[z6r,←qa2.length];omega
 · cases e4
def lstD:Dt→Option (List Dt)
 | .lst ds=>some ds
 | _=>none
def z3f(F:FE):FI:=fun ρ=>(F ρ).bind fun x=>(lstD x.2).map (z2V 0)
theorem zkk{H:Hp}{d:Dt}{ds:List Dt}{v:V}(e:lstD d=some ds)(r:Rp X.K emp d H v):∃ p vs,v = .ref p∧SqL X.K H p vs∧Rps X.K emp ds H vs:=by
 cases d<;>first|cases e|skip
 obtain⟨p,vs,rfl,_,h1,h2⟩:=r.items
 exact⟨p,vs,rfl,SqL.of h1,h2⟩
theorem z8U{p:Pos}(hg:Gl X "enumerate")(hm:X.mg "enumerate" = none)(ha:PF X a Fa)(hs:starEach [a] X.env=[(false,eval a X.env)]:=by rfl):PFI X (.Tuple elts n tpos) (.Call (.Name "enumerate" p) [a] [] pos) (z3f Fa):=by
 intro pins s σ H R I ⟨ρ,items,rs,e0,k⟩
 obtain⟨⟨fa,da⟩,ea,e1⟩:=z05 e0
 cases ex:lstD da with
 | none=>rw[ex]at e1;cases e1
 | some xs =>
  rw[ex]at e1
  cases e1
  have hA:PA X [a] (upAs X (z01 Fa fNil)):=z03 ha z07 hs
  refine wpAny_Call_Name_kw (z4b I hg hm (by decide +kernel:bootBuiltins "enumerate" = some (.type "enumerate")) ?_)
  refine PyProof.Rows.callWith_type1 (thn (hA pos pins s σ H (fun vs H1=>Same H H1∧∃ va,vs=[va]∧Rp X.K emp da H1 va) I ⟨ρ,[(fa,da)],rs,by simp[z01,fNil,ea],fun vs H1 s1 ⟨va,r1,ee1,q1,q3⟩=>⟨s1,va,by rw[ee1,show r1=[]from q3],q1.sh⟩⟩) fun us s1 ⟨vs,H1,I1,rv,s1H,va,ev,ra⟩=>?_) hs rfl
  subst ev
  obtain⟨ua,rfl,rua⟩:=rv.one
  obtain⟨pa,vsa,rfl,qa1,qa2⟩:=zkk ex ra
  cases rua
  obtain⟨ita,rva,pl,hza⟩:=I1.list qa1
  refine call_enumerate_list pl.isList fun h' b1 b2 b3 b4=>wpAny_pyIter_enum b1 ?_
  refine⟨_,[s1.heap.objs.size+1,s1.heap.objs.size],_,_,H1,rfl,I1.kept (t':=s1.toks) b4,zj6 (Nat.succ_ne_self _),⟨⟨_,b1⟩,b2⟩,fun c hc=>?_,k _ H1 s1H ?_ (zj7 qa1 qa2)⟩
  · have hge:s1.heap.objs.size≤c:=by
     simp only[List.mem_cons,List.not_mem_nil,or_false]at hc
     rcases hc with rfl|rfl
     · exact Nat.le_succ _
     · exact Nat.le_refl _
    exact I1.fpOk hge (I1.hok.fresh hge)
  · rw[z78,←qa2.length];exact hza
def iRev(F:FE):FI:=fun ρ=>(F ρ).bind fun x=>(lstD x.2).map List.reverse
theorem i_rev{tg:Expr}{p:Pos}(hg:Gl X "reversed")(hm:X.mg "reversed" = none)(ha:PF X a Fa)(hs:starEach [a] X.env=[(false,eval a X.env)]:=by rfl):PFI X tg (.Call (.Name "reversed" p) [a] [] pos) (iRev Fa):=by
 intro pins s σ H R I ⟨ρ,items,rs,e0,k⟩
 obtain⟨⟨fa,da⟩,ea,e1⟩:=z05 e0
 cases ex:lstD da with
 | none=>rw[ex]at e1;cases e1
 | some xs =>
  rw[ex]at e1
  cases e1
  have hA:PA X [a] (upAs X (z01 Fa fNil)):=z03 ha z07 hs
  refine wpAny_Call_Name_kw (z4b I hg hm (by decide +kernel:bootBuiltins "reversed" = some (.type "reversed")) ?_)
  refine PyProof.Rows.callWith_type1 (thn (hA pos pins s σ H (fun vs H1=>Same H H1∧∃ va,vs=[va]∧Rp X.K emp da H1 va) I ⟨ρ,[(fa,da)],rs,by simp[z01,fNil,ea],fun vs H1 s1 ⟨va,r1,ee1,q1,q3⟩=>⟨s1,va,by rw[ee1,show r1=[]from q3],q1.sh⟩⟩) fun us s1 ⟨vs,H1,I1,rv,s1H,va,ev,ra⟩=>?_) hs rfl
  subst ev
  obtain⟨ua,rfl,rua⟩:=rv.one
  obtain⟨pa,vsa,rfl,qa1,qa2⟩:=zkk ex ra
  cases rua
  obtain⟨ita,rva,pl,hza⟩:=I1.list qa1
  have hn:ita.toArray.size=vsa.length:=by rw[List.size_toArray,←rva.length]
  refine call_reversed_list pl.isList ?_
  rw[hn]
  have g1:(s1.heap.push (revObj pa ((vsa.length:Int)-1))).get? s1.heap.objs.size=some _:=Heap.get?_push_size _ rfl
  have it1:(s1.heap.push (revObj pa ((vsa.length:Int)-1))).IsRevIter s1.heap.objs.size pa ((vsa.length:Int)-1-((0:Nat):Int)):=⟨_,g1,rfl,by show Data.fields _=_;simp⟩
  refine wpAny_pyIter_revIter it1 ?_
  refine⟨_,[s1.heap.objs.size],_,_,H1,rfl,I1.kept (t':=s1.toks) (fun c o x=>Heap.get?_push_of_some _ x),zkg (n:=vsa.length),⟨Nat.zero_le _,it1⟩,fun c hc=>?_,k _ H1 s1H ?_ (zki qa1 qa2)⟩
  · rw[List.mem_singleton.mp hc]
    exact I1.fpOk (Nat.le_refl _) (I1.hok.fresh (Nat.le_refl _))
  · rw[List.length_reverse,←qa2.length];exact hza
end
end L2

end
section
set_option Elab.async false
set_option linter.all false
set_option maxRecDepth 100000
set_option maxHeartbeats 1000000
namespace L2
open PySem PySem.Spec PyProof.Rows
section
variable {X:Cx}
def zkl:V→List V→Hp→VK→Prop:=fun x vs H Q=>∃ l xs y,x = .ref l∧vs=[.int 0,y]∧H l=some (.lst xs)∧xs.length<sizeLine∧Q .non (upd H l (.lst (y::xs)))
theorem zdY:MtM X "list.insert" zkl:=by
 intro pins s σ H x vs v us Q I rx rv h
 obtain⟨l,xs,y,rfl,rfl,hH,hz,q⟩:=h
 cases rx
 obtain⟨u0,u,rfl,ru0,ru⟩:=rv.two
 obtain⟨t0,rfl⟩:=ru0
 obtain⟨z,its,n,r,hl,e⟩:=I.lstM hH
 refine call_meets F.slot_list_insert ⟨_,e,rfl⟩ F.entry_list_insert (F.args_list_insert_3 _ _ _) (AutoSeq1.list_insert_list_int_val_1 l its.toArray n 0 t0 u (by decide) (by rw[List.size_toArray];omega)) ⟨e,?_⟩
 refine⟨.non,_,I.lset (its':=u::its) hH e ?_ (.cons ru r) ?_,rfl,q⟩
 · simp
 · rw[List.length_cons];omega
theorem zi2{Y:Ky}{f g:Bool}:Same (bsOf Y (f&&g)) (bsOf Y f):=by
 cases f<;>cases g<;>first|exact Same.refl _|exact Same.emp
theorem zi3{Y:Ky}{f g:Bool}:Same (bsOf Y (f&&g)) (bsOf Y g):=by
 cases f<;>cases g<;>first|exact Same.refl _|exact Same.emp
section
variable {H₀ H H':Hp}{O:Own}{ρ:Rho}{σ:St}{i:Nat}{f:Bool}{ds:List Dt}
theorem RepO.get(h:RepO X H₀ H O ρ σ)(e:ρ[i]?=some (.ow f ds)):∃ a vs,(i,a)∈O∧σ[i]?=some (some (.ref a))∧H a=some (.lst vs)∧Rps X.K (bsOf X.ky f) ds (hidL O.adr H) vs:=by
 obtain⟨o,e1,a,vs,q1,q2,q3,q4⟩:=h.at_ i _ e
 subst q2
 exact⟨a,vs,q1,e1,q3,q4⟩
theorem zcD{x:Dv}{v:V}(rb:RepO X H₀ H O ρ σ)(r:RpF X.ky (hidL O.adr H) x.1 x.2 H' v):Rp X.K (bsOf X.ky x.1.isFr) x.2 H' v:=by
 by_cases q:x.1.isFr=true
 · rw[q];exact r.fr (rb.b0.trans rb.same) q
 · rw[show x.1.isFr=false by simpa using q];exact r.sh
theorem znW{x:Dv}{v:V}(rb:RepO X H₀ H O ρ σ)(sm:Same H H')(q:x.1.isNw=true)(r:RpF X.ky H x.1 x.2 H' v):Rp X.K (bsOf X.ky true) x.2 (hidL O.adr H') v :=
 Rp.anti rb.below _ (zka rb.own sm q r)
end
abbrev FW:=List Dt→Dt→Option (List Dt)
def z4O(ρ:Rho)(i:Nat):Option (Bool×List Dt):=match ρ[i]? with|some (.ow f ds)=>some (f,ds)|_=>none
theorem z79{ρ:Rho}{i:Nat}{f:Bool}{ds:List Dt}(h:z4O ρ i=some (f,ds)):ρ[i]?=some (.ow f ds):=by
 unfold z4O at h
 split at h
 · rename_i e;cases h;exact e
 · cases h
def sWr(w:FW)(i:Nat)(F:FE):FS:=fun ρ=>(z4O ρ i).bind fun o=>(F (z1e ρ)).bind fun x=>(w o.2 x.2).map fun ds => .nx (ρ.set i (.ow (o.1&&x.1.isFr) ds))
def sWrA(w:FW)(i:Nat)(F:FE):FS:=fun ρ=>(z4O ρ i).bind fun o=>(F ρ).bind fun x=>if x.1.isNw then(w o.2 x.2).map fun ds => .nx (ρ.set i (.ow o.1 ds)) else none
def wApp:FW:=fun ds d=>if ds.length<1000000 then some (ds++[d]) else none
def z8V:FW:=fun ds d=>if ds.length<1000000 then some (d::ds) else none
def wExt:FW:=fun ds d=>match d with|.lst es=>if ds.length+es.length≤1000000 then some (ds++es) else none|_=>none
def MtW(X:Cx)(id:String)(pre:List V)(w:FW):Prop:=∀(H:Hp) (B:Hp) (Hh:Hp) (l:Addr) (vs:List V) (y:V) (ds:List Dt) (d:Dt) (ds':List Dt) (Q:VK),H l=some (.lst vs)→Same Hh H→Rps X.K B ds Hh vs→Rp X.K B d Hh y→w ds d=some ds' →
 (∀ vs',Rps X.K B ds' Hh vs'→Q .non (upd H l (.lst vs')))→∃ r,MtM X id r∧r (.ref l) (pre++[y]) H Q
theorem mw_app:MtW X "list.append" [] wApp:=fun H B Hh l vs y ds d ds' Q hl sm rs r e k=>by
 unfold wApp at e
 split at e
 · rename_i h
   cases e
   exact⟨_,zal,l,vs,y,rfl,rfl,hl,by rw[rs.length];exact Nat.lt_trans h (by decide),k _ (rs.append (Rps.one r))⟩
 · cases e
theorem znX:MtW X "list.insert" [.int 0] z8V:=fun H B Hh l vs y ds d ds' Q hl sm rs r e k=>by
 unfold z8V at e
 split at e
 · rename_i h
   cases e
   exact⟨_,zdY,l,vs,y,rfl,rfl,hl,by rw[rs.length];exact Nat.lt_trans h (by decide),k _ (Rps.cons_.mpr ⟨y,vs,rfl,r,rs⟩)⟩
 · cases e
theorem mw_ext:MtW X "list.extend" [] wExt:=fun H B Hh l vs y ds d ds' Q hl sm rs r e k=>by
 unfold wExt at e
 split at e
 · rename_i es
   split at e
   · rename_i h
     cases e
     obtain⟨b,ws,rfl,_,hb,rb⟩:=r.items
     exact⟨_,ziU,l,b,vs,ws,rfl,rfl,hl,sm _ _ hb,by rw[rs.length,rb.length];exact Nat.le_trans h (by decide),k _ (rs.append rb)⟩
   · cases e
 · cases e
section
variable {id:String}{w:FW}{x:Str}{name:Str}{e:Expr}{Fe:FE}{i:Nat}{px apos cpos pos:Pos}{pre:List V}
theorem s_wr1(hw:MtW X id [] w)(slot:Slot "list" name id)(hty:typeOf (.builtin id)=pure (.type "method_descriptor"))(hN:X.N[i]?=some x)(hv:Vis X.env.scope x)(he:PF X e Fe)(hd:(x==("__debug__" : Str))=false:=by decide)(hcd:(x==("__classdict__" : Str))=false:=by decide)
  (hbase:attributeBase (.Name x px) name X.env (eval (.Name x px) X.env)=eval (.Name x px) X.env:=by rfl)
  (hfew:((backTo cpos (starEach [e] X.env)).all (fun x=>!x.1)&&(backToKw cpos (keywordEach [] X.env)).all (fun x=>x.1.isSome)&&decide ([e].length+([]:List Keyword).length+(if([]:List Keyword).isEmpty then 0 else 1)<30))=true:=by rfl)
  (hline:(apos.endLine==cpos.line)=true:=by rfl) (hs:starEach [e] X.env=[(false,eval e X.env)]:=by rfl) (hsw:swapsWith (.Call (.Attribute (.Name x px) name apos) [e] [] cpos) none pos.line X.env=pure false:=by rfl) :
  PFS X (.Expr (.Call (.Attribute (.Name x px) name apos) [e] [] cpos) pos) (sWr w i Fe):=by
 intro pins s σ H D I ⟨H₀,ρ,oc,⟨O,rb⟩,e0,k⟩
 obtain⟨⟨f,ds⟩,e1,e2⟩:=z05 e0
 obtain⟨z,e3,e4⟩:=z05 e2
 cases hw':w ds z.2 with
 | none=>rw[hw']at e4;cases e4
 | some ds' =>
  rw[hw']at e4
  cases e4
  obtain⟨a,vs,q1,q2,q3,q4⟩:=rb.get (z79 e1)
  have hm:MtM X id (fun o us H' Q=>∃ y,o = .ref a∧us=[y]∧Same (hidL O.adr H) (hidL O.adr H')∧H' a=some (.lst vs)∧Rp X.K (bsOf X.ky z.1.isFr) z.2 (hidL O.adr H') y∧∀ vs',Rps X.K (bsOf X.ky (f&&z.1.isFr)) ds' (hidL O.adr H') vs'→Q .non (upd H' a (.lst vs'))):=by
   intro pins s σ H' o us v vs2 Q I ro ru ⟨y,eo,eu,sm,ha,ry,kk⟩
   subst eo;subst eu
   obtain⟨r,hr,hq⟩:=hw H' (bsOf X.ky (f&&z.1.isFr)) (hidL O.adr H') a vs y ds z.2 ds' Q ha z0P (Rps.anti zi2 _ (Rps.mono _ sm q4)) (Rp.anti zi3 _ ry) hw' kk
   exact hr pins s σ H' _ _ v vs2 Q I ro ru hq
  refine zbB (pe_bm F.plainAttrs_list slot hty hm (zbA hN hv hd hcd) (PA.frame (z03 he z07 hs)) hbase hfew hline hs rfl) hsw pins s σ H D I ⟨.ref a,q2,.inl ⟨rfl,vs,SqL.of q3⟩,O.adr,rb.own,z1e ρ,[z],rb.rest,by simp[z01,fNil,e3],?_⟩
  rintro us H' sm ⟨y,r,eu,ry,er⟩ hn
  have er:r=[]:=er
  subst er;subst eu
  have hg:hidL O.adr (z1i O.adr H H')=H':=z39 hn
  refine⟨y,rfl,rfl,by rw[hg];exact sm,by rw[z5s (z4m q1)];exact q3,by rw[hg];exact zcD rb ry,fun vs' rs'=>k _ _ ⟨O,?_⟩⟩
  exact(rb.mono (Same.glue sm hn)).upd (z79 e1) q1 rs'
theorem s_insA{j0:Nat}{p0:Pos}(hN:X.N[i]?=some x)(hv:Vis X.env.scope x)(he:PF X e Fe)(hd:(x==("__debug__" : Str))=false:=by decide)(hcd:(x==("__classdict__" : Str))=false:=by decide)
   (hbase:attributeBase (.Name x px) "insert" X.env (eval (.Name x px) X.env)=eval (.Name x px) X.env:=by rfl)
   (hfew:((backTo cpos (starEach [.Constant (.int 0) j0 p0,e] X.env)).all (fun x=>!x.1)&&(backToKw cpos (keywordEach [] X.env)).all (fun x=>x.1.isSome)&&decide ([Expr.Constant (.int 0) j0 p0,e].length+([]:List Keyword).length+(if([]:List Keyword).isEmpty then 0 else 1)<30))=true:=by rfl)
   (hline:(apos.endLine==cpos.line)=true:=by rfl) (hs:starEach [e] X.env=[(false,eval e X.env)]:=by rfl) (hs2:starEach [.Constant (.int 0) j0 p0,e] X.env=(false,eval (.Constant (.int 0) j0 p0) X.env)::starEach [e] X.env:=by rfl)
   (hsw:swapsWith (.Call (.Attribute (.Name x px) "insert" apos) [.Constant (.int 0) j0 p0,e] [] cpos) none pos.line X.env=pure false:=by rfl) :
   PFS X (.Expr (.Call (.Attribute (.Name x px) "insert" apos) [.Constant (.int 0) j0 p0,e] [] cpos) pos) (sWrA z8V i Fe):=by
 intro pins s σ H D I ⟨H₀,ρ,oc,⟨O,rb⟩,e0,k⟩
 obtain⟨⟨f,ds⟩,e1,e2⟩:=z05 e0
 obtain⟨z,e3,e5⟩:=z05 e2
 split at e5
 · rename_i qn
   cases hw':z8V ds z.2 with
   | none=>rw[hw']at e5;cases e5
   | some ds' =>
    rw[hw']at e5
    cases e5
    obtain⟨a,vs,q1,q2,q3,q4⟩:=rb.get (z79 e1)
    have hm:MtM X "list.insert" (fun o us H' Q=>∃ y,o = .ref a∧us=[.int 0,y]∧Same H H'∧RpF X.ky H z.1 z.2 H' y∧∀ vs',Rps X.K (bsOf X.ky f) ds' (hidL O.adr H') vs'→Q .non (upd H' a (.lst vs'))):=by
     intro pins s σ H' o us v vs2 Q I ro ru ⟨y,eo,eu,sm,ry,kk⟩
     subst eo;subst eu
     have r1:=znW rb sm qn ry
     obtain⟨r,hr,hq⟩:=znX (X:=X) H' (bsOf X.ky f) (hidL O.adr H') a vs y ds z.2 ds' Q (sm _ _ q3) z0P (Rps.mono _ (z1Y sm) q4) (Rp.anti (by cases f<;>first|exact Same.refl _|exact Same.emp) _ r1) hw' kk
     exact hr pins s σ H' _ _ v vs2 Q I ro ru hq
    refine zbB (pe_bm F.plainAttrs_list F.slot_list_insert F.type_list_insert hm (zbA hN hv hd hcd) (z03 (z09 (X:=X)) (z03 he z07 hs) hs2) hbase hfew hline hs2 (by rw[hs];rfl)) hsw pins s σ H D I ⟨.ref a,q2,.inl ⟨rfl,vs,SqL.of q3⟩,ρ,[(.nw,.int 0),z],rb.all,by simp[z01,fNil,fC,e3],?_⟩
    rintro us H' sm ⟨y0,r0,eu0,ry0,y,r,eu,ry,er⟩
    have er:r=[]:=er
    subst er;subst eu;subst eu0
    have e00:y0 = .int 0:=Rp.int_.mp ry0.sh
    subst e00
    exact⟨y,rfl,rfl,sm,ry,fun vs' rs'=>k _ _ ⟨O,(rb.mono sm).upd (z79 e1) q1 rs'⟩⟩
 · cases e5
end
def setD(ds:List Dt)(j:Int)(d:Dt):Option (List Dt):=(ixN ds.length j).map fun k=>ds.set k d
def sPut(i:Nat)(Fj Fe:FE):FS:=fun ρ=>(z4O ρ i).bind fun o=>(Fe (z1e ρ)).bind fun x=>(Fj ρ).bind fun j=>(intD j.2).bind fun n=>(setD o.2 n x.2).map fun ds => .nx (ρ.set i (.ow (o.1&&x.1.isFr) ds))
section
variable {x:Str}{e j:Expr}{Fe Fj:FE}{i:Nat}{px spos pos:Pos}
theorem zkm(hN:X.N[i]?=some x)(hv:Vis X.env.scope x)(hj:PF X j Fj)(he:PF X e Fe)(hd:(x==("__debug__" : Str))=false:=by decide)(hcd:(x==("__classdict__" : Str))=false:=by decide)
  (ha:∀ v,assign (.Subscript (.Name x px) j spos) X.env v=(do
   let ov ←holding [v] (eval (.Name x px) X.env)
   let iv ←holding [v,ov] (eval j X.env)
   standAt spos
   holding [v,ov,iv] (setItem ov iv v)
   release [v,ov,iv] []):=by intro _;rfl)
  (hs:swapsWithSole [.Subscript (.Name x px) j spos] e pos.line X.env=pure false:=by rfl) (hw:swappedStores [.Subscript (.Name x px) j spos] e X.env=pure none:=by rfl)
  (h1:(assignEach [.Subscript (.Name x px) j spos] X.env).map (·.2)=[assign (.Subscript (.Name x px) j spos) X.env]:=by rfl) :
  PFS X (.Assign [.Subscript (.Name x px) j spos] e pos) (sPut i Fj Fe):=by
 intro pins s σ H D I ⟨H₀,ρ,oc,⟨O,rb⟩,e0,k⟩
 obtain⟨⟨f,ds⟩,e1,e2⟩:=z05 e0
 obtain⟨z,e3,e4⟩:=z05 e2
 obtain⟨⟨fj,dj⟩,e5,e6⟩:=z05 e4
 obtain⟨n,e7,e8⟩:=z05 e6
 obtain⟨a,vs,q1,q2,q3,q4⟩:=rb.get (z79 e1)
 unfold setD at e8
 cases hx:ixN ds.length n with
 | none=>rw[hx]at e8;cases e8
 | some m =>
  rw[hx]at e8
  cases e8
  refine ps_asg (PE.frame he) (pg_sub (zbA hN hv hd hcd) hj zjQ ha) hs hw h1 pins s σ H D I ⟨O.adr,rb.own,z1e ρ,z.1,z.2,rb.rest,e3,fun v H' sm r hn=>?_⟩
  have hg:hidL O.adr (z1i O.adr H H')=H':=z39 hn
  have rb2:=rb.mono (Same.glue sm hn)
  refine⟨.ref a,q2,ρ,fj,dj,rb2.all,e5,fun v2 H2 s2 r2=>?_⟩
  have ed:=z5v e7
  have ed:dj = .int n:=ed
  subst ed
  have rv:Rp X.K (bsOf X.ky z.1.isFr) z.2 (hidL O.adr H2) v:=Rp.mono _ (by rw[←hg];exact z1Y s2) (zcD rb r)
  have ha2:H2 a=some (.lst vs):=s2 _ _ (by rw[z5s (z4m q1)];exact q3)
  refine⟨a,vs,n,m,rfl,Rp.int_.mp r2.sh,ha2,by rw[q4.length];exact hx,k _ _ ⟨O,(rb2.mono s2).upd (z79 e1) q1 ?_⟩⟩
  exact Rps.set m (Rps.anti zi2 _ (Rps.mono _ (z1Y ((Same.glue sm hn).trans s2)) q4)) (Rp.anti zi3 _ rv)
end
end
end L2

end
section
set_option Elab.async false
set_option linter.all false
set_option maxRecDepth 100000
set_option maxHeartbeats 1000000
namespace L2
open PySem PySem.Spec PyProof.Rows
def upR(X:Cx)(F:FI):TI:=fun σ H R=>∃ ρ items,RepS X.ky H ρ σ∧F ρ=some items∧∀ J H',Same H H'→items.length≤sizeLine→(∀ H2,Walk X.K J items H2)→R J H'
def PFR(X:Cx)(tg e:Expr)(F:FI):Prop:=PI X tg e (upR X F)
section
variable {X:Cx}{tg a b e:Expr}{Fa Fb Fe:FE}{pos:Pos}
theorem zj9{p:Pos}(hg:Gl X "range")(hm:X.mg "range" = none)(ha:PF X a Fa)(hs:starEach [a] X.env=[(false,eval a X.env)]:=by rfl):PFR X tg (.Call (.Name "range" p) [a] [] pos) (z0m Fa) :=
 (zag hg hm (z4d ha z8H hs) hs).imp fun σ H R hZ=>hZ.elim fun ρ hZ=>hZ.elim fun items hZ=>hZ.elim fun rs hZ=>hZ.elim fun e0 k=>by
  obtain⟨⟨f,d⟩,e1,e2⟩:=z05 e0
  obtain⟨j,e3,e4⟩:=z05 e2
  clear e0 e2
  have ed:=z5v e3
  cases (show d = .int j from ed)
  split at e4
  · rename_i hr
    cases e4
    obtain⟨h1,h2⟩:=zbI hr
    refine⟨ρ,f,_,rs,e1,fun v H1 s1 r1=>⟨j,by rw[Rp.int_.mp r1.sh],by omega,by omega,k _ H1 s1 ?_ (fun _=>z60)⟩⟩
    rw[z61]
    have:sizeLine=16777216:=rfl
    omega
  · cases e4
theorem zja{p:Pos}(hg:Gl X "range")(hm:X.mg "range" = none)(ha:PF X a Fa)(hb:PF X b Fb)(hs:starEach [a,b] X.env=[(false,eval a X.env),(false,eval b X.env)]:=by rfl)
  (hs1:starEach [b] X.env=[(false,eval b X.env)]:=by rfl):PFR X tg (.Call (.Name "range" p) [a,b] [] pos) (z8o Fa Fb) :=
 (ziP hg hm (z4d ha (z4d hb z8H hs1) (by rw[hs,hs1])) hs hs1).imp fun σ H R hZ=>hZ.elim fun ρ hZ=>hZ.elim fun items hZ=>hZ.elim fun rs hZ=>hZ.elim fun e0 k=>by
  obtain⟨⟨f,d⟩,e1,e2⟩:=z05 e0
  obtain⟨⟨f',d'⟩,e1',e2'⟩:=z05 e2
  obtain⟨i,e3,e4⟩:=z05 e2'
  obtain⟨j,e5,e6⟩:=z05 e4
  clear e0 e2 e2' e4
  have ed:=z5v e3
  have ed':=z5v e5
  cases (show d = .int i from ed)
  cases (show d' = .int j from ed')
  split at e6
  · rename_i hr
    rw[Bool.and_eq_true]at hr
    cases e6
    obtain⟨h1,h2⟩:=zbI hr.1
    obtain⟨h3,h4⟩:=zbI hr.2
    refine⟨ρ,f,_,rs,e1,fun v H1 s1 r1=>⟨ρ,f',_,rs.mono s1,e1',fun v' H2 s2 r2=>⟨i,j,by rw[Rp.int_.mp r1.sh,Rp.int_.mp r2.sh],⟨by omega,by omega,by omega,by omega⟩,k _ H2 (s1.trans s2) ?_ (fun _=>z60)⟩⟩⟩
    rw[z61]
    have:sizeLine=16777216:=rfl
    omega
  · cases e6
end
def z7X(Fi:FI)(g:Tg)(F:FS):FS:=fun ρ=>(Fi ρ).bind fun items=>forF g F items ρ
section
variable {X:Cx}{tg iter:Expr}{body:List Stmt}{Fi:FI}{g:Tg}{F:FS}{pos:Pos}
theorem zkn(hp:PassesOwn (model X.prog X.w) X.A X.env X.xe)(hc:X.calm=true)(hi:PFR X tg iter Fi)(hg:PG X tg (g.low X.K))(hb:PFSs X body F)
   (hs:∀ x,foldedSetIterable iter X.env x=pure x:=by intro _;rfl):PFS X (.For tg iter body [] pos) (z7X Fi g F):=(zjJ hp hc hi hg hb hs).imp fun D σ H ⟨H₀,ρ,oc,⟨O,rb⟩,e0,k⟩=>by
 obtain⟨items,e1,e2⟩:=z05 e0
 refine⟨ρ,items,rb.all,e1,fun J H1 sm hsz wk=>?_⟩
 refine⟨fun i m σ' H'=>m=items.length-i∧∃ ρ',RepB X H₀ H' ρ' σ'∧forF g F (items.drop i) ρ'=some oc,⟨_,rfl,_,⟨O,rb.mono sm⟩,e2⟩,?_⟩
 rintro i m σ' H' ⟨rfl,ρ',⟨O2,r2⟩,f2⟩
 obtain⟨w1,w2⟩:=wk (hidL O2.adr H') O2.adr H' (Same.refl _) fun a ha=>by obtain⟨⟨vs,q⟩,_⟩:=r2.own a ha;exact⟨_,q⟩
 by_cases hlt:i<items.length
 · obtain⟨x,hx⟩:∃ x,items[i]?=some x:=⟨_,List.getElem?_eq_getElem hlt⟩
   have hdrop:items.drop i=x::items.drop (i+1):=by
    rw[List.drop_eq_getElem_cons hlt]
    rw[List.getElem?_eq_getElem hlt]at hx
    cases hx;rfl
   rw[hdrop]at f2
   unfold forF at f2
   obtain⟨ρ2,p1,f3⟩:=z05 f2
   obtain⟨oc',p2,f4⟩:=z05 f3
   obtain⟨go,yl⟩:=w1 i x hx
   refine .inr ⟨go,fun σ3 H3=>∃ ρ3,RepB X H₀ H3 ρ3 σ3∧forF g F (items.drop (i+1)) ρ3=some oc,fun σ3 H3 hZ=>hZ.elim fun ρ3 hZ=>hZ.elim fun r3 f3=>⟨items.length-(i+1),by omega,rfl,ρ3,r3,f3⟩,fun xv H3 y3=>?_⟩
   obtain⟨s3,k3,r3⟩:=yl xv H3 y3
   have sm3:Same H' H3:=fun b o e=>by
    by_cases hb:b∈O2.adr
    · rw[k3 b hb];exact e
    · exact(z4i (s3 b o (by rw[z0q hb];exact e))).2
   refine Tg.low_mono (Tg.simO (r2.mono sm3) r3 p1) ?_
   rintro σ4 H4 ⟨eH,O4,r4⟩
   subst eH
   refine⟨H₀,ρ2,oc',⟨O4,r4⟩,p2,?_⟩
   cases oc' with
   | nx ρ5=>exact fun σ5 H5 r5=>⟨ρ5,r5,f4⟩
   | ct ρ5=>exact fun σ5 H5 r5=>⟨ρ5,r5,f4⟩
   | bk ρ5=>cases f4;exact k
   | rt f d=>cases f4;exact k
 · have hd:items.drop i=[]:=List.drop_of_length_le (by omega)
   rw[hd]at f2
   cases f2
   exact .inl ⟨w2 i (by omega),k σ' H' ⟨O2,r2⟩⟩
end
section
variable {P:Program}{w:World}{K:PySem.W.Frag}{mg:Str→Option Value}{base:Heap}
theorem Fun.dat{x qual:Str}{st:Stmt}{f:Addr}{fd:FuncData}{N ps:List Str}{k np nn:Nat}{fr:Bool}{F:FS}(Fu:Fun K x qual st f fd)(S:FnScope N ps (z04 st))(hp:np=ps.length)(hn:nn=N.length)
  (body:∀(cdv:Value) (A:Around) (outer:List Env) (s:Shared) (H:Hp) (E:XK),Room k (A.deeper (envOfC qual (z04 st) s.heap.objs.size f cdv)) →
   PFSs (cxOf CX0 P w K mg base N qual (z04 st) f cdv A outer s H E).nox (z1K st) F):FnOk P w K mg base CX0 (k+1) f fd ps (spc K fr (cOf np nn fr F)):=by
 subst hp hn
 exact Fun.data Fu S body
end
theorem z0c{X:Cx}{e:Expr}{es:List Expr}{pos:Pos}{Fs:FA}{fr:Bool}{k k':Nat}{f:Addr}{fd:FuncData}{ps:List Str}{ct:FC}{x:Str}{st:Stmt}{p:Pos}(F:FnOk X.prog X.w X.K X.mg X.base CX0 k f fd ps (spc X.K fr ct))(D:Df X.K X.mg x st ps f fd)(hr:Room k' X.A)(hg:Gl X x)
  (ha:PFA X (e::es) Fs) (hle:k≤k':=by decide) (hdb:(x==("__debug__" : Str))=false:=by decide) (hst:starEach (e::es) X.env=(false,eval e X.env)::starEach es X.env:=by rfl) (hpl:(backTo pos (starEach es X.env)).any (·.1)=false:=by rfl):PF X (.Call (.Name x p) (e::es) [] pos) (z06 fr ct Fs) :=
 p_call F (hr.mono hle) hg D.mg D.fn.kp D.bd ha hdb hst hpl
def Dh(K:PySem.W.Frag)(x:Str)(st:Stmt)(f:Addr):Prop:=∃(oc kV doc pm cdv ct:Value) (od an:Option Addr) (osl:Array (Option Value)),PySem.W.nsIn K mainGlobals x=some (some (.ref f))∧K.lookup f=some ⟨oc,od,.func (PySem.W.fnOf x x (z2A st) (z1K st) (z04 st) .none kV doc pm an cdv ct),osl⟩∧PySem.W.codeIn K cdv x=true∧PySem.W.keepIn K (.ref f)=true
theorem dh{K:PySem.W.Frag}{x:Str}{st:Stmt}{f:Addr}{oc kV doc pm cdv ct:Value}{od an:Option Addr}{osl:Array (Option Value)}(e:PySem.W.nsIn K mainGlobals x=some (some (.ref f)))(l:K.lookup f=some ⟨oc,od,.func (PySem.W.fnOf x x (z2A st) (z1K st) (z04 st) .none kV doc pm an cdv ct),osl⟩)(c:PySem.W.codeIn K cdv x=true)(k:PySem.W.keepIn K (.ref f)=true):Dh K x st f:=⟨_,_,_,_,_,_,_,_,_,e,l,c,k⟩
theorem Dh.df{K:PySem.W.Frag}{h:Heap}{mg:Str→Option Value}(X:K.In h)(G:h.Ns mainGlobals mg){x:Str}{st:Stmt}{f:Addr}{ps:List Str}(d:Dh K x st f)
  (hb:∀(kV doc pm:Value) (an:Option Addr) (cdv ct:Value) (us:List Value),us.length=ps.length→bindArgs (PySem.W.fnOf x x (z2A st) (z1K st) (z04 st) .none kV doc pm an cdv ct) ⟨us,[]⟩=pure (ps.zip us)) :
  ∃ fd,Df K mg x st ps f fd∧∀ us:List Value,us.length=ps.length→bindArgs fd ⟨us,[]⟩=pure (ps.zip us):=by
 obtain⟨_,_,_,_,_,_,_,_,_,e,l,c,k⟩:=d
 exact⟨_,df_mk X G e l c k hb,hb _ _ _ _ _ _⟩
theorem zdZ{M:Model}{A:Around}{Q:Value→Shared→Prop}{E:Value→Shared→Prop}{s:Shared}{a b:Bool}(h:Q (.bool (a != b)) s):wpAny M A (compareOp .IsNot (.bool a) (.bool b)) Q E s:=by
 cases a<;>cases b<;>exact wpAny_pure h
def z8W:FO:=fun x y=>match x,y with|.bl a,.bl b=>some (.nw,.bl (a != b))|_,_=>none
theorem o_notB{X:Cx}:OpF X (compareOp .IsNot) z8W:=by
 rintro pins s σ H x y v u Q I r1 r2 ⟨d1,d2,f,d,q1,q2,e,k⟩
 unfold z8W at e
 split at e
 · cases e
   have h1:=Rp.bl_.mp q1
   have h2:=Rp.bl_.mp q2
   subst h1 h2
   cases r1
   cases r2
   exact zdZ (fin_bl I (k _ H (Same.refl H) RpF.b_) rfl)
 · cases e
theorem ndp(l:List Str)(h:l.Nodup:=by decide +kernel):l.Nodup:=h
theorem jlt(l:List Nat)(m:Nat)(h:∀ j∈l,j<m:=by decide):∀ j∈l,j<m:=h
theorem scm{N P:List Str}{sc:Scope}(kind:sc.kind = .function:=by rfl)(co:sc.isCoroutine=false:=by rfl)(gen:sc.isGenerator=false:=by rfl)(nd:N.Nodup:=by decide +kernel)(pre:N.take P.length=P:=by rfl)(par:∀ x∈P,sc.names.lookup x=some .local∨sc.names.lookup x=some .cell:=by decide +kernel)(nofree:∀ y∈sc.names,y.2 ≠ .free:=by decide +kernel):FnScope N P sc:=⟨kind,co,gen,nd,pre,par,nofree⟩
theorem zko{Fi:FI}{g:Tg}{F:FS}{ρ:Rho}:z7X Fi g F ρ=(Fi ρ).bind fun items=>forF g F items ρ:=rfl
end L2

end
section
local macro_rules|`(tactic| omega)=>`(tactic| first|lia|omega +splitDisjunctions)
set_option Elab.async false
set_option linter.all false
set_option maxRecDepth 100000
set_option maxHeartbeats 2000000
namespace L2
open PySem PySem.Spec PyProof.Rows
section
variable {α β:Type}
def insK(p:Int×α):List (Int×α)→List (Int×α)
 | []=>[p]
 | q::qs=>if p.1≤q.1 then p::q::qs else q::insK p qs
def z2G:List (Int×α)→List (Int×α)
 | []=>[]
 | p::ps=>insK p (z2G ps)
theorem z7a(p:Int×α):∀ qs:List (Int×α),(insK p qs).Perm (p::qs)
 | []=>List.Perm.refl _
 | q::qs=>by
  unfold insK
  split
  · exact List.Perm.refl _
  · exact((z7a p qs).cons q).trans (List.Perm.swap p q qs)
theorem z1U:∀ ps:List (Int×α),(z2G ps).Perm ps
 | []=>List.Perm.refl _
 | p::ps=>(z7a p _).trans ((z1U ps).cons p)
abbrev Le(p q:Int×α):Prop:=p.1≤q.1
theorem z7Y(p:Int×α):∀ qs:List (Int×α),qs.Pairwise Le→(insK p qs).Pairwise Le
 | [],_=>List.pairwise_singleton _ _
 | q::qs,h=>by
  obtain⟨h1,h2⟩:=List.pairwise_cons.mp h
  unfold insK
  split
  · rename_i hle
    exact List.pairwise_cons.mpr ⟨fun x hx=>by
      rcases List.mem_cons.mp hx with rfl|hx
      · exact hle
      · exact Int.le_trans hle (h1 x hx),h⟩
  · rename_i hle
    refine List.pairwise_cons.mpr ⟨fun x hx=>?_,z7Y p qs h2⟩
    rcases List.mem_cons.mp ((z7a p qs).mem_iff.mp hx)with rfl|hx
    · show q.1≤x.1;omega
    · exact h1 x hx
theorem z4n:∀ ps:List (Int×α),(z2G ps).Pairwise Le
 | []=>List.Pairwise.nil
 | p::ps=>z7Y p _ (z4n ps)
theorem zcE(g:α→β)(p:Int×α):∀ qs:List (Int×α),insK (p.1,g p.2) (qs.map fun q=>(q.1,g q.2))=(insK p qs).map fun q=>(q.1,g q.2)
 | []=>rfl
 | q::qs=>by
  rw[List.map_cons]
  unfold insK
  by_cases h:p.1≤q.1
  · rw[if_pos h,if_pos h];rfl
  · rw[if_neg h,if_neg h,List.map_cons,zcE g p qs]
theorem z5x(g:α→β):∀ ps:List (Int×α),z2G (ps.map fun q=>(q.1,g q.2))=(z2G ps).map fun q=>(q.1,g q.2)
 | []=>rfl
 | p::ps=>by rw[List.map_cons,z2G,z2G,z5x g ps,zcE g p]
theorem z8X:∀{xs ys:List (Int×α)},xs.Perm ys→xs.Pairwise Le→ys.Pairwise Le→(xs.map (·.1)).Nodup→xs=ys
 | [],ys,p,_,_,_=>(List.Perm.nil_eq p)
 | x::xs,[],p,_,_,_=>by have:=p.length_eq;simp at this
 | x::xs,y::ys,p,h1,h2,nd=>by
  obtain⟨a1,a2⟩:=List.pairwise_cons.mp h1
  obtain⟨b1,b2⟩:=List.pairwise_cons.mp h2
  have nd':(x.1::xs.map (·.1)).Nodup:=nd
  obtain⟨n1,n2⟩:=List.nodup_cons.mp nd'
  have hx:x∈y::ys:=p.mem_iff.mp List.mem_cons_self
  have hy:y∈x::xs:=p.mem_iff.mpr List.mem_cons_self
  have exy:x=y:=by
   rcases List.mem_cons.mp hx with e|hx
   · exact e
   · rcases List.mem_cons.mp hy with e|hy
     · exact e.symm
     · have l1:x.1≤y.1:=a1 y hy
       have l2:y.1≤x.1:=b1 x hx
       have e:x.1=y.1:=by omega
       exact absurd (List.mem_map.mpr ⟨y,hy,e.symm⟩) n1
  subst exy
  rw[z8X (p.cons_inv) a2 b2 n2]
end
section
variable {X:Cx}{pins:List (Addr×Obj)}{σ:St}{H:Hp}{s:Shared}
theorem Inv.track{D:Addr}{its:List Value}{ys:List V}{n:Nat}(I:Inv X pins σ H s)(hD:H D=none)(f:FpOk X pins H D)(hn:X.s₀.heap.objs.size≤D)(ho:s.heap.get? D=some { cls := .type "list",data := .seq its.toArray n })(hv:Vals ys its)(hz:ys.length≤sizeLine):
   Inv X pins σ (upd H D (.lst ys)) s:=by
 obtain⟨f0,f1,f2,f3,f4,f5⟩:=f
 have ne:∀ b o,X.s₀.heap.get? b=some o→b≠D:=fun b o e z=>by
   subst z
   exact absurd (Nat.lt_of_lt_of_le (Heap.lt_size e) hn) (Nat.lt_irrefl _)
 have nH:∀ b o,H b=some o→b≠D:=fun b o e z=>by rw[z,hD]at e;cases e
 refine⟨I.ok,I.os,I.bare,⟨I.base.keep,I.base.slot,fun b o e q hx=>?_,I.base.there,fun b xs e=>?_,fun b o u e=>?_,fun b ps e=>?_⟩,I.loc,I.cell,?_,fun x c e=>?_,fun p hp=>?_,fun a o e=>?_,I.len⟩
 · rw[z0v (ne b o e)];exact I.base.free b o e q hx
 · have:=I.base.tups b xs e
   rw[z0v (nH b _ this)];exact this
 · have:=I.base.frzs b o u e
   rw[z0v (nH b _ this)];exact this
 · obtain⟨more,this⟩:=I.base.tbls b ps e
   exact⟨more,by rw[z0v (nH b _ this)];exact this⟩
 · rw[z0v (Ne.symm f1)];exact I.free
 · rw[z0v (f4 x c e)];exact I.freeC x c e
 · obtain⟨q1,q2,q3⟩:=I.pin p hp
   exact⟨q1,by rw[z0v (f5 p hp)];exact q2,q3⟩
 · by_cases z:a=D
   · subst z
     rw[z10]at e
     cases e
     exact⟨hz,its,n,hv,ho⟩
   · rw[z0v z]at e
     refine(I.hok a o e).stay (fun b u _ q=>q) (fun b q=>?_) (fun b xs q=>?_)
     · rw[z0v (nH b _ q)];exact q
     · rw[z0v (nH b _ q)];exact q
theorem ns_inj{h:Heap}{a:Addr}{m m':Str→Option Value}(p:h.Ns a m)(q:h.Ns a m'):m=m':=by
 obtain⟨o,es,ep,e,d,_,f⟩:=p
 obtain⟨o',es',ep',e',d',_,f'⟩:=q
 rw[e]at e'
 cases e'
 rw[d]at d'
 cases d'
 funext x
 rw[←f x,←f' x]
def z8Y(base:Heap)(L a b:Addr)(h:Heap):List (Addr×Obj):=(List.range h.objs.size).filterMap fun c=>match h.get? c with
 | some o=>if base.get? c=none∧c≠L∧c≠a∧c≠b then some (c,o) else none
 | none=>none
theorem ze{base:Heap}{L a b c:Addr}{h:Heap}{o:Obj}(e:h.get? c=some o)(h1:base.get? c=none)(h2:c≠L)(h3:c≠a)(h4:c≠b):(c,o)∈z8Y base L a b h :=
 List.mem_filterMap.mpr ⟨c,List.mem_range.mpr (Heap.lt_size e),by rw[e];simp[h1,h2,h3,h4]⟩
theorem z7b{base:Heap}{L a b:Addr}{h:Heap}{p:Addr×Obj}(hp:p∈z8Y base L a b h):h.get? p.1=some p.2∧base.get? p.1=none∧p.1≠L∧p.1≠a∧p.1≠b:=by
 obtain⟨c,hc,e⟩:=List.mem_filterMap.mp hp
 cases q:h.get? c with
 | none=>rw[q]at e;cases e
 | some o =>
  rw[q]at e
  dsimp only at e
  split at e
  · rename_i hh;cases e;exact⟨q,hh⟩
  · cases e
theorem Inv.turnedN{h':Heap}{t':Nat}{ch:List Addr}{m:Str→Option Value}(I:Inv X pins σ H s)(hm:s.heap.Ns X.env.locals m)(hm':h'.Ns X.env.locals m)(hl:∃ o,h'.get? X.env.locals=some o)(k:∀ b o,b ∉ ch→b≠X.env.locals→s.heap.get? b=some o→h'.get? b=some o)(hc:∀ b∈ch,FpOk X pins H b):
   Inv X pins σ H { s with heap:=h',toks:=t' }:=by
 have nit:∀ b u,H b=some u→b ∉ ch:=fun b u e z=>by rw[(hc b z).1]at e;cases e
 have nL:∀ b u,H b=some u→b≠X.env.locals:=fun b u e z=>by rw[z,I.free]at e;cases e
 refine I.step (g':=s.gens) (d':=s.drawn) (ch:=ch) (fun b hb=>?_) (fun b o nl _ hn e _=>k b o hn nl e) (fun b o nl _ hn e _=>⟨o.slots,k b o hn nl e⟩) (fun _ _ _ _ n=>n)
   (fun b o hn e=>?_) (fun _ _ e=>e) (fun _ _ _ e=>e) (fun b ps e=>⟨#[],by rw[e];simp⟩) (fun m' hm2=>by rw[←ns_inj hm hm2];exact hm') (fun b u e=>?_) I.bare
 · obtain⟨f0,f1,f2,f3,f4,f5⟩:=hc b hb
   exact⟨f3,f1,f4,f5⟩
 · by_cases z:b=X.env.locals
   · subst z;exact hl
   · exact⟨o,k b o hn z e⟩
 · refine(I.hok b u e).stay (fun c v hcc q=>k c v ?_ ?_ q) (fun _ q=>q) fun _ _ q=>q
   · rcases hcc with z|z
     · rw[z];exact nit b u e
     · exact nit c _ z
   · rcases hcc with z|z
     · rw[z];exact nL b u e
     · exact nL c _ z
end
def z2p(c:FC):List Dt→Option (List Int)
 | []=>some []
 | d::ds=>(c [d]).bind fun r=>(intD r).bind fun i=>(z2p c ds).map (i::·)
theorem z62{c:FC}:∀{ds:List Dt} {ks:List Int},z2p c ds=some ks→ks.length=ds.length
 | [],ks,h=>by cases h;rfl
 | d::ds,ks,h=>by
  obtain⟨r,_,h⟩:=z05 h
  obtain⟨i,_,h⟩:=z05 h
  cases q:z2p c ds with
  | none=>rw[q]at h;cases h
  | some js=>rw[q]at h;cases h;rw[List.length_cons,List.length_cons,z62 q]
theorem z8Z{c:FC}:∀{ds:List Dt} {ks:List Int} {j:Nat} {d:Dt} {k:Int},z2p c ds=some ks→ds[j]?=some d→ks[j]?=some k→c [d]=some (.int k)
 | [],ks,j,d,k,h,e,_=>by simp at e
 | a::ds,ks,j,d,k,h,e,e'=>by
  obtain⟨r,h1,h⟩:=z05 h
  obtain⟨i,h2,h⟩:=z05 h
  cases q:z2p c ds with
  | none=>rw[q]at h;cases h
  | some js =>
   rw[q]at h
   cases h
   cases j with
   | zero =>
    simp at e e'
    subst e;subst e'
    rw[h1,z5v h2]
   | succ j=>exact z8Z q (by simpa using e) (by simpa using e')
section
variable {X:Cx}{pins:List (Addr×Obj)}{σ:St}{H:Hp}{s:Shared}{k:Nat}{f:Addr}{fd:FuncData}{p:Str}{fr:Bool}{ct:FC}{l:Addr}{vs:List V}{ds:List Dt}{ks:List Int}{Q:VK}
theorem znY{H1:Hp}{s1:Shared}{d:Dt}{v:V}{u:Value}{n:Int}(F:FnOk X.prog X.w X.K X.mg X.base CX0 k f fd [p] (spc X.K fr ct))(hr:Room (k+2) X.A)(hb:Binds X.K fd [p] [])(I:Inv X pins σ H1 s1)(r:RelV v u)(rd:Rp X.K emp d H1 v)(hc:ct [d]=some (.int n))
  {P:Value→Shared→Prop} {E:Value→Shared→Prop} (q:∀ t H2 s2,Inv X pins σ H2 s2→Same H1 H2→(∀ b o,s1.heap.get? b=some o→H1 b=none→b ∉ frs X.stack→s2.heap.get? b=some o∧H2 b=none)→P (.int n t) s2):wpAny (model X.prog X.w) X.A.in1.in1 (call (.ref f) [u]) P E s1:=by
 have hr2:Room k X.A.in1.in1:=(show Room (k+1+1) X.A from hr).in1.in1
 refine wpAny_call (codeAny_mono (F.run X.A.in1.in1 X.stack s1 H1 ⟨[u],[]⟩ [u] [v] (fun w H2=>w = .int n∧Same H1 H2) E0 hr2 I.env0.in1.in1 (hb s1 [u] I.kIn rfl) (.cons r .nil) ⟨[d],_,Rps.one rd,hc,fun w H2 sm rw'=>⟨by cases fr<;>exact Rp.int_.mp rw',sm⟩⟩) fun res s2 hres=>?_)
 cases res with
 | error e=>exact hres.elim
 | ok fl =>
  cases fl with
  | ret w =>
   obtain⟨x,H2,os,bare,un,hok,rw',ex,sm⟩:=hres
   subst ex
   obtain⟨t,rfl⟩:=rw'
   exact q t H2 s2 (I.call' (ch:=[]) os un hok bare fun b hb=>absurd hb (by simp)) sm fun b o e hn hf=>⟨un.keep b o e hn hf (by simp),un.free b o e hn (by simp)⟩
  | next=>exact hres.elim
  | brk=>exact hres.elim
  | cont=>exact hres.elim
theorem zkp(I:Inv X pins σ H s){b:Addr}(hb:b∈frs X.stack):b<s.heap.objs.size:=by
 obtain⟨_,o,e,_⟩:=I.stack.mem hb
 exact Heap.lt_size e
theorem zjb{D kS:Addr}{e1:Nat}{its:List Value}{P:PySem.Fin→Shared→Prop}{E:Value→Shared→Prop}(F:FnOk X.prog X.w X.K X.mg X.base CX0 k f fd [p] (spc X.K fr ct))(hr:Room (k+2) X.A)(hb:Binds X.K fd [p] [])(I:Inv X pins σ H s)(rv:Vals vs its)(rs:Rps X.K emp ds H vs)(hk:z2p ct ds=some ks)(h64:ds.length<64)
  (hD:s.heap.get? D=some (seqObj "list" #[] e1)) (hS:s.heap.get? kS=some (seqObj "list" #[] 0)) (nDS:kS≠D) (fD:FpOk X pins H D) (fS:FpOk X pins H kS) (gD:D ∉ frs X.stack) (gS:kS ∉ frs X.stack) (sD:X.s₀.heap.objs.size≤D) (sS:X.s₀.heap.objs.size≤kS)
  (q:∀ H2 s2 (out:List Value) c,Inv X pins σ H2 s2→Same H H2→H2 D=none→s2.heap.get? D=some (seqObj "list" out.toArray c)→KskOut false ks its out→P (.done (.ret .none)) s2) :
  wpAny (model X.prog X.w) X.A.in1.in1 (ksk_rest D (.ref f) false its.toArray e1 (.ref kS)) P E s:=by
 have hlen:=z62 hk
 have l1:=rs.length
 have l2:=rv.length
 unfold ksk_rest
 refine wpAny_bind (wpAny_rule ?_)
 rw[List.forIn_toArray]
 refine wpAny_bind (ksk_fold (fun i s'=>∃ H1 kA e,Inv X pins σ H1 s'∧Same H H1∧H1 D=none∧H1 kS=none∧s'.heap.get? D=some (seqObj "list" #[] e1)∧s'.heap.get? kS=some (seqObj "list" kA e)∧IntsAre kA.toList (ks.take i)) its 0 s
  ⟨H,#[],0,I,Same.refl H,fD.1,fS.1,hD,hS,by simpa using IntsAre.nil⟩ ?step ?done)
 case step =>
  rintro j u s' hu ⟨H1,kA,e,I1,sm,d1,d2,o1,o2,hka⟩
  simp only[Nat.zero_add]at hka ⊢
  have hj:j<its.length:=(List.getElem?_eq_some_iff.mp hu).1
  obtain⟨n,hn⟩:∃ n,ks[j]?=some n:=⟨_,List.getElem?_eq_getElem (by omega)⟩
  obtain⟨d,hd⟩:∃ d,ds[j]?=some d:=⟨_,List.getElem?_eq_getElem (by omega)⟩
  obtain⟨v,hv,rd⟩:=rs.get hd
  obtain⟨u',hu',ru⟩:=rv.get hv
  rw[hu]at hu'
  cases hu'
  have hz:kA.size≤its.length:=by
    have h1:=hka.length
    rw[Array.length_toList,List.length_take]at h1
    omega
  refine wpAny_bind (wpAny_attempt (znY F hr hb I1 ru (Rp.mono _ sm rd) (z8Z hk hd hn) fun t H2 s2 I2 sm2 kk=>?_))
  obtain⟨p1,p2⟩:=kk D _ o1 d1 gD
  obtain⟨p3,p4⟩:=kk kS _ o2 d2 gS
  try dsimp only
  have sb:=Heap.SameBut.update s2.heap kS (Obj.mapSeq (·.push (.int n t)))
  have g2:=get?_update_seq p3 (·.push (.int n t))
  have ek:ks.take (j+1)=ks.take j++[n]:=by rw[List.take_add_one,hn];simp
  have ea:(kA.push (Value.int n t)).toList=kA.toList++[Value.int n t]:=by simp
  refine wpAny_bind (listUpdate_at p3 rfl ?_ (by rw[sizeLine_eq];omega) (Nat.le_trans (Nat.le_of_eq (Array.size_push ..)) (by rw[sizeLine_eq];omega)))
  have fS2:FpOk X pins H2 kS:=⟨p4,fS.2⟩
  refine wpAny_pure ⟨rfl,H2,kA.push (.int n t),_,I2.turnedL (t':=s2.toks) (ch:=[kS]) (fun b o hb e=>(sb.2 b (by simpa using hb)).trans e) (fun b hb=>by rw[List.mem_singleton.mp hb];exact fS2),sm.trans sm2,p2,p4,(sb.2 D (Ne.symm nDS)).trans p1,g2,by rw[ea,ek];exact ksk_snoc hka⟩
 case done =>
  rintro s' ⟨H1,kA,e,I1,sm,d1,d2,o1,o2,hka⟩
  have hk':IntsAre kA.toList ks:=by
    rw[List.take_of_length_le (by omega)]at hka
    exact hka
  try dsimp only
  refine wpAny_bind (listItems_at o2 rfl ?_)
  obtain⟨m,hfr⟩:=I1.fr
  have fD1:FpOk X pins H1 D:=⟨d1,fD.2⟩
  have fS1:FpOk X pins H1 kS:=⟨d2,fS.2⟩
  have bD:X.base.get? D=none:=Heap.get?_none_of_le (Nat.le_trans I.ok.bsz sD)
  have bS:X.base.get? kS=none:=Heap.get?_none_of_le (Nat.le_trans I.ok.bsz sS)
  refine ksk_end_ (e:=e) (news:=z8Y X.base X.env.locals kS D s'.heap) hfr (fun z hz=>?_) nDS (fun z hz=>(z7b hz).2.2.2.1) (fun z hz=>(z7b hz).2.2.2.2) hk' (by omega) (by omega) fun h' tk out c F' N' ko=>?_
  · rcases List.mem_append.mp hz with hz|hz
    · obtain⟨z1,z2,z3,_⟩:=z7b hz
      exact⟨z1,z3,z2⟩
    · rcases List.mem_cons.mp hz with rfl|hz
      · exact⟨o2,fS1.2.1,bS⟩
      · rw[List.mem_singleton.mp hz]
        exact⟨o1,fD1.2.1,bD⟩
  · have nd:=N' (D,seqObj "list" out c) List.mem_cons_self
    refine q H1 _ out.toList c (I1.turnedN (t':=tk) (ch:=[kS,D]) hfr.ns F'.ns (by obtain⟨o,_,_,e,_⟩:=F'.ns;exact⟨o,e⟩) (fun b o hb hl eb=>?_) (fun b hb=>?_)) sm d1 nd.1 ko
    · have hb2:b≠kS∧b≠D:=by simpa using hb
      cases z:X.base.get? b with
      | some o' =>
        have e2:=I1.bk b o' z
        rw[eb]at e2
        cases e2
        exact F'.keep b _ z
      | none=>exact(N' _ (List.mem_cons_of_mem _ (ze eb z hl hb2.1 hb2.2))).1
    · rcases List.mem_cons.mp hb with rfl|hb
      · exact fS1
      · rw[List.mem_singleton.mp hb];exact fD1
theorem zjc{D:Addr}{n0:Nat}{its:List Value}{P:PySem.Fin→Shared→Prop}{E:Value→Shared→Prop}(F:FnOk X.prog X.w X.K X.mg X.base CX0 k f fd [p] (spc X.K fr ct))(hr:Room (k+2) X.A)(hb:Binds X.K fd [p] [])(I:Inv X pins σ H s)(rv:Vals vs its)(rs:Rps X.K emp ds H vs)(hk:z2p ct ds=some ks)(h64:ds.length<64)
  (hD:s.heap.get? D=some (seqObj "list" its.toArray n0)) (fD:FpOk X pins H D) (gD:D ∉ frs X.stack) (sD:X.s₀.heap.objs.size≤D)
  (q:∀ H2 s2 (out:List Value) c,Inv X pins σ H2 s2→Same H H2→H2 D=none→s2.heap.get? D=some (seqObj "list" out.toArray c)→KskOut false ks its out→P (.done (.ret .none)) s2) :
  wpAny (model X.prog X.w) X.A.in1.in1 (ksk_tree D (.ref f) false) P E s:=by
 have l1:=rs.length
 have l2:=rv.length
 have hlt:D<s.heap.objs.size:=Heap.lt_size hD
 unfold ksk_tree
 refine wpAny_bind (listItems_at hD rfl ?_)
 have sb:=Heap.SameBut.update s.heap D (Obj.mapSeq fun _=>(#[]:Array Value))
 have o1:=get?_update_seq hD fun _=>(#[]:Array Value)
 refine wpAny_bind (listUpdate_at hD rfl ?_ (by rw[List.size_toArray,sizeLine_eq];omega) (Nat.zero_le _))
 have I1:Inv X pins σ H { s with heap:=s.heap.update D (Obj.mapSeq fun _=>(#[]:Array Value)) }:=I.turnedL (t':=s.toks) (ch:=[D]) (fun b o hb e=>(sb.2 b (by simpa using hb)).trans e) (fun b hb=>by rw[List.mem_singleton.mp hb];exact fD)
 refine wpAny_bind (seqEpoch_at o1 rfl ?_)
 refine wpAny_bind (wpAny_newTuple ?_ (by show its.length≤_;rw[sizeLine_eq];omega))
 refine wpAny_bind (wpAny_newList ?_ (Nat.zero_le _))
 refine wpAny_holding ?_
 generalize hg:s.heap.update D (Obj.mapSeq fun _=>(#[]:Array Value))=g at *
 have zg:g.objs.size=s.heap.objs.size:=sb.1
 have I2:Inv X pins σ H { s with heap:=(g.push (seqObj "tuple" its.toArray 0)).push (seqObj "list" #[] 0) }:=I1.kept (t':=s.toks) fun b o e=>Heap.get?_push_of_some _ (Heap.get?_push_of_some _ e)
 have zk:(g.push (seqObj "tuple" its.toArray 0)).objs.size=g.objs.size+1:=size_push' _ _
 have ge:s.heap.objs.size≤(g.push (seqObj "tuple" its.toArray 0)).objs.size:=by omega
 refine zjb (s:={ s with heap:=(g.push (seqObj "tuple" its.toArray 0)).push (seqObj "list" #[] 0) }) (kS:=(g.push (seqObj "tuple" its.toArray 0)).objs.size) F hr hb I2 rv rs hk h64 (Heap.get?_push_of_some _ (Heap.get?_push_of_some _ o1)) (Heap.get?_push_size _ rfl) (Nat.ne_of_gt (Nat.lt_of_lt_of_le hlt ge)) fD (I.fpOk ge (I.hok.fresh ge)) gD (fun z=>?_) sD (Nat.le_trans I.sz ge) q
 exact absurd (Nat.lt_of_lt_of_le (zkp I z) ge) (Nat.lt_irrefl _)
theorem ze0(F:FnOk X.prog X.w X.K X.mg X.base CX0 k f fd [p] (spc X.K fr ct))(hr:Room (k+2) X.A)(hb:Binds X.K fd [p] [])(I:Inv X pins σ H s)(hl:H l=some (.lst vs))(rs:Rps X.K emp ds H vs)(hk:z2p ct ds=some ks)(h64:ds.length<64)(nd:ks.Nodup)
  (q:∀ D H2 ys,Same H H2→H2 D=none→Rps X.K emp ((z2G (ks.zip ds)).map (·.2)) H2 ys→Q (.ref D) (upd H2 D (.lst ys))) :
  wpAny (model X.prog X.w) X.A (call (.builtin "sorted") [.ref l] [(Str.ofString "key",.ref f)]) (EP X pins σ Q) X.xe s:=by
 obtain⟨its,rv,pl,hz⟩:=I.list (SqL.of (K:=X.K) hl)
 have l1:=rs.length
 have l2:=rv.length
 have l3:=z62 hk
 refine call_function_entry_kw kind_sorted plain_sorted entry_sorted (ksk_s1 _ _) ?_
 unfold Builtin.«sorted»
 refine wpAny_bind (m:=checkCount "sorted" 1 1 _) (wpAny_pure ?_)
 refine wpAny_bind (collect_list pl.isList ?_ (by rw[sizeLine_eq];omega))
 refine wpAny_bind (wpAny_newList ?_ (by rw[sizeLine_eq];omega))
 generalize hg:(s.heap.push (seqObj "list" #[] 0)).update s.heap.objs.size (Obj.mapSeq (·++its.toArray))=g
 have zg:g.objs.size=s.heap.objs.size+1:=by rw[←hg,Heap.size_update,size_push']
 have kg:∀ b o,s.heap.get? b=some o→g.get? b=some o:=fun b o e=>by
  have hlt:=Heap.lt_size e
  rw[←hg,Heap.get?_update_ne _ _ _ _ (Nat.ne_of_lt hlt),Heap.get?_push_ne _ _ _ (Nat.ne_of_lt hlt)]
  exact e
 have I1:Inv X pins σ H { s with heap:=g.push (seqObj "list" its.toArray 0) }:=I.kept (t':=s.toks) fun b o e=>Heap.get?_push_of_some _ (kg b o e)
 have oD:(g.push (seqObj "list" its.toArray 0)).get? g.objs.size=some (seqObj "list" its.toArray 0):=Heap.get?_push_size _ rfl
 have ge:s.heap.objs.size≤g.objs.size:=by omega
 refine wpAny_bind (wpAny_holding (wpAny_call_entry_kw slot_list_sort ⟨_,oD,rfl⟩ entry_list_sort ?body (ksk_l1 _ _)))
 case body =>
  show wpAny (model X.prog X.w) X.A.in1.in1 (Builtin.«list.sort» ⟨[.ref g.objs.size],[(Str.ofString "key",.ref f)]⟩) _ _ _
  rw[ksk_t1]
  refine zjc (s:={ s with heap:=g.push (seqObj "list" its.toArray 0) }) F hr hb I1 rv rs hk h64 oD (I.fpOk ge (I.hok.fresh ge)) (fun z=>absurd (Nat.lt_of_lt_of_le (zkp I z) ge) (Nat.lt_irrefl _)) (Nat.le_trans I.sz ge) fun H2 s2 out c I2 sm d2 o2 ⟨ps,pp,eo,so⟩=>⟨_,rfl,?_⟩
  refine wpAny_pure ⟨_,rfl,?_⟩
  have key:∃ ts:List (Int×(Dt×(V×Value))),(ts.map fun t=>(t.1,t.2.2.2))=ps∧(ts.map fun t=>(t.1,t.2.1))=z2G (ks.zip ds)∧∀ t∈ts,Rp X.K emp t.2.1 H t.2.2.1∧RelV t.2.2.1 t.2.2.2:=by
   refine⟨z2G (ks.zip (ds.zip (vs.zip its))),?_,?_,fun t ht=>?_⟩
   · have e1:ks.zip its=(ks.zip (ds.zip (vs.zip its))).map fun t=>(t.1,t.2.2.2):=by
      apply List.ext_getElem
      · simp;omega
      · intro i h1 h2;simp
     rw[←z5x (fun z:Dt×(V×Value)=>z.2.2),←e1]
     refine z8X ((z1U _).trans pp.symm) (z4n _) (so.imp fun h=>by simpa using h) ?_
     have:((z2G (ks.zip its)).map (·.1)).Perm ks:=((z1U (ks.zip its)).map _).trans (by rw[List.map_fst_zip (by omega)])
     exact this.nodup_iff.mpr nd
   · have e1:ks.zip ds=(ks.zip (ds.zip (vs.zip its))).map fun t=>(t.1,t.2.1):=by
      apply List.ext_getElem
      · simp;omega
      · intro i h1 h2;simp
     rw[←z5x (fun z:Dt×(V×Value)=>z.1),←e1]
   · have ht:=(z1U _).mem_iff.mp ht
     obtain⟨i,hi,e⟩:=List.getElem_of_mem ht
     simp at hi
     subst e
     simp only[List.getElem_zip]
     obtain⟨v,e1,r1⟩:=rs.get (i:=i) (List.getElem?_eq_getElem (by omega))
     obtain⟨u,e2,r2⟩:=rv.get e1
     rw[List.getElem?_eq_getElem (by omega)]at e1 e2
     cases e1;cases e2
     exact⟨r1,r2⟩
  obtain⟨ts,k1,k2,k3⟩:=key
  have ev:Vals (ts.map fun t=>t.2.2.1) out:=by
   rw[eo,←k1,List.map_map]
   clear k1 k2 eo
   induction ts with
   | nil=>exact .nil
   | cons t ts ih=>exact .cons (k3 t List.mem_cons_self).2 (ih fun z hz=>k3 z (List.mem_cons_of_mem _ hz))
  have er:Rps X.K emp ((z2G (ks.zip ds)).map (·.2)) H (ts.map fun t=>t.2.2.1):=by
   rw[←k2,List.map_map]
   clear k1 k2 eo ev
   induction ts with
   | nil=>exact Rps.nil_.mpr rfl
   | cons t ts ih=>exact Rps.cons_.mpr ⟨_,_,rfl,(k3 t List.mem_cons_self).1,ih fun z hz=>k3 z (List.mem_cons_of_mem _ hz)⟩
  have lt:(ts.map fun t=>t.2.2.1).length≤sizeLine:=by
   rw[List.length_map,←List.length_map (f:=fun t:Int×(Dt×(V×Value))=>(t.1,t.2.1)),k2,(z1U _).length_eq,List.length_zip,sizeLine_eq];omega
  exact⟨.ref g.objs.size,_,I2.track d2 ⟨d2,(I.fpOk ge (I.hok.fresh (H:=H) ge)).2⟩ (Nat.le_trans I.sz ge) (by simpa using o2) ev lt,rfl,q _ _ _ sm d2 (Rps.mono _ sm er)⟩
end
section
variable {X:Cx}{a:Expr}{Fa:FE}{k:Nat}{f:Addr}{fd:FuncData}{prm:Str}{fr:Bool}{ct:FC}{x:Str}{p pos kp kpos:Pos}
def z63(c:FC)(F:FE):FE:=fun ρ=>(F ρ).bind fun x=>(lstD x.2).bind fun ds=>(z2p c ds).bind fun ks=>if ds.length<64∧ks.Nodup then some (newL ((z2G (ks.zip ds)).map (·.2))) else none
theorem znZ(F:FnOk X.prog X.w X.K X.mg X.base CX0 k f fd [prm] (spc X.K fr ct))(hr:Room (k+2) X.A)(hg:Gl X "sorted")(hm:X.mg "sorted" = none)(hf:X.mg x=some (.ref f))(hgf:Gl X x)(hb:Binds X.K fd [prm] [])(ha:PF X a Fa)(hd:(x==("__debug__" : Str))=false:=by decide)(hs:starEach [a] X.env=[(false,eval a X.env)]:=by rfl):
   PF X (.Call (.Name "sorted" p) [a] [⟨some "key",.Name x kp,kpos⟩] pos) (z63 ct Fa):=by
 intro pins s σ H Q I ⟨ρ,fz,dz,rs,e0,kk⟩
 obtain⟨⟨fa,da⟩,ea,e1⟩:=z05 e0
 obtain⟨ds,ed,e2⟩:=z05 e1
 obtain⟨ks,ek,e3⟩:=z05 e2
 split at e3
 · rename_i hh
   cases e3
   have hA:PA X [a] (upAs X (z01 Fa fNil)):=z03 ha z07 hs
   refine wpAny_Call_Name_kw (z4b I hg hm (by decide +kernel:bootBuiltins "sorted" = some (.builtin "sorted")) ?_)
   refine PyProof.Rows.callWith_kw (thn (hA pos pins s σ H (fun vs H1=>Same H H1∧∃ va,vs=[va]∧Rp X.K emp da H1 va) I ⟨ρ,[(fa,da)],rs,by simp[z01,fNil,ea],fun vs H1 s1 ⟨va,r1,ee1,q1,q3⟩=>⟨s1,va,by rw[ee1,show r1=[]from q3],q1.sh⟩⟩) fun us s1 ⟨vs,H1,I1,rv,s1H,va,ev,ra⟩=>?_) (by rw[hs];rfl) (by rw[hs];rfl) rfl rfl
   subst ev
   obtain⟨ua,rfl,rua⟩:=rv.one
   have hkw:=zhS (X:=X) (nm:=some "key") (kpos:=kpos) (zhP (v:=V.ref f) (pos:=kp) hgf hf rfl hd) zjO
   refine thn (hkw pos pins s1 σ H1 (fun zs H2=>zs=[.ref f]∧H2=H1) I1 ⟨rfl,rfl⟩) ?_
   rintro kvs s2 ⟨zs,H2,I2,rz,ez,eH⟩
   subst ez;subst eH
   obtain⟨uk,rfl,ruk⟩:=rz.one
   cases ruk
   have ex:∃ l vs,va = .ref l∧H2 l=some (.lst vs)∧Rps X.K emp ds H2 vs:=by
    cases da<;>first|cases ed|skip
    obtain⟨l,vs,e,_,h1,h2⟩:=ra.items
    exact⟨l,vs,e,h1,h2⟩
   obtain⟨l,vs,rfl,h1,h2⟩:=ex
   cases rua
   refine ze0 F hr hb I2 h1 h2 ek hh.1 hh.2 fun D H3 ys sm d3 r3=>kk _ _ (s1H.trans (sm.trans (z1m d3))) ?_
   exact(z6n d3 r3).early (s1H.trans sm)
 · cases e3
end
end L2

end
section
set_option linter.all false
set_option maxRecDepth 100000
namespace L2
open PySem
abbrev L(ns:List Int):Dt := .lst (ns.map .int)
abbrev T(ns:List Int):Dt := .tup (ns.map .int)
theorem z0n{α β:Type}{a:α}{f:α→Option β}:(some a).bind f=f a:=rfl
theorem zi4{α:Type}{xs:List α}{i:Int}(h0:0≤i):atI xs i=xs[i.toNat]?:=by
 unfold atI ixN
 rw[if_pos h0]
 by_cases h:i<xs.length
 · rw[if_pos h];rfl
 · rw[if_neg h,List.getElem?_eq_none (by omega)];rfl
theorem atI_c0{α:Type}{x:α}{xs:List α}:atI (x::xs) 0=some x:=z4e (j:=0) rfl
theorem atI_c1{α:Type}{x y:α}{xs:List α}:atI (x::y::xs) 1=some y:=z4e (j:=1) rfl
theorem atI_c2{α:Type}{x y z:α}{xs:List α}:atI (x::y::z::xs) 2=some z:=z4e (j:=2) rfl
theorem z3g:∀ ns:List Int,z1x (ns.map Dt.int)=true
 | []=>rfl
 | n::ns=>by rw[List.map_cons,z1x,z3g ns];rfl
theorem zaw:∀(k:Nat) (ns:List Int),oksN k (ns.map Dt.int)=true
 | k,[]=>by cases k<;>rfl
 | k,n::ns=>by rw[List.map_cons,oksN,zaw k ns];cases k<;>rfl
theorem zcF:∀ ns:List Int,pys (ns.map Dt.int)=ns.map PyData.int
 | []=>rfl
 | n::ns=>by rw[List.map_cons,pys,zcF ns];rfl
theorem z7Z:∀ ns ms:List Int,PyData.eqvAll (ns.map PyData.int) (ms.map PyData.int)=decide (ns=ms)
 | [],[]=>by simp[PyData.eqvAll]
 | [],m::ms=>by simp[PyData.eqvAll]
 | n::ns,[]=>by simp[PyData.eqvAll]
 | n::ns,m::ms=>by
  rw[List.map_cons,List.map_cons,PyData.eqvAll,z7Z ns ms,PyData.eqv,Bool.eq_iff_iff]
  simp
theorem zo0(ns:List Int):(Dt.scr ns).okN 8=true:=by simp[Dt.okN]
theorem zcG(ns ms:List Int):opEq (.scr ns) (L ms)=some (.nw,.bl (decide (ns=ms))):=by
 unfold opEq
 rw[zo0]
 unfold L
 rw[Dt.okN,zaw]
 unfold eqD
 rw[Dt.py,Dt.py,zcF,PyData.eqv,z7Z]
 rfl
theorem z0C(i j:Int):opEq (.int i) (.int j)=some (.nw,.bl (decide (i=j))):=by
 unfold opEq eqD
 rw[Dt.py,Dt.py,PyData.eqv,Bool.beq_eq_decide_eq]
 rfl
theorem z15(i j:Int):opNe (.int i) (.int j)=some (.nw,.bl (!decide (i=j))):=by
 unfold opNe eqD
 rw[Dt.py,Dt.py,PyData.eqv,Bool.beq_eq_decide_eq]
 rfl
theorem z80{i j:Int}(h:j.natAbs<2 ^ 64):z17 i j=true:=by unfold z17;rw[decide_eq_true h];simp
theorem z2W{i j:Int}(h:i.natAbs<2 ^ 64):z17 i j=true:=by unfold z17;rw[decide_eq_true h];simp
section
variable (i j:Int)
end
def z0g(ns:List Int)(k:Int):Int:=if k<ns.length then ns.getD k.toNat 0 else if ns=[] then 0 else ns.getD (k.fmod ns.length).toNat 0*31+k
end L2

end
section
set_option linter.all false
set_option maxRecDepth 100000
namespace L2
open PySem
section
variable {α β γ:Type}{g:Tg}{Fc:FT}{Fe:FE}{ρ0:Rho}
theorem z7c(e:α→Dt)(h:α→Dv):∀(xs:List α),(∀ x∈xs,(g.put (e x) ρ0).bind Fe=some (h x))→z4L g fYes Fe ρ0 (xs.map e)=some (xs.map h)
 | [],_=>rfl
 | x::xs,q=>by
  have q1:=q x List.mem_cons_self
  have ih:=z7c e h xs fun y hy=>q y (List.mem_cons_of_mem _ hy)
  rw[List.map_cons,z4L]
  cases p:g.put (e x) ρ0 with
  | none=>rw[p]at q1;cases q1
  | some ρ1 =>
   rw[p]at q1
   have q1:Fe ρ1=some (h x):=q1
   simp[fYes,q1,ih]
theorem z4o(e:α→Dt)(h:α→Dv)(p:α→Bool):∀(xs:List α),(∀ x∈xs,(g.put (e x) ρ0).bind Fc=some (p x))→(∀ x∈xs,p x=true→(g.put (e x) ρ0).bind Fe=some (h x))→z4L g Fc Fe ρ0 (xs.map e)=some ((xs.filter p).map h)
 | [],_,_=>rfl
 | x::xs,q,q'=>by
  have q1:=q x List.mem_cons_self
  have q2:=q' x List.mem_cons_self
  have ih:=z4o e h p xs (fun y hy=>q y (List.mem_cons_of_mem _ hy)) (fun y hy=>q' y (List.mem_cons_of_mem _ hy))
  rw[List.map_cons,z4L]
  cases z:g.put (e x) ρ0 with
  | none=>rw[z]at q1;cases q1
  | some ρ1 =>
   rw[z]at q1 q2
   have q1:Fc ρ1=some (p x):=q1
   cases w:p x with
   | true =>
    have q2:Fe ρ1=some (h x):=q2 w
    simp[q1,w,q2,ih]
   | false=>simp[q1,w,ih]
theorem z4P(h:α→Dv):∀ xs:List α,sndL (xs.map h)=xs.map fun x=>(h x).2
 | []=>rfl
 | x::xs=>by rw[List.map_cons,sndL,z4P h xs];rfl
theorem z7d{h:α→Dv}:∀{xs:List α},(∀ x∈xs,(h x).1.isFr=true)→z2T (xs.map h)=true
 | [],_=>rfl
 | x::xs,q=>by rw[List.map_cons,z2T,q x List.mem_cons_self,z7d fun y hy=>q y (List.mem_cons_of_mem _ hy)];rfl
theorem z0j{nt:Nat}{js:List Nat}{Fi:FI}{ρ:Rho}{e:α→Dt}{h:α→Dt}{xs:List α}(hi:Fi ρ=some (xs.map e))(q:∀ x∈xs,(g.put (e x) (sigD nt js ρ)).bind Fe=some (.nw,h x)):z0e nt js Fi g fYes Fe ρ=some (.nw,.lst (xs.map h)):=by
 unfold z0e
 rw[hi,z0n,z7c e (fun x=>(.nw,h x)) xs q,z0n,z7d (fun x _=>rfl),z4P]
 rfl
theorem z6s{nt:Nat}{js:List Nat}{Fi:FI}{ρ:Rho}{e:α→Dt}{h:α→Dt}{p:α→Bool}{xs:List α}(hi:Fi ρ=some (xs.map e))(q:∀ x∈xs,(g.put (e x) (sigD nt js ρ)).bind Fc=some (p x))(q':∀ x∈xs,p x=true→(g.put (e x) (sigD nt js ρ)).bind Fe=some (.nw,h x)):
  z0e nt js Fi g Fc Fe ρ=some (.nw,.lst ((xs.filter p).map h)):=by
 unfold z0e
 rw[hi,z0n,z4o e (fun x=>(.nw,h x)) p xs q q',z0n,z7d (fun x _=>rfl),z4P]
 rfl
theorem z9{nt:Nat}{js:List Nat}{Fi:FI}{ρ:Rho}{e:α→Dt}{h:α→Dv}{xs:List α}(hi:Fi ρ=some (xs.map e))(q:∀ x∈xs,(g.put (e x) (sigD nt js ρ)).bind Fe=some (h x)):z0e nt js Fi g fYes Fe ρ=some (if z2T (xs.map h) then .nw else .tn,.lst (xs.map fun x=>(h x).2)):=by
 unfold z0e
 rw[hi,z0n,z7c e h xs q,z0n,z4P]
variable {F:FS}
def nextO(G:FS):Oc→Option Oc
 | .nx ρ=>G ρ
 | .ct ρ=>G ρ
 | .bk ρ=>some (.nx ρ)
 | .rt f d=>some (.rt f d)
theorem zkq{ρ:Rho}:forF g F [] ρ=some (.nx ρ):=rfl
theorem z1a{x:Dt}{xs:List Dt}{ρ:Rho}:forF g F (x::xs) ρ=((g.put x ρ).bind F).bind (nextO (forF g F xs)):=by
 rw[forF]
 cases g.put x ρ with
 | none=>rfl
 | some ρ1 =>
  show(F ρ1).bind _=(F ρ1).bind _
  congr 1
  first|done|(funext oc;cases oc<;>rfl)
theorem z3T(e:α→Dt)(R:β→γ→Rho)(step:β→α→β):∀(xs:List α) (b:β) (j:γ),(∀ b x j,x∈xs→∃ j',(g.put (e x) (R b j)).bind F=some (.nx (R (step b x) j')))→∃ j',forF g F (xs.map e) (R b j)=some (.nx (R (xs.foldl step b) j'))
 | [],b,j,_=>⟨j,rfl⟩
 | x::xs,b,j,h=>by
  obtain⟨j1,h1⟩:=h b x j List.mem_cons_self
  obtain⟨j2,h2⟩:=z3T e R step xs (step b x) j1 fun b y j hy=>h b y j (List.mem_cons_of_mem _ hy)
  refine⟨j2,?_⟩
  rw[List.map_cons,z1a,h1]
  exact h2
theorem z90(e:α→Dt)(R:β→γ→Rho)(step:β→α→β)(P:β→Prop):∀(xs:List α) (b:β) (j:γ),P b→(∀ b x j,x∈xs→P b→P (step b x)∧∃ j',(g.put (e x) (R b j)).bind F=some (.nx (R (step b x) j')))→P (xs.foldl step b)∧∃ j',forF g F (xs.map e) (R b j)=some (.nx (R (xs.foldl step b) j'))
 | [],b,j,p,_=>⟨p,j,rfl⟩
 | x::xs,b,j,p,h=>by
  obtain⟨p1,j1,h1⟩:=h b x j List.mem_cons_self p
  obtain⟨p2,j2,h2⟩:=z90 e R step P xs (step b x) j1 p1 fun b y j hy=>h b y j (List.mem_cons_of_mem _ hy)
  refine⟨p2,j2,?_⟩
  rw[List.map_cons,z1a,h1]
  exact h2
end
abbrev LL(rows:List (List Int)):Dt := .lst (rows.map L)
abbrev TTu(rows:List (List Int)):Dt := .tup (rows.map T)
abbrev z0t(k:Int)(bills:List (List Int)):Dt := .tup [.int k,TTu bills]
theorem zkr(ns:List Int):(T ns).flat=true:=by show z1x _=true;exact z3g ns
theorem zax:∀ rows:List (List Int),z1x (rows.map T)=true
 | []=>rfl
 | r::rows=>by rw[List.map_cons,z1x,zkr,zax rows];rfl
theorem zo1(f:Fl)(i:Int):nrm f (.int i)=(.nw,.int i):=rfl
theorem nrm_T(f:Fl)(ns:List Int):nrm f (T ns)=(.nw,T ns):=by unfold nrm;rw[zkr];rfl
theorem zks(ns:List Int):lfl (ns.map .int) = .nw:=by unfold lfl;rw[z3g];rfl
theorem z2q(ns:List Int):newL (ns.map .int)=(.nw,L ns):=by unfold newL;rw[zks]
theorem z3U{α:Type}(h:α→Bool):∀ xs:List α,z5V (xs.map fun x => .bl (h x))=some (xs.map h)
 | []=>rfl
 | x::xs=>by rw[List.map_cons,z5V,z3U h xs];rfl
theorem z81:∀ xs:List Int,z4l (xs.map .int)=some xs
 | []=>rfl
 | x::xs=>by rw[List.map_cons,z4l,z81 xs];rfl
theorem z4Q{α β:Type}(e:α→Dt)(f:β→Dt):∀(xs:List α) (ys:List β),zipD (xs.map e) (ys.map f)=(xs.zip ys).map fun p => .tup [e p.1,f p.2]
 | [],ys=>by simp[zipD]
 | x::xs,[]=>by simp[zipD]
 | x::xs,y::ys=>by rw[List.map_cons,List.map_cons,zipD,z4Q e f xs ys];rfl
theorem z0M(lo:Int)(n:Nat):z1Q lo n=(List.range n).map fun(k:Nat) => .int (lo+(k:Int)):=rfl
theorem z0U(c:Int){m:Int}(h:0<m):0≤c.fmod m∧c.fmod m<m:=⟨Int.fmod_nonneg_of_pos c h,Int.fmod_lt_of_pos c h⟩
def zay(c m:Int):Int :=
 if m=2 then(if((c.fdiv (10 ^ 30)).fmod 2)=1 then -(c.fmod (10 ^ 30)) else c.fmod (10 ^ 30))
 else
  let wide:Int:=if m=0 then 9 else 61
  let n:=c.fmod wide
  if wide.fdiv 2<n then n-wide else n
theorem zkt(c m:Int):(zay c m).natAbs<10 ^ 30:=by
 unfold zay
 have a1:=Int.fmod_nonneg_of_pos c (show(0:Int)<10 ^ 30 by decide)
 have a2:=Int.fmod_lt_of_pos c (show(0:Int)<10 ^ 30 by decide)
 dsimp only
 split
 · split<;>omega
 · have hw:(if m=0 then(9:Int) else 61)=9∨(if m=0 then(9:Int) else 61)=61:=by split<;>simp
   generalize (if m=0 then(9:Int) else 61)=wide at *
   have b1:=Int.fmod_nonneg_of_pos c (show(0:Int)<wide by omega)
   have b2:=Int.fmod_lt_of_pos c (show(0:Int)<wide by omega)
   split<;>omega
def z3w(ns:List Int)(at_:Int)(n:Nat)(m:Int):List Int:=(List.range n).map fun(k:Nat)=>zay (z0g ns (at_+(k:Int))) m
theorem z3V(ns:List Int)(a:Int)(n:Nat)(m:Int):(z3w ns a n m).length=n:=by unfold z3w;simp
def z16(ns:List Int):Int:=if(z0g ns 3).fmod 7=6 then 0 else if(z0g ns 2).fmod 5<3 then 0 else if(z0g ns 2).fmod 5=3 then 1 else 2
def z64(ns:List Int):Int:=if(z0g ns 3).fmod 7=6 then 6 else 1+(z0g ns 0).fmod 4
def z91(ns:List Int):Int:=if(z0g ns 3).fmod 7=6 then 8 else(z0g ns 1).fmod 5
def z1k(ns:List Int):Nat:=(if z16 ns=2 then 1+(z64 ns).fmod 2 else z64 ns).toNat
def z3K(ns:List Int):Nat:=(if z16 ns=2 then(z91 ns).fmod 4 else z91 ns).toNat
def z28(ns:List Int):List (List Int):=(List.range (z3K ns)).map fun(k:Nat)=>z3w ns (8+(z1k ns:Int)*(k:Int)) (z1k ns) (z16 ns)
theorem z65(ns:List Int):1≤z1k ns∧z1k ns≤6:=by
 have h1:=z0U (z0g ns 0) (show(0:Int)<4 by decide)
 have h2:=z0U (z64 ns) (show(0:Int)<2 by decide)
 unfold z1k
 split
 · omega
 · unfold z64;split<;>omega
theorem zaz(ns:List Int):z3K ns≤8:=by
 have h1:=z0U (z0g ns 1) (show(0:Int)<5 by decide)
 have h2:=z0U (z91 ns) (show(0:Int)<4 by decide)
 unfold z3K
 split
 · omega
 · unfold z91;split<;>omega
theorem zbM(ns:List Int):z16 ns=0∨z16 ns=1∨z16 ns=2:=by
 unfold z16
 split
 · simp
 · split
   · simp
   · split<;>simp
end L2

end
section
local macro_rules|`(tactic| omega)=>`(tactic| first|lia|omega +splitDisjunctions)
set_option linter.all false
set_option maxRecDepth 100000
namespace L2
open PySem
def addR(a b:List Int):List Int:=List.zipWith (·+·) a b
def subR(a b:List Int):List Int:=List.zipWith (· - ·) a b
def sclR(k:Int)(a:List Int):List Int:=a.map (k*·)
def z29(n:Nat):List Int:=List.replicate n 0
def mixR(n:Nat)(rows:List (List Int))(cs:List Int):List Int:=(rows.zip cs).foldl (fun t p=>addR t (sclR p.2 p.1)) (z29 n)
def isWh:Dt→Bool
 | .int _=>true
 | _=>false
theorem z1R{a b:List Int}(h:a.length=b.length):(addR a b).length=a.length:=by unfold addR;rw[List.length_zipWith];omega
theorem zcH{a b:List Int}(h:a.length=b.length):(subR a b).length=a.length:=by unfold subR;rw[List.length_zipWith];omega
theorem z0z{k:Int}{a:List Int}:(sclR k a).length=a.length:=by unfold sclR;simp
theorem z1M{n:Nat}:(z29 n).length=n:=by unfold z29;simp
theorem z1V{i j:Int}{p q:Nat}(h1:i.natAbs<2 ^ p)(h2:j.natAbs<2 ^ q)(h:p+q≤134217728):z17 i j=true:=by
 unfold z17
 have a:=zbF h1
 have b:=zbF h2
 rw[decide_eq_true (show Builtin.Int.intBits i+Builtin.Int.intBits j≤134217728 by omega)]
 rfl
theorem lt30{i:Int}(h:i.natAbs<10 ^ 30):i.natAbs<2 ^ 100:=Nat.lt_of_lt_of_le h (by decide)
theorem zku(a b:List Int):(a.zip b).map (fun p=>Dt.int (p.1+p.2))=(addR a b).map .int:=by
 unfold addR
 rw[List.zip,]
 induction a generalizing b with
 | nil=>rfl
 | cons x a ih=>cases b with
  | nil=>rfl
  | cons y b=>have:=ih b;simp[List.zipWith]
theorem zjd(a b:List Int):(a.zip b).map (fun p=>Dt.int (p.1-p.2))=(subR a b).map .int:=by
 unfold subR
 rw[List.zip,]
 induction a generalizing b with
 | nil=>rfl
 | cons x a ih=>cases b with
  | nil=>rfl
  | cons y b=>have:=ih b;simp[List.zipWith]
theorem z3h{α β:Type}(g:α→β)(xs:List α)(i:Int):atI (xs.map g) i=(atI xs i).map g:=by
 unfold atI
 rw[List.length_map]
 cases ixN xs.length i with
 | none=>rfl
 | some j=>show(xs.map g)[j]?=_;rw[List.getElem?_map];rfl
theorem zkv{α:Type}{xs:List α}{i:Nat}(h:i<xs.length):atI xs (i:Int)=some xs[i]:=z4e (List.getElem?_eq_getElem h)
def Wide(n:Nat)(rows:List (List Int)):Prop:=∀ r∈rows,r.length=n
theorem zcI{n:Nat}:∀(ps:List (List Int×Int)) (t:List Int),t.length=n→(∀ p∈ps,p.1.length=n)→(ps.foldl (fun t p=>addR t (sclR p.2 p.1)) t).length=n
 | [],t,h,_=>h
 | p::ps,t,h,q=>zcI ps _ (by rw[z1R (by rw[h,z0z,q p List.mem_cons_self])];exact h) fun p hp=>q p (List.mem_cons_of_mem _ hp)
theorem zcJ{n:Nat}{rows:List (List Int)}{cs:List Int}(h:Wide n rows):(mixR n rows cs).length=n :=
 zcI _ _ z1M fun p hp=>h _ (List.of_mem_zip hp).1
theorem zje(a b:List Int)(h:a.length=b.length)(f:Int→Int→Int):(List.range a.length).map (fun k=>f (a.getD k 0) (b.getD k 0))=List.zipWith f a b:=by
 apply List.ext_getElem
 · simp;omega
 · intro i h1 h2
   simp at h1
   simp[List.getD,List.getElem?_eq_getElem h1,List.getElem?_eq_getElem (show i<b.length by omega)]
theorem zkw(d:Dt):nrm .nw d=(.nw,d):=by unfold nrm;split<;>rfl
theorem run{F G:FS}{ρ ρ':Rho}{r:Option Oc}(h:F ρ=some (.nx ρ'))(k:G ρ'=r):sSeq F G ρ=r:=by
 unfold sSeq
 rw[h]
 exact k
theorem z3x{np n:Nat}{fr:Bool}{F:FS}{ds:List Dt}{f:Fl}{d:Dt}(hl:ds.length=np)(h:F (rho0 n ds)=some (.rt f d))(hf:(f.isFr||d.flat)=true):cOf np n fr F ds=some d:=by
 unfold cOf
 rw[if_pos hl,h]
 show(if(fr&&!(f.isFr||d.flat))=true then none else some d)=some d
 rw[hf]
 cases fr<;>rfl
theorem z4p{n:Nat}(h:n≤1000000):z3c (n:Int)=true:=by
 unfold z3c
 rw[decide_eq_true (show -1000000≤(n:Int) by omega),decide_eq_true (show(n:Int)≤1000000 by omega)]
 rfl
theorem zjf(rows:List (List Int))(cs:List Int)(h:rows.length=cs.length):(List.range rows.length).map (fun j=>(rows.getD j [],cs.getD j 0))=rows.zip cs:=by
 apply List.ext_getElem
 · simp;omega
 · intro i h1 h2
   simp at h1
   simp[List.getD,List.getElem?_eq_getElem h1,List.getElem?_eq_getElem (show i<cs.length by omega)]
theorem ze1(n:Nat)(rows:List (List Int))(cs:List Int)(h:rows.length=cs.length):(List.range rows.length).foldl (fun t j=>addR t (sclR (cs.getD j 0) (rows.getD j []))) (z29 n)=mixR n rows cs:=by
 unfold mixR
 rw[←zjf rows cs h,List.foldl_map]
theorem zkx(a b:List Int)(k:Int)(h:a.length=b.length):(List.range a.length).map (fun i=>a.getD i 0+k*b.getD i 0)=addR a (sclR k b):=by
 unfold addR sclR
 rw[List.zipWith_map_right]
 exact zje a b h fun x y=>x+k*y
theorem zky(f:Nat→Int)(n:Nat):(List.range n).map (fun k=>Dt.int (f k))=((List.range n).map f).map .int:=by rw[List.map_map];rfl
theorem z6t{α:Type}{xs:List α}{i:Nat}(d:α)(h:i<xs.length):xs.getD i d∈xs:=by
 simp[List.getD,List.getElem?_eq_getElem h]
theorem z1D{α:Type}{xs:List α}{i:Nat}(d:α)(h:i<xs.length):atI xs (i:Int)=some (xs.getD i d):=by
 rw[zkv h];simp[List.getD,List.getElem?_eq_getElem h]
theorem z4R(ns:List Int)(a:Int)(n:Nat)(m:Int):∀ x∈z3w ns a n m,x.natAbs<10 ^ 30:=fun x hx=>by
 unfold z3w at hx
 obtain⟨k,_,rfl⟩:=List.mem_map.mp hx
 exact zkt _ _
theorem zbN(ns:List Int):Wide (z1k ns) (z28 ns):=fun r hr=>by
 unfold z28 at hr
 obtain⟨k,_,rfl⟩:=List.mem_map.mp hr
 exact z3V _ _ _ _
theorem ze2(ns:List Int):∀ r∈z28 ns,∀ x∈r,x.natAbs<10 ^ 30:=fun r hr=>by
 unfold z28 at hr
 obtain⟨k,_,rfl⟩:=List.mem_map.mp hr
 exact z4R _ _ _ _
theorem zcK(ns:List Int):(z28 ns).length=z3K ns:=by unfold z28;simp
theorem mul30{i j:Int}(h1:i.natAbs<10 ^ 30)(h2:j.natAbs<10 ^ 30):z17 i j=true:=z1V (lt30 h1) (lt30 h2) (by decide)
end L2

end
section
set_option linter.all false
set_option maxRecDepth 100000
namespace L2
open PySem
@[simp] theorem x0:∀(n:Nat) (ds:List Dt),rho0 n ds=List.map (Cell.sh false) ds++List.replicate (n-List.length ds) Cell.no:=by intros;rfl
@[simp] theorem x1:∀(F G:FS) (ρ:Rho),sSeq F G ρ=Option.bind (F ρ) (seqO G):=by intros;rfl
@[simp] theorem x2:∀(G:FS) (ρ:Rho),seqO G (Oc.nx ρ)=G ρ:=by intros;rfl
@[simp] theorem x3:∀(G:FS) (x:Oc),(∀(ρ:Rho),x=Oc.nx ρ→False)→seqO G x=some x:=by exact @L2.seqO.eq_2
@[simp] theorem x4:∀(c:FT) (F G:FS) (ρ:Rho),sIf c F G ρ=Option.bind (c ρ) fun b=>if b=true then F ρ else G ρ:=by intros;rfl
@[simp] theorem x5:∀(F:FE) (ρ:Rho),z0o F ρ=Option.bind (F ρ) fun x=>blD (Prod.snd x):=by intros;rfl
@[simp] theorem x6:∀(r:FO) (Fa Fb:FE) (ρ:Rho),
 fOp r Fa Fb ρ=Option.bind (Fa ρ) fun x=>Option.bind (Fb ρ) fun y=>r (Prod.snd x) (Prod.snd y):=by intros;rfl
@[simp] theorem x7:∀(i:Nat) (ρ:Rho),fN i ρ=zao ρ i:=by intros;rfl
@[simp] theorem x8:∀(ρ:Rho) (i:Nat),zao ρ i=Option.bind ρ[i]? Cell.val:=by intros;rfl
@[simp] theorem x9:Cell.val Cell.no=none:=by intros;rfl
@[simp] theorem x10:∀(f:Bool) (d:Dt),Cell.val (Cell.sh f d)=some (nrm (flOf f) d):=by intros;rfl
@[simp] theorem x11:∀(f:Bool) (ds:List Dt),Cell.val (Cell.ow f ds)=some (flOf f,Dt.lst ds):=by intros;rfl
@[simp] theorem x12:∀(f:Bool),flOf f=if f=true then Fl.fr else Fl.sh:=by intros;rfl
@[simp] theorem x13:∀(r:FB) (Fs:FA) (ρ:Rho),fBlt r Fs ρ=Option.bind (Fs ρ) fun xs=>r (sndL xs):=by intros;rfl
@[simp] theorem x14:∀(Fa:FE) (Fs:FA) (ρ:Rho),z01 Fa Fs ρ=Option.bind (Fa ρ) fun x=>Option.bind (Fs ρ) fun xs=>some (x::xs):=by intros;rfl
@[simp] theorem x15:∀(x:Rho),fNil x=some []:=by intros;rfl
@[simp] theorem x16:sndL []=[]:=by intros;rfl
@[simp] theorem x17:∀(x_1:Dv) (xs:List Dv),sndL (x_1::xs)=Prod.snd x_1::sndL xs:=by intros;rfl
@[simp] theorem x18:∀(xs:List Dt),bLen [Dt.lst xs]=some (Fl.nw,Dt.int ↑(List.length xs)):=by intros;rfl
@[simp] theorem x19:∀(xs:List Dt),bLen [Dt.tup xs]=some (Fl.nw,Dt.int ↑(List.length xs)):=by intros;rfl
@[simp] theorem x20:∀(xs:List Int),bLen [Dt.scr xs]=some (Fl.nw,Dt.int ↑(List.length xs)):=by intros;rfl
@[simp] theorem x22:∀(b:Bool),blD (Dt.bl b)=some b:=by intros;rfl
@[simp] theorem x24:truD Dt.non=some false:=by intros;rfl
@[simp] theorem x25:∀(b:Bool),truD (Dt.bl b)=some b:=by intros;rfl
@[simp] theorem x26:∀(i:Int),truD (Dt.int i)=some (i != 0):=by intros;rfl
@[simp] theorem x27:∀(ds:List Dt),truD (Dt.lst ds)=some !List.isEmpty ds:=by intros;rfl
@[simp] theorem x28:∀(ds:List Dt),truD (Dt.tup ds)=some !List.isEmpty ds:=by intros;rfl
@[simp] theorem x30:∀(F:FE) (ρ:Rho),sRet F ρ=Option.map (fun x=>Oc.rt (Prod.fst x) (Prod.snd x)) (F ρ):=by intros;rfl
@[simp] theorem x31:∀(ρ:Rho),z0y ρ=some (Oc.nx ρ):=by intros;rfl
@[simp] theorem x32:∀(Fa Fb:FE) (ρ:Rho),fAt Fa Fb ρ=Option.bind (Fa ρ) fun x=>Option.bind (Fb ρ) fun y=>opAt x y:=by intros;rfl
@[simp] theorem x33:∀(x y:Dv),
 opAt x y =
  match Prod.snd x,Prod.snd y with
  | Dt.lst ds,Dt.int i=>Option.map (nrm (Fl.item (Prod.fst x))) (atI ds i)
  | Dt.tup ds,Dt.int i=>Option.map (nrm (Fl.item (Prod.fst x))) (atI ds i)
  | Dt.scr ns,Dt.int i=>Option.map (fun n=>(Fl.nw,Dt.int n)) (atI ns i)
  | x,x_1=>none:=by intros;rfl
@[simp] theorem x34:∀(Fs:FA) (ρ:Rho),
 fLst Fs ρ =
  Option.bind (Fs ρ) fun xs =>
   if List.length xs≤1000 then some (if z3Q xs=true then Fl.nw else Fl.tn,Dt.lst (sndL xs)) else none:=by intros;rfl
@[simp] theorem x35:∀(Fs:FA) (ρ:Rho),
 fTup Fs ρ =
  Option.bind (Fs ρ) fun xs =>
   if List.length xs≤1000 then
    some (if z3Q xs=true then Fl.nw else if z2T xs=true then Fl.fr else Fl.sh,Dt.tup (sndL xs))
   else none:=by intros;rfl
@[simp] theorem x36:Fl.item Fl.tn=Fl.sh:=by intros;rfl
@[simp] theorem x37:∀(x:Fl),(x=Fl.tn→False)→Fl.item x=x:=by exact @L2.Fl.item.eq_2
@[simp] theorem x38:∀(d:Dt) (x:Rho),fC d x=some (Fl.nw,d):=by intros;rfl
@[simp] theorem x39:∀(F:FE) (ρ:Rho),fTru F ρ=Option.bind (F ρ) fun x=>truD (Prod.snd x):=by intros;rfl
@[simp] theorem x40:∀(F:FT) (ρ:Rho),fNot F ρ=Option.map not (F ρ):=by intros;rfl
@[simp] theorem x41:∀(F G:FT) (ρ:Rho),fAnd F G ρ=Option.bind (F ρ) fun b=>if b=true then G ρ else some false:=by intros;rfl
@[simp] theorem x42:∀(F G:FT) (ρ:Rho),fOr F G ρ=Option.bind (F ρ) fun b=>if b=true then some true else G ρ:=by intros;rfl
@[simp] theorem x43:∀(F G:FE) (ρ:Rho),
 vAnd F G ρ=Option.bind (z0o F ρ) fun b=>if b=true then G ρ else some (Fl.nw,Dt.bl false):=by intros;rfl
@[simp] theorem x44:∀(F G:FE) (ρ:Rho),vOr F G ρ=Option.bind (z0o F ρ) fun b=>if b=true then some (Fl.nw,Dt.bl true) else G ρ:=by intros;rfl
@[simp] theorem x45:∀(F:FE) (ρ:Rho),vNot F ρ=Option.map (fun b=>(Fl.nw,Dt.bl !b)) (z0o F ρ):=by intros;rfl
@[simp] theorem x46:∀(F:FE) (ρ:Rho),
 fNeg F ρ =
  Option.bind (F ρ) fun x =>
   match Prod.snd x with
   | Dt.int i=>some (Fl.nw,Dt.int (-i))
   | x=>none:=by intros;rfl
@[simp] theorem x47:∀(F:FT) (Fa Fb:FE) (ρ:Rho),fIf F Fa Fb ρ=Option.bind (F ρ) fun b=>if b=true then Fa ρ else Fb ρ:=by intros;rfl
@[simp] theorem x48:∀(T:String) (F:FE) (ρ:Rho),fIsi T F ρ=Option.map (fun x=>(Fl.nw,Dt.bl (zcu (tyN (Prod.snd x)) T))) (F ρ):=by intros;rfl
@[simp] theorem x49:∀(t T:String),zcu t T=(t==T||t == "bool" && T == "int"):=by intros;rfl
@[simp] theorem x50:tyN Dt.non = "NoneType" := by intros;rfl
@[simp] theorem x51:∀(b:Bool),tyN (Dt.bl b) = "bool" := by intros;rfl
@[simp] theorem x52:∀(i:Int),tyN (Dt.int i) = "int" := by intros;rfl
@[simp] theorem x53:∀(x_1:PySem.Str),tyN (Dt.str x_1) = "str" := by intros;rfl
@[simp] theorem x54:∀(xs:List Dt),tyN (Dt.lst xs) = "list" := by intros;rfl
@[simp] theorem x55:∀(ns:List Int),tyN (Dt.scr ns) = "list" := by intros;rfl
@[simp] theorem x56:∀(xs:List Dt),tyN (Dt.tup xs) = "tuple" := by intros;rfl
@[simp] theorem x57:∀(rels:List Nat) (i:Nat) (F:FE) (ρ:Rho),
 sSet rels i F ρ =
  Option.map (fun x=>Oc.nx (List.set (relS rels ρ) i (Cell.sh (Fl.isFr (Prod.fst x)) (Prod.snd x))))
   (F (z1e (relS rels ρ))):=by intros;rfl
@[simp] theorem x58:∀(x:Rho),relS [] x=x:=by intros;rfl
@[simp] theorem x59:∀(x:Rho) (i:Nat) (is:List Nat),relS (i::is) x=relS is (zat x i):=by intros;rfl
@[simp] theorem x60:z1e []=[]:=by intros;rfl
@[simp] theorem x61:∀(c:Cell) (ρ:List Cell),z1e (c::ρ)=z1d c::z1e ρ:=by intros;rfl
@[simp] theorem x62:∀(f:Bool) (ds:List Dt),z1d (Cell.ow f ds)=Cell.no:=by intros;rfl
@[simp] theorem x63:∀(x:Cell),(∀(f:Bool) (ds:List Dt),x=Cell.ow f ds→False)→z1d x=x:=by exact @L2.z1d.eq_2
@[simp] theorem x64:∀(fr:Bool) (c:FC) (Fs:FA) (ρ:Rho),
 z06 fr c Fs ρ=Option.bind (Fs ρ) fun xs=>Option.map (nrm (if fr=true then Fl.nw else Fl.sh)) (c (sndL xs)):=by intros;rfl
@[simp] theorem x65:Fl.isFr Fl.nw=true:=by intros;rfl
@[simp] theorem x66:Fl.isFr Fl.fr=true:=by intros;rfl
@[simp] theorem x68:Fl.isNw Fl.nw=true:=by intros;rfl
@[simp] theorem x69:∀(x:Fl),(x=Fl.nw→False)→Fl.isNw x=false:=by exact @L2.Fl.isNw.eq_2
@[simp] theorem x70:z3Q []=true:=by intros;rfl
@[simp] theorem x71:∀(x_1:Dv) (xs:List Dv),z3Q (x_1::xs)=(Fl.isNw (Prod.fst x_1)&&z3Q xs):=by intros;rfl
@[simp] theorem x72:z2T []=true:=by intros;rfl
@[simp] theorem x73:∀(x_1:Dv) (xs:List Dv),z2T (x_1::xs)=(Fl.isFr (Prod.fst x_1)&&z2T xs):=by intros;rfl
@[simp] theorem x74:∀(F:FE) (ρ:Rho),z6q F ρ=Option.map (fun x=>Oc.nx ρ) (F ρ):=by intros;rfl
@[simp] theorem x75:∀(rels:List Nat) (Fi:FI) (g:Tg) (F:FS) (ρ:Rho),
 sFor rels Fi g F ρ=Option.bind (Fi (z1e (relS rels ρ))) fun items=>forF g F items (relS rels ρ):=by intros;rfl
@[simp] theorem x76:∀(F:FE) (ρ:Rho),iSeq F ρ=Option.bind (F ρ) fun x=>seqD (Prod.snd x):=by intros;rfl
@[simp] theorem x77:∀(ds:List Dt),seqD (Dt.lst ds)=some ds:=by intros;rfl
@[simp] theorem x78:∀(ds:List Dt),seqD (Dt.tup ds)=some ds:=by intros;rfl
@[simp] theorem x80:∀(i:Nat) (F:FE) (ρ:Rho),
 z2E i F ρ =
  Option.bind (F ρ) fun x =>
   if Fl.isNw (Prod.fst x)=true then some (Oc.nx (List.set ρ i (Cell.sh true (Prod.snd x)))) else none:=by intros;rfl
@[simp] theorem x81:∀(i:Nat) (F:FE) (ρ:Rho),
 sOwn i F ρ =
  Option.bind (F (z1e ρ)) fun x =>
   match x with
   | (Fl.nw,Dt.lst ds)=>if i<List.length ρ then some (Oc.nx (List.set ρ i (Cell.ow true ds))) else none
   | (Fl.tn,Dt.lst ds)=>if i<List.length ρ then some (Oc.nx (List.set ρ i (Cell.ow false ds))) else none
   | x=>none:=by intros;rfl
@[simp] theorem x82:∀(i:Nat) (F:FE) (ρ:Rho),
 sOwnA i F ρ =
  Option.bind (F ρ) fun x =>
   match x with
   | (Fl.nw,Dt.lst ds)=>if i<List.length ρ then some (Oc.nx (List.set ρ i (Cell.ow true ds))) else none
   | x=>none:=by intros;rfl
@[simp] theorem x83:∀(w:FW) (i:Nat) (F:FE) (ρ:Rho),
 sWr w i F ρ =
  Option.bind (z4O ρ i) fun o =>
   Option.bind (F (z1e ρ)) fun x =>
    Option.map (fun ds=>Oc.nx (List.set ρ i (Cell.ow (Prod.fst o&&Fl.isFr (Prod.fst x)) ds)))
     (w (Prod.snd o) (Prod.snd x)):=by intros;rfl
@[simp] theorem x84:∀(w:FW) (i:Nat) (F:FE) (ρ:Rho),
 sWrA w i F ρ =
  Option.bind (z4O ρ i) fun o =>
   Option.bind (F ρ) fun x =>
    if Fl.isNw (Prod.fst x)=true then
     Option.map (fun ds=>Oc.nx (List.set ρ i (Cell.ow (Prod.fst o) ds))) (w (Prod.snd o) (Prod.snd x))
    else none:=by intros;rfl
@[simp] theorem x85:∀(i:Nat) (Fj Fe:FE) (ρ:Rho),
 sPut i Fj Fe ρ =
  Option.bind (z4O ρ i) fun o =>
   Option.bind (Fe (z1e ρ)) fun x =>
    Option.bind (Fj ρ) fun j =>
     Option.bind (intD (Prod.snd j)) fun n =>
      Option.map (fun ds=>Oc.nx (List.set ρ i (Cell.ow (Prod.fst o&&Fl.isFr (Prod.fst x)) ds)))
       (setD (Prod.snd o) n (Prod.snd x)):=by intros;rfl
@[simp] theorem x86:∀(ρ:Rho) (i:Nat),
 z4O ρ i =
  match ρ[i]? with
  | some (Cell.ow f ds)=>some (f,ds)
  | x=>none:=by intros;rfl
@[simp] theorem x87:∀(F:FE) (ρ:Rho),z3f F ρ=Option.bind (F ρ) fun x=>Option.map (z2V 0) (lstD (Prod.snd x)):=by intros;rfl
@[simp] theorem x88:∀(F:FE) (ρ:Rho),iRev F ρ=Option.bind (F ρ) fun x=>Option.map List.reverse (lstD (Prod.snd x)):=by intros;rfl
@[simp] theorem x89:∀(ds:List Dt),lstD (Dt.lst ds)=some ds:=by intros;rfl
@[simp] theorem x91:∀(F G:FE) (ρ:Rho),
 iZip F G ρ =
  Option.bind (F ρ) fun x =>
   Option.bind (G ρ) fun y =>
    Option.bind (seqD (Prod.snd x)) fun xs =>
     Option.bind (seqD (Prod.snd y)) fun ys=>if List.length xs=List.length ys then some (zipD xs ys) else none:=by intros;rfl
@[simp] theorem x92:∀(F:FE) (ρ:Rho),
 z0m F ρ =
  Option.bind (F ρ) fun x =>
   Option.bind (intD (Prod.snd x)) fun j=>if z3c j=true then some (z1Q 0 (Int.toNat j)) else none:=by intros;rfl
@[simp] theorem x93:∀(i:Int),intD (Dt.int i)=some i:=by intros;rfl
@[simp] theorem x95:∀(ds:List Dt) (d:Dt),wApp ds d=if List.length ds<1000000 then some (ds++[d]) else none:=by intros;rfl
@[simp] theorem x96:∀(ds:List Dt) (d:Dt),z8V ds d=if List.length ds<1000000 then some (d::ds) else none:=by intros;rfl
@[simp] theorem x97:∀(ds:List Dt) (j:Int) (d:Dt),setD ds j d=Option.map (fun k=>List.set ds k d) (ixN (List.length ds) j):=by intros;rfl
@[simp] theorem x98:∀(xs:List Dt),bLst [Dt.lst xs]=some (newL xs):=by intros;rfl
@[simp] theorem x99:∀(xs:List Dt),bLst [Dt.tup xs]=some (newL xs):=by intros;rfl
@[simp] theorem x101:∀(xs:List Dt),bTup [Dt.lst xs]=some (if z1x xs=true then Fl.nw else Fl.sh,Dt.tup xs):=by intros;rfl
@[simp] theorem x102:∀(xs:List Dt),bTup [Dt.tup xs]=some (if z1x xs=true then Fl.nw else Fl.sh,Dt.tup xs):=by intros;rfl
@[simp] theorem x104:∀(x:Dt) (x_1:Rho) (i:Nat),Tg.put (Tg.one i) x x_1=some (List.set x_1 i (Cell.sh false x)):=by intros;rfl
@[simp] theorem x105:∀(x:Rho) (is:List Nat) (ds:List Dt),
 Tg.put (Tg.many is) (Dt.tup ds) x=if List.length ds=List.length is then some (z2n x is ds) else none:=by intros;rfl
@[simp] theorem x107:∀(x:Rho) (i:Nat) (is:List Nat) (d:Dt) (ds:List Dt),
 z2n x (i::is) (d::ds)=z2n (List.set x i (Cell.sh false d)) is ds:=by intros;rfl
@[simp] theorem x108:∀(x:Rho) (x_1:List Nat) (x_2:List Dt),
 (∀(i:Nat) (is:List Nat) (d:Dt) (ds:List Dt),x_1=i::is→x_2=d::ds→False)→z2n x x_1 x_2=x:=by exact @L2.z2n.eq_2
@[simp] theorem x109:z4M Cell.no=Cell.no:=by intros;rfl
@[simp] theorem x110:∀(f:Bool) (d:Dt),z4M (Cell.sh f d)=Cell.sh false d:=by intros;rfl
@[simp] theorem x111:∀(f:Bool) (ds:List Dt),z4M (Cell.ow f ds)=Cell.sh false (Dt.lst ds):=by intros;rfl
@[simp] theorem x112:∀(nt:Nat) (js:List Nat) (ρ:Rho),
 sigD nt js ρ =
  List.replicate nt Cell.no ++
   List.map
    (fun j =>
     match ρ[j]? with
     | some c=>z4M c
     | none=>Cell.no)
    js:=by intros;rfl
@[simp] theorem x113:∀(r r':FO) (Fa Fb Fc:FE) (ρ:Rho),
 z8M r r' Fa Fb Fc ρ =
  Option.bind (Fa ρ) fun x =>
   Option.bind (Fb ρ) fun y =>
    Option.bind (r (Prod.snd x) (Prod.snd y)) fun z =>
     Option.bind (blD (Prod.snd z)) fun k =>
      if k=true then Option.bind (Fc ρ) fun w=>r' (Prod.snd y) (Prod.snd w) else some (Fl.nw,Dt.bl false):=by intros;rfl
@[simp] theorem x114:∀(c:FC) (F:FE) (ρ:Rho),
 z63 c F ρ =
  Option.bind (F ρ) fun x =>
   Option.bind (lstD (Prod.snd x)) fun ds =>
    Option.bind (z2p c ds) fun ks =>
     if List.length ds<64∧List.Nodup ks then
      some (newL (List.map (fun x=>Prod.snd x) (z2G (List.zip ks ds))))
     else none:=by intros;rfl
@[simp] theorem x115:∀(i j:Int),opLt (Dt.int i) (Dt.int j)=some (Fl.nw,Dt.bl (decide (i<j))):=by intros;rfl
@[simp] theorem x116:∀(i j:Int),opLe (Dt.int i) (Dt.int j)=some (Fl.nw,Dt.bl (decide (i≤j))):=by intros;rfl
@[simp] theorem x117:∀(i j:Int),opGt (Dt.int i) (Dt.int j)=some (Fl.nw,Dt.bl (decide (j<i))):=by intros;rfl
@[simp] theorem x118:∀(i j:Int),opGe (Dt.int i) (Dt.int j)=some (Fl.nw,Dt.bl (decide (j≤i))):=by intros;rfl
@[simp] theorem x119:∀(i j:Int),z7S (Dt.int i) (Dt.int j)=some (Fl.nw,Dt.int (i-j)):=by intros;rfl
@[simp] theorem x120:∀(i j:Int),z1y (Dt.int i) (Dt.int j)=if z3a i j=true then some (Fl.nw,Dt.int (Int.fmod i j)) else none:=by intros;rfl
@[simp] theorem x121:∀(i j:Int),z12 (Dt.int i) (Dt.int j)=if z17 i j=true then some (Fl.nw,Dt.int (i*j)) else none:=by intros;rfl
@[simp] theorem x122:∀(i j:Int),z3O (Dt.int i) (Dt.int j)=if z26 i j=true then some (Fl.nw,Dt.int (Int.fdiv i j)) else none:=by intros;rfl
@[simp] theorem x123:∀(i j:Int),zap (Dt.int i) (Dt.int j)=if z8L i j=true then some (Fl.nw,Dt.int (i ^ Int.toNat j)) else none:=by intros;rfl
@[simp] theorem x124:∀(i j:Int),z0x (Dt.int i) (Dt.int j)=some (Fl.nw,Dt.int (i+j)):=by intros;rfl
@[simp] theorem x125:∀(f:Fl) (i:Int),nrm f (Dt.int i)=(Fl.nw,Dt.int i):=by intros;rfl
@[simp] theorem x126:∀(f:Fl) (i:Bool),nrm f (Dt.bl i)=(Fl.nw,Dt.bl i):=by intros;rfl
@[simp] theorem x127:∀(f:Fl),nrm f Dt.non=(Fl.nw,Dt.non):=by intros;rfl
@[simp] theorem x128:∀(f:Fl) (ns:List Int),nrm f (Dt.scr ns)=(f,Dt.scr ns):=by intros;rfl
@[simp] theorem x129:∀(f:Fl) (ns:List Int),nrm f (L ns)=(f,L ns):=by intros;rfl
@[simp] theorem x130:∀(f:Fl) (ns:List (List Int)),nrm f (LL ns)=(f,LL ns):=by intros;rfl
@[simp] theorem x134:∀{α β:Type} {a:α} {f:α→Option β},Option.bind (some a) f=f a:=by intros;rfl
@[simp] theorem x135:∀{α β:Type} {f:α→Option β},Option.bind none f=none:=by intros;rfl
@[simp] theorem x136:∀{α:Type} {x:α} {xs:List α},atI (x::xs) 0=some x:=by exact @L2.atI_c0
@[simp] theorem x137:∀{α:Type} {x y:α} {xs:List α},atI (x::y::xs) 1=some y:=by exact @L2.atI_c1
@[simp] theorem x138:∀{α:Type} {x y z:α} {xs:List α},atI (x::y::z::xs) 2=some z:=by exact @L2.atI_c2
@[simp] theorem y1(ns:List Int):newL (List.map Dt.int ns)=(Fl.nw,Dt.lst (List.map Dt.int ns)):=z2q ns
@[simp] theorem y2:newL []=(Fl.nw,Dt.lst []):=rfl
@[simp] theorem y3(ns:List Int):z1x (List.map Dt.int ns)=true:=z3g ns
@[simp] theorem y4(d:Dt):nrm Fl.nw d=(Fl.nw,d):=zkw d
@[simp] theorem y5(i:Int):Dt.flat (Dt.int i)=true:=rfl
@[simp] theorem y6(i:Bool):Dt.flat (Dt.bl i)=true:=rfl
@[simp] theorem y7(f:Fl)(ds:List Dt):nrm f (Dt.lst ds)=(f,Dt.lst ds):=rfl
@[simp] theorem y8:z1x []=true:=rfl
@[simp] theorem y9(d:Dt)(ds:List Dt):z1x (d::ds)=(d.flat&&z1x ds):=by rw[z1x]
@[simp] theorem y10(ds:List Dt):Dt.flat (Dt.lst ds)=false:=by rw[Dt.flat]
@[simp] theorem y11(ds:List Dt):Dt.flat (Dt.tup ds)=z1x ds:=by rw[Dt.flat]
@[simp] theorem y12(f:Fl)(ds:List Dt):nrm f (Dt.tup ds)=(if z1x ds=true then Fl.nw else f,Dt.tup ds):=rfl
end L2

end
section
local macro_rules|`(tactic| omega)=>`(tactic| first|lia|omega +splitDisjunctions)
set_option linter.all false
set_option maxRecDepth 100000
namespace L2
open PySem
theorem z82{γ:Type}{g:Tg}{F:FS}(R:Nat→γ→Rho):∀(n k:Nat) (j:γ),(∀ i j,k≤i→i<k+n→∃ j',(g.put (.int (i:Int)) (R i j)).bind F=some (.nx (R (i+1) j')))→∃ j',forF g F ((List.range n).map fun(i:Nat) => .int (((k+i:Nat):Int))) (R k j)=some (.nx (R (k+n) j'))
 | 0,k,j,_=>⟨j,rfl⟩
 | n+1,k,j,h=>by
  obtain⟨j1,h1⟩:=h k j (Nat.le_refl _) (by omega)
  obtain⟨j2,h2⟩:=z82 R n (k+1) j1 fun i j hi hl=>h i j (by omega) (by omega)
  refine⟨j2,?_⟩
  rw[List.range_succ_eq_map,List.map_cons,z1a,Nat.add_zero,h1,List.map_map]
  rw[show k+(n+1)=k+1+n by omega,←h2]
  show forF g F _ (R (k+1) j1)=forF g F _ (R (k+1) j1)
  congr 1
  apply List.map_congr_left
  intro i _
  show Dt.int ((k+(i+1):Nat):Int)=_
  rw[show k+(i+1)=k+1+i by omega]
theorem ze3{γ:Type}{g:Tg}{F:FS}(R:Nat→γ→Rho)(n:Nat)(j:γ)(h:∀ i j,i<n→∃ j',(g.put (.int (i:Int)) (R i j)).bind F=some (.nx (R (i+1) j'))):∃ j',forF g F (z1Q 0 n) (R 0 j)=some (.nx (R n j')):=by
 obtain⟨j',e⟩:=z82 R n 0 j fun i j _ hi=>h i j (by omega)
 refine⟨j',?_⟩
 rw[Nat.zero_add]at e
 rw[←e,z0M]
 congr 1
@[simp] theorem y13(n:Nat)(h:n≤1000000):z3c (n:Int)=true:=z4p h
theorem getD_L(S:List (List Int)){k:Nat}(h:k<S.length):atI (S.map L) (k:Int)=some (L (S.getD k [])):=by rw[z3h,z1D [] h];rfl
end L2
namespace L2
open PySem
theorem z4S{α:Type}(xs:List α)(n:Nat):cutD xs (some (n:Int)) none=xs.drop n:=by
 unfold cutD
 rw[HT.sIx_none,HT.sIx_nat]
 by_cases h:n≤xs.length
 · rw[Nat.min_eq_left h,List.take_of_length_le (by rw[List.length_drop];omega)]
 · rw[Nat.min_eq_right (by omega),List.drop_eq_nil_of_le (by omega),List.drop_eq_nil_of_le (by omega)];simp
theorem z92{α:Type}(xs:List α)(n:Nat):cutD xs none (some (n:Int))=xs.take n:=by
 unfold cutD
 rw[HT.sIx_none,HT.sIx_nat,List.drop_zero,Nat.sub_zero]
 by_cases h:n≤xs.length
 · rw[Nat.min_eq_left h]
 · rw[Nat.min_eq_right (by omega),List.take_of_length_le (by omega),List.take_of_length_le (by omega)]
@[simp] theorem y14(F:FE)(A B:FP)(ρ:Rho):fSl F A B ρ=(F ρ).bind fun x=>(A ρ).bind fun lo=>(B ρ).bind fun hi=>match x.2 with|.lst ds=>some (newL (cutD ds lo hi))|_=>none:=rfl
@[simp] theorem y15(F:FE)(ρ:Rho):z1s F ρ=(F ρ).bind fun x=>(intD x.2).map some:=rfl
@[simp] theorem y16(ρ:Rho):z0A ρ=some none:=rfl
theorem z2a(xs:List Int)(n:Nat):newL ((xs.map Dt.int).drop n)=(.nw,L (xs.drop n)):=by rw[←List.map_drop];exact z2q _
theorem z4T(xs:List Int)(n:Nat):newL ((xs.map Dt.int).take n)=(.nw,L (xs.take n)):=by rw[←List.map_take];exact z2q _
theorem zcL(a b:List Int)(h:a.length+b.length≤1000000):z0x (.lst (a.map Dt.int)) (.lst (b.map Dt.int))=some (.nw,L (a++b)):=by
 have:z0x (.lst (a.map Dt.int)) (.lst (b.map Dt.int))=z6o (.lst (a.map Dt.int)) (.lst (b.map Dt.int)):=rfl
 rw[this,z6o,if_pos (by simpa using h),←List.map_append,z2q]
end L2

end
section
local macro_rules|`(tactic| omega)=>`(tactic| first|lia|omega +splitDisjunctions)
set_option linter.all false
namespace Lat
abbrev Vec:=Nat→Int
def Span:List Vec→Vec→Prop
 | [],v=>∀ k,v k=0
 | r::rs,v=>∃ c:Int,Span rs (fun k=>v k-c*r k)
theorem Span.congr{rs:List Vec}{v w:Vec}(h:∀ k,v k=w k)(s:Span rs v):Span rs w:=by
 have:v=w:=funext h
 rw[←this];exact s
theorem Span.zero:∀{rs:List Vec},Span rs (fun _=>0)
 | []=>fun _=>rfl
 | r::rs=>⟨0,Span.congr (fun k=>by simp) (Span.zero (rs:=rs))⟩
theorem Span.add:∀{rs:List Vec} {v w:Vec},Span rs v→Span rs w→Span rs (fun k=>v k+w k)
 | [],v,w,h1,h2=>fun k=>by show v k+w k=0;rw[h1 k,h2 k];rfl
 | r::rs,v,w,⟨c,h1⟩,⟨d,h2⟩=>⟨c+d,Span.congr (fun k=>by show _=(v k+w k)-(c+d)*r k;rw[Int.add_mul];omega) (h1.add h2)⟩
theorem Span.smul:∀{rs:List Vec} {v:Vec} (a:Int),Span rs v→Span rs (fun k=>a*v k)
 | [],v,a,h=>fun k=>by show a*v k=0;rw[h k,Int.mul_zero]
 | r::rs,v,a,⟨c,h⟩=>⟨a*c,Span.congr (fun k=>by rw[Int.mul_sub,Int.mul_assoc]) (h.smul a)⟩
theorem Span.neg{rs:List Vec}{v:Vec}(h:Span rs v):Span rs (fun k =>-v k):=Span.congr (fun k=>by omega) (h.smul (-1))
theorem Span.sub{rs:List Vec}{v w:Vec}(h1:Span rs v)(h2:Span rs w):Span rs (fun k=>v k-w k):=Span.congr (fun k=>by omega) (h1.add h2.neg)
theorem Span.head{r:Vec}{rs:List Vec}:Span (r::rs) r:=⟨1,Span.congr (fun k=>by omega) Span.zero⟩
theorem Span.cons{r:Vec}{rs:List Vec}{v:Vec}(h:Span rs v):Span (r::rs) v:=⟨0,Span.congr (fun k=>by omega) h⟩
theorem Span.mem:∀{rs:List Vec} {r:Vec},r∈rs→Span rs r
 | _::_,_,.head _=>Span.head
 | _::_,_,.tail _ h=>(Span.mem h).cons
theorem Span.least{P:Vec→Prop}(z:P (fun _=>0))(a:∀ v w,P v→P w→P (fun k=>v k+w k))(m:∀(c:Int) v,P v→P (fun k=>c*v k)):
  ∀{rs:List Vec} {v:Vec},(∀ r∈rs,P r)→Span rs v→P v
 | [],v,_,h=>by have:v=fun _=>0:=funext h;rw[this];exact z
 | r::rs,v,hr,⟨c,h⟩=>by
  have h1:=Span.least z a m (fun x hx=>hr x (List.mem_cons_of_mem _ hx)) h
  have h2:=a _ _ h1 (m c r (hr r List.mem_cons_self))
  have:v=fun k=>(v k-c*r k)+c*r k:=funext fun k=>by omega
  rw[this];exact h2
theorem Span.trans{rs ss:List Vec}{v:Vec}(h:∀ r∈rs,Span ss r)(s:Span rs v):Span ss v :=
 Span.least (P:=Span ss) Span.zero (fun _ _=>Span.add) (fun c _=>Span.smul c) h s
def SameSpan(rs ss:List Vec):Prop:=(∀ r∈rs,Span ss r)∧∀ s∈ss,Span rs s
theorem SameSpan.iff{rs ss:List Vec}(h:SameSpan rs ss){v:Vec}:Span rs v↔Span ss v:=⟨Span.trans h.1,Span.trans h.2⟩
theorem SameSpan.refl{rs:List Vec}:SameSpan rs rs:=⟨fun _=>Span.mem,fun _=>Span.mem⟩
theorem SameSpan.symm{rs ss:List Vec}(h:SameSpan rs ss):SameSpan ss rs:=⟨h.2,h.1⟩
theorem SameSpan.trans{rs ss ts:List Vec}(h:SameSpan rs ss)(g:SameSpan ss ts):SameSpan rs ts:=⟨fun r hr=>(h.1 r hr).trans g.1,fun t ht=>(g.2 t ht).trans h.2⟩
def Form:Nat→List (Nat×Vec)→Prop
 | _,[]=>True
 | f,(h,r)::rs=>f≤h∧(∀ k,k<h→r k=0)∧0<r h∧(∀ p∈rs,0≤r p.1∧r p.1<p.2 p.1)∧Form (h+1) rs
abbrev z0Y(S:List (Nat×Vec)):List Vec:=S.map (·.2)
theorem Form.low:∀{f:Nat} {S:List (Nat×Vec)} {v:Vec},Form f S→Span (z0Y S) v→∀ k,k<f→v k=0
 | _,[],v,_,s,k,_=>s k
 | f,(h,r)::S,v,⟨h1,h2,h3,h4,h5⟩,⟨c,s⟩,k,hk=>by
  have:=Form.low h5 s k (by omega)
  have e:r k=0:=h2 k (by omega)
  have this:v k-c*r k=0:=this
  rw[e]at this
  simpa using this
theorem Form.coef{f h:Nat}{r v:Vec}{S:List (Nat×Vec)}{c:Int}(F:Form f ((h,r)::S))(s:Span (z0Y S) (fun k=>v k-c*r k)):v h=c*r h:=by
 have:v h-c*r h=0:=F.2.2.2.2.low s h (by omega)
 omega
theorem z3L{c r v:Int}(e:v=c*r)(hr:0<r)(h1 : -r<v)(h2:v<r):c=0:=by
 rcases Int.lt_trichotomy c 0 with h|h|h
 · exfalso
   have:c*r ≤ -1*r:=Int.mul_le_mul_of_nonneg_right (by omega) (by omega)
   omega
 · exact h
 · exfalso
   have:1*r≤c*r:=Int.mul_le_mul_of_nonneg_right (by omega) (by omega)
   omega
theorem Form.small:∀{f:Nat} {S:List (Nat×Vec)} {v:Vec},Form f S→Span (z0Y S) v→(∀ p∈S,-(p.2 p.1)<v p.1∧v p.1<p.2 p.1)→∀ k,v k=0
 | _,[],v,_,s,_=>s
 | f,(h,r)::S,v,F,⟨c,s⟩,hs=>by
  have e:=F.coef s
  have hp:=hs (h,r) List.mem_cons_self
  have c0:c=0:=z3L e F.2.2.1 hp.1 hp.2
  subst c0
  refine F.2.2.2.2.small (Span.congr (fun k=>by omega) s) (fun p hp=>hs p (List.mem_cons_of_mem _ hp))
theorem Form.tail{f h:Nat}{r v:Vec}{S:List (Nat×Vec)}(F:Form f ((h,r)::S))(s:Span (z0Y ((h,r)::S)) v)(z:v h=0):Span (z0Y S) v:=by
 obtain⟨c,s⟩:=s
 have e:=F.coef s
 have hr:=F.2.2.1
 rw[z]at e
 have c0:c=0:=by
  rcases Int.mul_eq_zero.mp e.symm with h|h
  · exact h
  · omega
 subst c0
 exact Span.congr (fun k=>by omega) s
theorem Form.head_le{f g h h':Nat}{r r':Vec}{S S':List (Nat×Vec)}(F:Form f ((h,r)::S))(G:Form g ((h',r')::S'))(s:Span (z0Y ((h',r')::S')) r):h'≤h:=by
 apply Nat.le_of_not_lt
 intro hlt
 have G':Form h' ((h',r')::S'):=⟨Nat.le_refl _,G.2⟩
 have:=G'.low s h hlt
 have:=F.2.2.1
 omega
theorem Form.unique:∀{S T:List (Nat×Vec)} {f g:Nat},Form f S→Form g T→SameSpan (z0Y S) (z0Y T)→S=T
 | [],[],_,_,_,_,_=>rfl
 | [],(h,r)::T,_,_,_,G,s=>by
  have:=s.2 r List.mem_cons_self h
  have:=G.2.2.1
  omega
 | (h,r)::S,[],_,_,F,_,s=>by
  have:=s.1 r List.mem_cons_self h
  have:=F.2.2.1
  omega
 | (h,r)::S,(h',r')::T,f,g,F,G,s=>by
  have s1:Span (z0Y ((h',r')::T)) r:=s.1 r List.mem_cons_self
  have s2:Span (z0Y ((h,r)::S)) r':=s.2 r' List.mem_cons_self
  have eh:h=h':=Nat.le_antisymm (G.head_le F s2) (F.head_le G s1)
  subst eh
  have evh:r h=r' h:=by
   obtain⟨c,q⟩:=s1
   obtain⟨d,q'⟩:=s2
   have e1:=G.coef q
   have e2:=F.coef q'
   have p1:=F.2.2.1
   have p2:=G.2.2.1
   have c1:1≤c:=by
     apply Int.not_lt.mp;intro hc
     have:c*r' h≤0:=Int.mul_nonpos_of_nonpos_of_nonneg (by omega) (by omega)
     omega
   have d1:1≤d:=by
     apply Int.not_lt.mp;intro hd
     have:d*r h≤0:=Int.mul_nonpos_of_nonpos_of_nonneg (by omega) (by omega)
     omega
   have a1:1*r' h≤c*r' h:=Int.mul_le_mul_of_nonneg_right c1 (by omega)
   have a2:1*r h≤d*r h:=Int.mul_le_mul_of_nonneg_right d1 (by omega)
   omega
  have tails:SameSpan (z0Y S) (z0Y T):=by
   constructor
   · intro x hx
     have hs:Span (z0Y S) x:=Span.mem hx
     have z:=F.2.2.2.2.low hs h (by omega)
     exact G.tail (s.iff.mp hs.cons) z
   · intro x hx
     have hs:Span (z0Y T) x:=Span.mem hx
     have z:=G.2.2.2.2.low hs h (by omega)
     exact F.tail (s.iff.mpr hs.cons) z
  have eST:=Form.unique F.2.2.2.2 G.2.2.2.2 tails
  subst eST
  have d0:Span (z0Y S) (fun k=>r k-r' k):=F.tail (Span.sub Span.head s2) (by omega)
  have er:r=r':=funext fun k=>by
   have:=F.2.2.2.2.small d0 (fun p hp=>by
     have q1:=F.2.2.2.1 p hp
     have q2:=G.2.2.2.1 p hp
     omega) k
   omega
  rw[er]
theorem Form.free{f:Nat}{S:List (Nat×Vec)}(F:Form f S){v:Vec}:∀{c d:Int} {h:Nat} {r:Vec} {T:List (Nat×Vec)},S=(h,r)::T→Span (z0Y T) (fun k=>v k-c*r k)→Span (z0Y T) (fun k=>v k-d*r k)→c=d:=by
 rintro c d h r T rfl s1 s2
 have e1:=F.coef s1
 have e2:=F.coef s2
 have p:=F.2.2.1
 have:(c-d)*r h=0:=by rw[Int.sub_mul];omega
 rcases Int.mul_eq_zero.mp this with h|h<;>omega
end Lat

end
section
set_option linter.all false
namespace Lat
theorem z3M{α β:Type}[DecidableEq β]:∀{l:List α} {m:List β} (f:α→β),l.Nodup→(∀ x∈l,∀ y∈l,f x=f y→x=y)→(∀ x∈l,f x∈m)→l.length≤m.length
 | [],m,f,_,_,_=>Nat.zero_le _
 | x::l,m,f,hn,hi,hm=>by
  have hx:=hm x List.mem_cons_self
  have hn':=List.nodup_cons.mp hn
  have h1:l.length≤(m.erase (f x)).length:=by
   refine z3M f hn'.2 (fun a ha b hb=>hi a (List.mem_cons_of_mem _ ha) b (List.mem_cons_of_mem _ hb)) (fun a ha=>?_)
   have hne:f a≠f x:=fun e=>by
    have:=hi a (List.mem_cons_of_mem _ ha) x List.mem_cons_self e
    subst this
    exact hn'.1 ha
   exact(List.mem_erase_of_ne hne).mpr (hm a (List.mem_cons_of_mem _ ha))
  have h2:(m.erase (f x)).length=m.length-1:=List.length_erase_of_mem hx
  have h3:0<m.length:=List.length_pos_of_mem hx
  simp only[List.length_cons]
  omega
def box:List Nat→List (List Int)
 | []=>[[]]
 | n::ns=>(List.range n).flatMap fun(i:Nat)=>(box ns).map fun t=>(i:Int)::t
def prod:List Nat→Nat
 | []=>1
 | n::ns=>n*prod ns
theorem zcM{α:Type}(g:Nat→List α)(k:Nat):∀(l:List Nat),(∀ i∈l,(g i).length=k)→(l.flatMap g).length=l.length*k
 | [],_=>by simp
 | i::l,h=>by
  rw[List.flatMap_cons,List.length_append,zcM g k l (fun j hj=>h j (List.mem_cons_of_mem _ hj)),h i List.mem_cons_self,List.length_cons,Nat.succ_mul,Nat.add_comm]
theorem z66:∀ ns:List Nat,(box ns).length=prod ns
 | []=>rfl
 | n::ns=>by
  show((List.range n).flatMap fun(i:Nat)=>(box ns).map fun t=>(i:Int)::t).length=n*prod ns
  rw[zcM _ (prod ns) _ (fun i _=>by rw[List.length_map,z66 ns]),List.length_range]
def z1A:List Nat→List Int→Prop
 | [],[]=>True
 | n::ns,x::xs=>0≤x∧x<n∧z1A ns xs
 | _,_=>False
theorem z5y:∀{ns:List Nat} {t:List Int},t∈box ns↔z1A ns t
 | [],[]=>by simp[box,z1A]
 | [],x::t=>by simp[box,z1A]
 | n::ns,[]=>by simp[box,z1A]
 | n::ns,x::t=>by
  simp only[box,z1A,List.mem_flatMap,List.mem_range,List.mem_map,List.cons.injEq]
  constructor
  · rintro⟨i,hi,u,hu,rfl,rfl⟩
    exact⟨by omega,by omega,z5y.mp hu⟩
  · rintro⟨h0,h1,h2⟩
    exact⟨x.toNat,by omega,t,z5y.mpr h2,by omega,rfl⟩
theorem zaA:∀ ns:List Nat,(box ns).Nodup
 | []=>by simp[box]
 | n::ns=>by
  have ih:=zaA ns
  have key:∀ m,((List.range m).flatMap fun(i:Nat)=>(box ns).map fun t=>(i:Int)::t).Nodup:=by
   intro m
   induction m with
   | zero=>simp
   | succ m hm =>
    rw[List.range_succ,List.flatMap_append,List.nodup_append]
    refine⟨hm,?_,?_⟩
    · rw[List.flatMap_cons,List.flatMap_nil,List.append_nil]
      refine List.Pairwise.map _ (fun a b hab e=>hab ?_) ih
      exact(List.cons.inj e).2
    · intro a ha b hb e
      subst e
      simp only[List.mem_flatMap,List.mem_range,List.mem_map,List.mem_singleton]at ha hb
      obtain⟨i,hi,u,hu,rfl⟩:=ha
      obtain⟨j,hj,w,hw,e⟩:=hb
      have:=(List.cons.inj e).1
      omega
  exact key n
theorem zi5{ns ms:List Nat}(f:List Int→List Int)(hi:∀ s t,z1A ns s→z1A ns t→f s=f t→s=t)(hm:∀ s,z1A ns s→z1A ms (f s)):prod ns≤prod ms:=by
 rw[←z66 ns,←z66 ms]
 exact z3M f (zaA ns) (fun x hx y hy=>hi x y (z5y.mp hx) (z5y.mp hy)) (fun x hx=>z5y.mpr (hm x (z5y.mp hx)))
end Lat

end
section
local macro_rules|`(tactic| omega)=>`(tactic| first|lia|omega +splitDisjunctions)
set_option linter.all false
namespace Br
structure BI(a b u0 u1 u2 l0 l1 l2:Int):Prop where
 up:a*u1+b*u2=u0
 lo:a*l1+b*l2=l0
 gcd:Int.gcd u0 l0=Int.gcd a b
 p1:u0.natAbs*l1.natAbs+l0.natAbs*u1.natAbs≤a.natAbs+2*b.natAbs
 p2:u0.natAbs*l2.natAbs+l0.natAbs*u2.natAbs≤a.natAbs+2*b.natAbs
 ph:(u0=a∧u1=1∧u2=0∧l0=b∧l1=0∧l2=1)∨(0≤u0*l0∧u0≠0)
 b1:u1.natAbs≤a.natAbs+2*b.natAbs+1
 b2:u2.natAbs≤a.natAbs+2*b.natAbs+1
 b3:l1.natAbs≤a.natAbs+2*b.natAbs+1
 b4:l2.natAbs≤a.natAbs+2*b.natAbs+1
 c1:u0.natAbs≤a.natAbs+b.natAbs
 c2:l0.natAbs≤b.natAbs
theorem BI.start(a b:Int):BI a b a 1 0 b 0 1 where
 up:=by simp
 lo:=by simp
 gcd:=rfl
 p1:=by simp;omega
 p2:=by simp
 ph := .inl ⟨rfl,rfl,rfl,rfl,rfl,rfl⟩
 b1:=by simp
 b2:=by simp
 b3:=by simp
 b4:=by simp
 c1:=by omega
 c2:=by omega
theorem pot(L A R Qa u1 l1 f1 E:Nat)(hA:Qa*L+R≤A+E)(hf:f1≤u1+Qa*l1):L*f1+R*l1≤A*l1+L*u1+E*l1:=by
 have h1:L*f1≤L*(u1+Qa*l1):=Nat.mul_le_mul_left L hf
 have h2:L*(u1+Qa*l1)=L*u1+Qa*L*l1:=by
  rw[Nat.mul_add,←Nat.mul_assoc,Nat.mul_comm L Qa]
 have h3:(Qa*L+R)*l1≤(A+E)*l1:=Nat.mul_le_mul_right l1 hA
 rw[Nat.add_mul,Nat.add_mul]at h3
 omega
theorem zcN(u l:Int)(h:0<l):(u-u.fdiv l*l).natAbs<l.natAbs∧0≤l*(u-u.fdiv l*l)∧(0≤u*l→(u.fdiv l).natAbs*l.natAbs+(u-u.fdiv l*l).natAbs=u.natAbs) ∧
  (u.fdiv l).natAbs*l.natAbs≤u.natAbs+(u-u.fdiv l*l).natAbs:=by
 have hs:u.fdiv l*l=u-u.fmod l:=Int.fdiv_mul_self u l
 have hq:(u.fdiv l).natAbs*l.natAbs=(u.fdiv l*l).natAbs:=(Int.natAbs_mul _ _).symm
 have e:u-u.fdiv l*l=u.fmod l:=by omega
 rw[e,hq,hs]
 have h1:0≤u.fmod l:=Int.fmod_nonneg_of_pos u h
 have h2:u.fmod l<l:=Int.fmod_lt_of_pos u h
 refine⟨by omega,Int.mul_nonneg (by omega) h1,fun hu=>?_,by omega⟩
 have hu0:0≤u:=by
  by_cases hu':0≤u
  · exact hu'
  · have:=Int.mul_neg_of_neg_of_pos (show u<0 by omega) h
    omega
 have:u.fmod l≤u:=by
  have q1:0≤u.fdiv l:=Int.fdiv_nonneg hu0 (by omega)
  have q2:0≤u.fdiv l*l:=Int.mul_nonneg q1 (by omega)
  omega
 omega
theorem zi6(u l:Int)(hl:l≠0):(u-u.fdiv l*l).natAbs<l.natAbs∧0≤l*(u-u.fdiv l*l)∧(0≤u*l→(u.fdiv l).natAbs*l.natAbs+(u-u.fdiv l*l).natAbs=u.natAbs) ∧
   (u.fdiv l).natAbs*l.natAbs≤u.natAbs+(u-u.fdiv l*l).natAbs:=by
 rcases Int.lt_or_gt_of_ne hl with h|h
 · have q:=zcN (-u) (-l) (by omega)
   rw[Int.neg_fdiv_neg]at q
   have e : -u-u.fdiv l * -l = -(u-u.fdiv l*l):=by rw[Int.mul_neg];omega
   rw[e,Int.natAbs_neg,Int.natAbs_neg,Int.natAbs_neg,Int.neg_mul_neg,Int.neg_mul_neg]at q
   exact q
 · exact zcN u l h
theorem z93{a b c:Nat}(h:a*b≤c)(ha:a≠0):b≤c:=Nat.le_trans (Nat.le_mul_of_pos_left b (Nat.pos_of_ne_zero ha)) h
theorem zi7(u q l:Int):(u-q*l).natAbs≤u.natAbs+q.natAbs*l.natAbs:=by
 have:=Int.natAbs_mul q l
 omega
theorem BI.turn{a b u0 u1 u2 l0 l1 l2:Int}(h:BI a b u0 u1 u2 l0 l1 l2)(hl:l0≠0):
   BI a b l0 l1 l2 (u0-u0.fdiv l0*l0) (u1-u0.fdiv l0*l1) (u2-u0.fdiv l0*l2):=by
 obtain⟨r1,r2,r3,r4⟩:=zi6 u0 l0 hl
 have hL:l0.natAbs≠0:=fun e=>hl (Int.natAbs_eq_zero.mp e)
 have hup:=h.up
 have hlo:=h.lo
 generalize eq:u0.fdiv l0=q at *
 have lin:∀(x y:Int),a*(x-q*l1)+b*(y-q*l2)=(a*x+b*y)-q*(a*l1+b*l2):=fun x y=>by
   rw[Int.mul_sub,Int.mul_sub,Int.mul_add,Int.mul_left_comm a q l1,Int.mul_left_comm b q l2];omega
 have f1:(u1-q*l1).natAbs≤u1.natAbs+q.natAbs*l1.natAbs:=zi7 u1 q l1
 have f2:(u2-q*l2).natAbs≤u2.natAbs+q.natAbs*l2.natAbs:=zi7 u2 q l2
 have key:∀(x y f:Nat),f≤x+q.natAbs*y→u0.natAbs*y+l0.natAbs*x≤a.natAbs+2*b.natAbs→((0≤u0*l0)∨(y=0)∨(y=1∧x=0∧u0=a∧l0=b)) →
     l0.natAbs*f+(u0-q*l0).natAbs*y≤a.natAbs+2*b.natAbs:=fun x y f hf hp hc=>by
   rcases hc with hc|hc|⟨hc,hx,ha,hb⟩
   · have:=pot l0.natAbs u0.natAbs (u0-q*l0).natAbs q.natAbs x y f 0 (by have:=r3 hc;omega) hf
     omega
   · subst hc
     have:l0.natAbs*f≤l0.natAbs*x:=Nat.mul_le_mul_left _ (by omega)
     omega
   · subst hc;subst hx
     have:=pot l0.natAbs u0.natAbs (u0-q*l0).natAbs q.natAbs 0 1 f (2*(u0-q*l0).natAbs) (by omega) hf
     have hab:u0.natAbs=a.natAbs:=by rw[ha]
     have hbb:l0.natAbs=b.natAbs:=by rw[hb]
     generalize (u0-q*l0).natAbs=R at *
     generalize l0.natAbs*f=Z at *
     omega
 have ph1:0≤u0*l0∨l1.natAbs=0∨(l1.natAbs=1∧u1.natAbs=0∧u0=a∧l0=b):=by
   rcases h.ph with⟨_,_,_,_,e,_⟩|⟨e,_⟩
   · exact .inr (.inl (by rw[e];rfl))
   · exact .inl e
 have ph2:0≤u0*l0∨l2.natAbs=0∨(l2.natAbs=1∧u2.natAbs=0∧u0=a∧l0=b):=by
   rcases h.ph with⟨e1,_,e2,e3,_,e4⟩|⟨e,_⟩
   · exact .inr (.inr ⟨by rw[e4];rfl,by rw[e2];rfl,e1,e3⟩)
   · exact .inl e
 have k1:=key _ _ _ f1 h.p1 ph1
 have k2:=key _ _ _ f2 h.p2 ph2
 have c2:=h.c2
 refine⟨hlo,?_,?_,k1' k1,k1' k2,.inr ⟨r2,hl⟩,h.b3,h.b4,?_,?_,by omega,by omega⟩
 · rw[lin,hup,hlo]
 · rw[Int.gcd_sub_mul_right_right,Int.gcd_comm,h.gcd]
 · exact Nat.le_succ_of_le (z93 (Nat.le_trans (Nat.le_add_right _ _) k1) hL)
 · exact Nat.le_succ_of_le (z93 (Nat.le_trans (Nat.le_add_right _ _) k2) hL)
where k1' {x y:Nat} (h:x≤y):x≤y:=h
theorem BI.fin{a b u0 u1 u2 l1 l2:Int}(h:BI a b u0 u1 u2 0 l1 l2):(u0.natAbs:Int)=Int.gcd a b:=by
 have:=h.gcd
 rw[Int.gcd_zero_right]at this
 rw[this]
end Br

end
section
set_option linter.all false
set_option maxRecDepth 100000
namespace St
abbrev Row:=List Int
def at0(r:Row)(k:Nat):Int:=r.getD k 0
def z02:Row→Nat
 | []=>0
 | x::r=>if x=0 then z02 r+1 else 0
theorem z7e:∀ r:Row,z02 r≤r.length
 | []=>Nat.le_refl _
 | x::r=>by
  unfold z02
  split
  · exact Nat.succ_le_succ (z7e r)
  · exact Nat.zero_le _
theorem z0p:∀(r:Row) (k:Nat),k<z02 r→at0 r k=0
 | [],k,h=>by simp[z02]at h
 | x::r,k,h=>by
  unfold z02 at h
  split at h
  · rename_i hx
    cases k with
    | zero=>simp[at0,hx]
    | succ k=>exact z0p r k (by omega)
  · omega
theorem z6u:∀(r:Row),z02 r<r.length→at0 r (z02 r)≠0
 | [],h=>by simp[z02]at h
 | x::r,h=>by
  unfold z02 at h ⊢
  split at h
  · rename_i hx
    rw[if_pos hx]
    exact z6u r (by simpa using h)
  · rename_i hx
    rw[if_neg hx]
    exact hx
theorem z2r:∀(r:Row) (h:Nat),(∀ k,k<h→at0 r k=0)→at0 r h≠0→z02 r=h
 | [],h,_,q=>by simp[at0]at q
 | x::r,0,_,q=>by
  unfold z02
  rw[if_neg (by simpa[at0]using q)]
 | x::r,h+1,z,q=>by
  have hx:x=0:=by simpa[at0]using z 0 (by omega)
  unfold z02
  rw[if_pos hx,z2r r h (fun k hk=>by simpa[at0]using z (k+1) (by omega)) (by simpa[at0]using q)]
theorem zjg(r:Row)(h:Nat)(z:∀ k,k<h→at0 r k=0)(hl:h≤r.length):h≤z02 r:=by
 apply Nat.le_of_not_lt
 intro hlt
 exact z6u r (by omega) (z _ hlt)
theorem z1l{r:Row}{k:Nat}(h:r.length≤k):at0 r k=0:=by simp[at0,List.getD,List.getElem?_eq_none h]
theorem ext0{a b:Row}(h:a.length=b.length)(q:∀ k,at0 a k=at0 b k):a=b:=by
 apply List.ext_getElem h
 intro i h1 h2
 have:=q i
 simpa[at0,List.getD,List.getElem?_eq_getElem h1,List.getElem?_eq_getElem h2]using this
def sub(a:Row)(q:Int)(b:Row):Row:=List.zipWith (fun x y=>x-q*y) a b
theorem z2X{a b:Row}{q:Int}(h:a.length=b.length):(sub a q b).length=a.length:=by unfold sub;rw[List.length_zipWith];omega
theorem z3y{a b:Row}{q:Int}(h:a.length=b.length)(k:Nat):at0 (sub a q b) k=at0 a k-q*at0 b k:=by
 by_cases hk:k<a.length
 · unfold at0 sub
   simp[List.getD,List.getElem?_zipWith,List.getElem?_eq_getElem hk,List.getElem?_eq_getElem (show k<b.length by omega)]
 · rw[z1l (by rw[z2X h];omega),z1l (by omega),z1l (show b.length≤k by omega)];simp
def lin(x:Int)(a:Row)(y:Int)(b:Row):Row:=List.zipWith (fun p q=>x*p+y*q) a b
theorem z8q{a b:Row}{x y:Int}(h:a.length=b.length):(lin x a y b).length=a.length:=by unfold lin;rw[List.length_zipWith];omega
theorem z8r{a b:Row}{x y:Int}(h:a.length=b.length)(k:Nat):at0 (lin x a y b) k=x*at0 a k+y*at0 b k:=by
 by_cases hk:k<a.length
 · unfold at0 lin
   simp[List.getD,List.getElem?_zipWith,List.getElem?_eq_getElem hk,List.getElem?_eq_getElem (show k<b.length by omega)]
 · rw[z1l (by rw[z8q h];omega),z1l (by omega),z1l (show b.length≤k by omega)];simp
def hd(r:Row):Int:=at0 r (z02 r)
def z0Q(left rung:Row):Int:=(at0 left (z02 rung)).fdiv (hd rung)
def z0i:Row→List Row→Row
 | left,[]=>left
 | left,r::rs=>z0i (sub left (z0Q left r) r) rs
def z94:Row→List Row→List Int
 | _,[]=>[]
 | left,r::rs=>z0Q left r::z94 (sub left (z0Q left r) r) rs
def Asc(n:Nat):Nat→List Row→Prop
 | _,[]=>True
 | f,r::rs=>r.length=n∧f≤z02 r∧z02 r<n∧0<hd r∧Asc n (z02 r+1) rs
theorem Asc.weak{n:Nat}:∀{f g:Nat} {S:List Row},Asc n f S→g≤f→Asc n g S
 | _,_,[],_,_=>trivial
 | _,_,r::rs,⟨h1,h2,h3,h4,h5⟩,h=>⟨h1,Nat.le_trans h h2,h3,h4,h5⟩
theorem Asc.mem{n:Nat}:∀{f:Nat} {S:List Row} {r:Row},Asc n f S→r∈S→r.length=n∧f≤z02 r∧z02 r<n∧0<hd r
 | _,_::_,_,⟨h1,h2,h3,h4,h5⟩,.head _=>⟨h1,h2,h3,h4⟩
 | _,_::_,_,⟨h1,h2,h3,h4,h5⟩,.tail _ q=>by obtain⟨a,b,c,d⟩:=h5.mem q;exact⟨a,by omega,c,d⟩
theorem z67{n:Nat}:∀{f:Nat} {S:List Row} {left:Row},Asc n f S→left.length=n→(z0i left S).length=n
 | _,[],left,_,h=>h
 | _,r::rs,left,⟨h1,h2,h3,h4,h5⟩,h=>by rw[z0i];exact z67 h5 (by rw[z2X (by omega)];exact h)
theorem z4q{n:Nat}:∀{f:Nat} {S:List Row} {left:Row},Asc n f S→left.length=n→∀ k,k<f→at0 (z0i left S) k=at0 left k
 | _,[],left,_,h,k,_=>rfl
 | f,r::rs,left,⟨h1,h2,h3,h4,h5⟩,h,k,hk=>by
  rw[z0i,z4q h5 (by rw[z2X (by omega)];exact h) k (by omega),z3y (by omega),z0p r k (by omega)]
  simp
theorem z7f(a:Int){b:Int}(h:0<b):0≤a-a.fdiv b*b∧a-a.fdiv b*b<b:=by
 have h1:=Int.fmod_nonneg_of_pos a h
 have h2:=Int.fmod_lt_of_pos a h
 have h3:=Int.mul_fdiv_add_fmod a b
 rw[Int.mul_comm]at h3
 omega
theorem z3z{n:Nat}:∀{f:Nat} {S:List Row} {left:Row},Asc n f S→left.length=n→∀ r∈S,0≤at0 (z0i left S) (z02 r)∧at0 (z0i left S) (z02 r)<hd r
 | f,r::rs,left,⟨h1,h2,h3,h4,h5⟩,h,x,hx=>by
  have hl:(sub left (z0Q left r) r).length=n:=by rw[z2X (by omega)];exact h
  rw[z0i]
  cases hx with
  | head =>
   rw[z4q h5 hl _ (Nat.lt_succ_self _),z3y (by omega)]
   exact z7f _ h4
  | tail _ hx=>exact z3z h5 hl x hx
def Lt(m:Nat)(r:Row):Prop:=∀ k,(at0 r k).natAbs<m
theorem Lt.mono{m m':Nat}{r:Row}(h:Lt m r)(q:m≤m'):Lt m' r:=fun k=>Nat.lt_of_lt_of_le (h k) q
theorem z3W(a:Int){b:Int}(h:0<b):(a.fdiv b).natAbs≤a.natAbs:=by
 have h1:=z7f a h
 generalize a.fdiv b=q at *
 rcases Int.lt_trichotomy q 0 with hq|hq|hq
 · have e:(q+1)*b=q*b+b:=by rw[Int.add_mul];omega
   have:(q+1)*b≤(q+1)*1:=Int.mul_le_mul_of_nonpos_left (by omega) (by omega)
   omega
 · subst hq;simp
 · have:q*1≤q*b:=Int.mul_le_mul_of_nonneg_left (by omega) (by omega)
   omega
theorem sub_lt{a b:Row}{q:Int}{s t u:Nat}(hl:a.length=b.length)(ha:Lt s a)(hb:Lt t b)(hq:q.natAbs≤u)(hs:0<s)(ht:0<t):Lt (s+u*t) (sub a q b):=fun k=>by
 rw[z3y hl]
 have h1:=ha k
 have h2:=hb k
 have h3:(q*at0 b k).natAbs≤u*(t-1):=by rw[Int.natAbs_mul];exact Nat.mul_le_mul hq (by omega)
 have h4:u*(t-1)≤u*t:=Nat.mul_le_mul_left _ (by omega)
 omega
theorem zkz{left r:Row}{s t:Nat}(hl:left.length=r.length)(hr:0<hd r)(ha:Lt s left)(hb:Lt t r):Lt (s*(t+1)) (sub left (z0Q left r) r):=by
 have hs:0<s:=Nat.lt_of_le_of_lt (Nat.zero_le _) (ha 0)
 have ht:0<t:=Nat.lt_of_le_of_lt (Nat.zero_le _) (hb 0)
 have:=sub_lt (q:=z0Q left r) (u:=s) hl ha hb (Nat.le_trans (z3W (at0 left (z02 r)) hr) (Nat.le_of_lt (ha (z02 r)))) hs ht
 rw[Nat.mul_add,Nat.mul_one,Nat.add_comm]
 exact this
end St

end
section
local macro_rules|`(tactic| omega)=>`(tactic| first|lia|omega +splitDisjunctions)
set_option linter.all false
set_option maxRecDepth 100000
namespace St
open Lat
abbrev vec(r:Row):Vec:=fun k=>at0 r k
abbrev vecs(S:List Row):List Vec:=S.map vec
theorem z95{S:List Row}{r:Row}(h:r∈S):vec r∈vecs S:=List.mem_map.mpr ⟨r,h,rfl⟩
theorem z2H{n:Nat}:∀{f:Nat} {S:List Row} {left:Row},Asc n f S→left.length=n→Span (vecs S) (fun k=>at0 left k-at0 (z0i left S) k)
 | _,[],left,_,h=>fun k=>by show at0 left k-at0 left k=0;omega
 | f,r::rs,left,⟨h1,h2,h3,h4,h5⟩,h=>by
  have hl:(sub left (z0Q left r) r).length=n:=by rw[z2X (by omega)];exact h
  have ih:=z2H h5 hl
  refine⟨z0Q left r,Span.congr (fun k=>?_) ih⟩
  rw[z0i]
  show at0 (sub left (z0Q left r) r) k-at0 (z0i (sub left (z0Q left r) r) rs) k=at0 left k-at0 (z0i (sub left (z0Q left r) r) rs) k-z0Q left r*at0 r k
  rw[z3y (by omega)]
  omega
def mix:List Row→List Int→Vec
 | r::rs,c::cs=>fun k=>c*at0 r k+mix rs cs k
 | _,_=>fun _=>0
theorem Asc.low{n:Nat}:∀{f:Nat} {S:List Row} {v:Vec},Asc n f S→Span (vecs S) v→∀ k,k<f→v k=0
 | _,[],v,_,s,k,_=>s k
 | f,r::S,v,⟨h1,h2,h3,h4,h5⟩,⟨c,s⟩,k,hk=>by
  have e:=Asc.low h5 s k (by omega)
  have e2:at0 r k=0:=z0p r k (by omega)
  have e:v k-c*at0 r k=0:=e
  rw[e2]at e
  simpa using e
theorem Asc.coef{n f:Nat}{r:Row}{v:Vec}{S:List Row}{c:Int}(A:Asc n f (r::S))(s:Span (vecs S) (fun k=>v k-c*at0 r k)):v (z02 r)=c*hd r:=by
 have:v (z02 r)-c*at0 r (z02 r)=0:=A.2.2.2.2.low s _ (Nat.lt_succ_self _)
 unfold hd
 omega
theorem Asc.first{n:Nat}:∀{f:Nat} {S:List Row} {v:Vec} {h:Nat},Asc n f S→Span (vecs S) v→(∀ k,k<h→v k=0)→v h≠0→∃ r∈S,z02 r=h
 | _,[],v,h,_,s,_,q=>absurd (s h) q
 | f,r::S,v,h,A,⟨c,s⟩,z,q=>by
  have e:=A.coef s
  by_cases hc:c=0
  · subst hc
    have s':Span (vecs S) v:=Span.congr (fun k=>by simp) s
    obtain⟨x,hx,e⟩:=A.2.2.2.2.first s' z q
    exact⟨x,List.mem_cons_of_mem _ hx,e⟩
  · have hn:v (z02 r)≠0:=by
      rw[e]
      intro z
      rcases Int.mul_eq_zero.mp z with z|z
      · exact hc z
      · have:=A.2.2.2.1;omega
    have h1:¬z02 r<h:=fun z'=>hn (z _ z')
    by_cases h2:h<z02 r
    · exfalso
      have e2:v h-c*at0 r h=0:=A.2.2.2.2.low s h (by omega)
      rw[z0p r h h2]at e2
      exact q (by simpa using e2)
    · exact⟨r,List.mem_cons_self,by omega⟩
def even:List Row→List Row
 | []=>[]
 | r::rs=>z0i r (even rs)::even rs
theorem z32{n:Nat}:∀{f:Nat} {S:List Row},Asc n f S→Asc n f (even S)∧(even S).map z02=S.map z02∧(even S).map hd=S.map hd
 | _,[],_=>⟨trivial,rfl,rfl⟩
 | f,r::rs,⟨h1,h2,h3,h4,h5⟩=>by
  obtain⟨i1,i2,i3⟩:=z32 h5
  have low:=z4q i1 h1
  have e1:at0 (z0i r (even rs)) (z02 r)=hd r:=low _ (Nat.lt_succ_self _)
  have e2:z02 (z0i r (even rs))=z02 r:=z2r _ _ (fun k hk=>by rw[low k (by omega)];exact z0p r k hk) (by rw[e1];omega)
  have e3:hd (z0i r (even rs))=hd r:=by unfold hd;rw[e2];exact e1
  refine⟨⟨z67 i1 h1,by rw[e2];exact h2,by rw[e2];exact h3,by rw[e3];exact h4,by rw[e2];exact i1⟩,?_,?_⟩
  · rw[even,List.map_cons,List.map_cons,e2,i2]
  · rw[even,List.map_cons,List.map_cons,e3,i3]
def z0D(S:List Row):List (Nat×Vec):=S.map fun r=>(z02 r,vec r)
theorem zaB{n:Nat}:∀{f:Nat} {S:List Row},Asc n f S→Form f (z0D (even S))
 | _,[],_=>trivial
 | f,r::rs,A=>by
  obtain⟨j1,_,_⟩:=z32 A
  obtain⟨h1,h2,h3,h4,h5⟩:=A
  obtain⟨i1,i2,i3⟩:=z32 h5
  obtain⟨k1,k2,k3,k4,k5⟩:=j1
  have low:=z4q i1 h1
  have e1:at0 (z0i r (even rs)) (z02 r)=hd r:=low _ (Nat.lt_succ_self _)
  have e2:z02 (z0i r (even rs))=z02 r:=z2r _ _ (fun k hk=>by rw[low k (by omega)];exact z0p r k hk) (by rw[e1];omega)
  refine⟨k2,fun k hk=>z0p _ k hk,k4,fun p hp=>?_,by rw[e2];exact zaB h5⟩
  obtain⟨x,hx,rfl⟩:=List.mem_map.mp hp
  exact z3z i1 h1 x hx
theorem zaC{n:Nat}:∀{f:Nat} {S:List Row},Asc n f S→SameSpan (vecs (even S)) (vecs S)
 | _,[],_=>SameSpan.refl
 | f,r::rs,A=>by
  obtain⟨h1,h2,h3,h4,h5⟩:=A
  obtain⟨i1,i2,i3⟩:=z32 h5
  have ih:=zaC h5
  have sp:=z2H i1 h1
  constructor
  · intro v hv
    obtain⟨x,hx,rfl⟩:=List.mem_map.mp hv
    rcases List.mem_cons.mp hx with rfl|hx
    · refine⟨1,Span.congr (fun k=>?_) ((ih.iff.mp sp).neg)⟩
      show -(at0 r k-at0 (z0i r (even rs)) k)=at0 (z0i r (even rs)) k-1*at0 r k
      omega
    · exact(ih.1 _ (z95 hx)).cons
  · intro v hv
    obtain⟨x,hx,rfl⟩:=List.mem_map.mp hv
    rcases List.mem_cons.mp hx with rfl|hx
    · refine⟨1,Span.congr (fun k=>?_) sp⟩
      show at0 x k-at0 (z0i x (even rs)) k=at0 x k-1*at0 (z0i x (even rs)) k
      omega
    · exact(ih.2 _ (z95 hx)).cons
end St

end
section
local macro_rules|`(tactic| omega)=>`(tactic| first|lia|omega +splitDisjunctions)
set_option linter.all false
set_option maxRecDepth 100000
namespace St
open Lat
theorem Asc.iff{n:Nat}:∀{f:Nat} {S:List Row},Asc n f S↔(∀ r∈S,r.length=n∧f≤z02 r∧z02 r<n∧0<hd r)∧(S.map z02).Pairwise (·<·)
 | f,[]=>by simp[Asc]
 | f,r::rs=>by
  constructor
  · intro A
    refine⟨fun x hx=>A.mem hx,?_⟩
    rw[List.map_cons,List.pairwise_cons]
    refine⟨fun h hh=>?_,(Asc.iff.mp A.2.2.2.2).2⟩
    obtain⟨x,hx,rfl⟩:=List.mem_map.mp hh
    exact(A.2.2.2.2.mem hx).2.1
  · rintro⟨h1,h2⟩
    rw[List.map_cons,List.pairwise_cons]at h2
    have q:=h1 r List.mem_cons_self
    refine⟨q.1,q.2.1,q.2.2.1,q.2.2.2,Asc.iff.mpr ⟨fun x hx=>?_,h2.2⟩⟩
    have q2:=h1 x (List.mem_cons_of_mem _ hx)
    exact⟨q2.1,h2.1 _ (List.mem_map.mpr ⟨x,hx,rfl⟩),q2.2.2.1,q2.2.2.2⟩
theorem sub_zero{a b:Row}(h:a.length=b.length):sub a 0 b=a:=ext0 (z2X h) fun k=>by rw[z3y h];simp
theorem z83{n:Nat}{t:Nat}:∀{S:List Row} {left:Row},(∀ r∈S,r.length=n)→left.length=n→(∀ k,k<t→at0 left k=0)→(∀ k,k<t→at0 (z0i left S) k=0)∧(z0i left S).length=n
 | [],left,_,hl,z=>⟨z,hl⟩
 | r::rs,left,hw,hl,z=>by
  have h1:=hw r List.mem_cons_self
  rw[z0i]
  refine z83 (fun x hx=>hw x (List.mem_cons_of_mem _ hx)) (by rw[z2X (by omega)];exact hl) fun k hk=>?_
  rw[z3y (by omega),z k hk]
  by_cases hh:z02 r<t
  · have:z0Q left r=0:=by unfold z0Q;rw[z _ hh];simp
    rw[this];simp
  · rw[z0p r k (by omega)];simp
def LowB(m:Nat):Row→List Row→Prop
 | _,[]=>True
 | left,r::rs=>(z0Q left r=0∨((z0Q left r).natAbs<2 ^ m∧Lt (2 ^ m) r))∧LowB m (sub left (z0Q left r) r) rs
theorem z2I{n t s e m:Nat}:∀{S:List Row} {left:Row},(∀ r∈S,r.length=n∧0<hd r)→left.length=n→(∀ k,k<t→at0 left k=0)→(∀ r∈S,t≤z02 r→Lt (2 ^ e) r)→Lt (2 ^ s) left→s+S.length*(e+1)≤m→e≤m →
  Lt (2 ^ (s+S.length*(e+1))) (z0i left S)∧LowB m left S
 | [],left,_,hl,z,_,hs,_,_=>⟨by simpa[z0i]using hs,trivial⟩
 | r::rs,left,hw,hl,z,hb,hs,hm,hem=>by
  have h1:=hw r List.mem_cons_self
  have lenE:(r::rs).length*(e+1)=rs.length*(e+1)+(e+1):=by rw[List.length_cons,Nat.succ_mul]
  have e2:∀ q,(sub left q r).length=n:=fun q=>by rw[z2X (by omega)];exact hl
  by_cases hh:z02 r<t
  · have o:z0Q left r=0:=by unfold z0Q;rw[z _ hh];simp
    have es:sub left (z0Q left r) r=left:=by rw[o];exact sub_zero (by omega)
    obtain⟨i1,i2⟩:=z2I (t:=t) (s:=s) (e:=e) (m:=m) (S:=rs) (left:=left) (fun x hx=>hw x (List.mem_cons_of_mem _ hx)) hl z (fun x hx=>hb x (List.mem_cons_of_mem _ hx)) hs (by omega) hem
    rw[z0i,LowB,es]
    exact⟨i1.mono (Nat.pow_le_pow_right (by decide) (by omega)),.inl o,i2⟩
  · have hr:Lt (2 ^ e) r:=hb r List.mem_cons_self (by omega)
    have st:=zkz (s:=2 ^ s) (t:=2 ^ e) (by omega) h1.2 hs hr
    have st':Lt (2 ^ (s+(e+1))) (sub left (z0Q left r) r):=by
     refine st.mono ?_
     rw[Nat.pow_add]
     refine Nat.mul_le_mul_left _ ?_
     have:0<2 ^ e:=Nat.two_pow_pos e
     rw[Nat.pow_succ];omega
    obtain⟨i1,i2⟩:=z2I (t:=t) (s:=s+(e+1)) (e:=e) (m:=m) (S:=rs) (left:=sub left (z0Q left r) r) (fun x hx=>hw x (List.mem_cons_of_mem _ hx)) (e2 _)
     (fun k hk=>by rw[z3y (by omega),z k hk,z0p r k (by omega)];simp) (fun x hx=>hb x (List.mem_cons_of_mem _ hx)) st' (by omega) hem
    rw[z0i,LowB]
    refine⟨i1.mono (Nat.pow_le_pow_right (by decide) (by omega)),.inr ⟨?_,hr.mono (Nat.pow_le_pow_right (by decide) hem)⟩,i2⟩
    refine Nat.lt_of_le_of_lt (z3W (at0 left (z02 r)) h1.2) (Nat.lt_of_lt_of_le (hs _) (Nat.pow_le_pow_right (by decide) (by omega)))
def z0J(r left:Row)(x y:Int):Row:=lin x r y left
def z1j(r left:Row)(g:Int):Row:=lin ((at0 r (z02 r)).fdiv g) left (-((at0 left (z02 r)).fdiv g)) r
structure Wi(n e eh m0 kk:Nat)(S0:List Row)(v:Row)(S:List Row)(left:Row):Prop where
 asc:Asc n 0 S
 len:left.length=n
 heads:S.map z02=S0.map z02
 span:SameSpan (vecs (left::S)) (vecs (v::S0))
 low:∀ r∈S,0≤at0 left (z02 r)∧at0 left (z02 r)<hd r
 right:∀ r∈S,z02 left≤z02 r→Lt (2 ^ e) r
 hds:∀ r∈S,hd r<2 ^ eh
 size:Lt (2 ^ (m0+z02 left*kk)) left
 all:∀ r∈S,Lt (2 ^ (e+3+(m0+z02 left*kk))) r
theorem zkA{a b:Row}{x y:Int}{p q s:Nat}(h:a.length=b.length)(hx:x.natAbs<2 ^ p)(hy:y.natAbs<2 ^ p)(ha:Lt (2 ^ q) a)(hb:Lt (2 ^ q) b)(hs:p+q+1≤s):Lt (2 ^ s) (lin x a y b):=fun k=>by
 rw[z8r h]
 have h1:(x*at0 a k).natAbs<2 ^ (p+q):=by
  rw[Int.natAbs_mul,Nat.pow_add]
  exact Nat.mul_lt_mul'' hx (ha k)
 have h2:(y*at0 b k).natAbs<2 ^ (p+q):=by
  rw[Int.natAbs_mul,Nat.pow_add]
  exact Nat.mul_lt_mul'' hy (hb k)
 have h3:2 ^ (p+q+1)≤2 ^ s:=Nat.pow_le_pow_right (by decide) hs
 rw[Nat.pow_succ]at h3
 omega +splitDisjunctions
theorem z0f{S:List Row}{r:Row}(h:r∈S):Span (vecs S) (fun k=>at0 r k):=Span.mem (z95 h)
theorem z6v{T:List Vec}{u v:Vec}(x y:Int)(hu:Span T u)(hv:Span T v):Span T (fun k=>x*u k+y*v k):=(hu.smul x).add (hv.smul y)
theorem z4r{A B:List Row}(h1:∀ r∈A,Span (vecs B) (fun k=>at0 r k))(h2:∀ r∈B,Span (vecs A) (fun k=>at0 r k)):SameSpan (vecs A) (vecs B):=by
 constructor
 · intro v hv
   obtain⟨r,hr,rfl⟩:=List.mem_map.mp hv
   exact h1 r hr
 · intro v hv
   obtain⟨r,hr,rfl⟩:=List.mem_map.mp hv
   exact h2 r hr
theorem Wi.step{n e eh m0 kk:Nat}{S0:List Row}{v:Row}{S1 S2:List Row}{r left:Row}{g x y:Int}(I:Wi n e eh m0 kk S0 v (S1++r::S2) left)(hh:z02 r=z02 left)(hn:z02 left<n)
   (hg:0<g) (ga:g∣hd r) (gb:g∣at0 left (z02 r)) (hxy:hd r*x+at0 left (z02 r)*y=g) (hx:x.natAbs<2 ^ (e+2)) (hy:y.natAbs<2 ^ (e+2)) (he:e≤m0)
   (hk:2*e+3+(S1.length+S2.length+1)*(e+1)≤kk) :
   Wi n e eh m0 kk S0 v (S1++z0J r left x y::S2) (z0i (z1j r left g) (S1++z0J r left x y::S2))∧z02 left<z02 (z0i (z1j r left g) (S1++z0J r left x y::S2)) ∧
     LowB (m0+n*kk) (z1j r left g) (S1++z0J r left x y::S2)∧(∀ q∈S1++z0J r left x y::S2,hd q<2 ^ eh):=by
 have hrm:r∈S1++r::S2:=List.mem_append.mpr (.inr List.mem_cons_self)
 have q:=I.asc.mem hrm
 have hl:r.length=left.length:=by rw[q.1,I.len]
 have hlow:=I.low r hrm
 have hu:∀ k,at0 (z0J r left x y) k=x*at0 r k+y*at0 left k:=fun k=>z8r hl k
 have hlo:∀ k,at0 (z1j r left g) k=((at0 r (z02 r)).fdiv g)*at0 left k+(-((at0 left (z02 r)).fdiv g))*at0 r k:=fun k=>z8r hl.symm k
 have lu:(z0J r left x y).length=n:=by unfold z0J;rw[z8q hl];exact q.1
 have llo:(z1j r left g).length=n:=by unfold z1j;rw[z8q hl.symm];exact I.len
 obtain⟨a',ea⟩:=ga
 obtain⟨b',eb⟩:=gb
 have da:(hd r).fdiv g=a':=by rw[ea];exact Int.mul_fdiv_cancel_left _ (by omega)
 have db:(at0 left (z02 r)).fdiv g=b':=by rw[eb];exact Int.mul_fdiv_cancel_left _ (by omega)
 have hlo:∀ k,at0 (z1j r left g) k=a'*at0 left k+(-b')*at0 r k:=fun k=>by
   have:=hlo k
   rw[db,show at0 r (z02 r)=hd r from rfl,da]at this
   exact this
 have det:a'*x+b'*y=1:=by
   have:g*(a'*x+b'*y)=g*1:=by rw[Int.mul_add,←Int.mul_assoc,←Int.mul_assoc,←ea,←eb];omega
   exact Int.eq_of_mul_eq_mul_left (by omega) this
 have zb:∀ k,k<z02 left→at0 r k=0∧at0 left k=0:=fun k hk=>⟨z0p r k (by omega),z0p left k hk⟩
 have us:at0 (z0J r left x y) (z02 r)=g:=by rw[hu,←hxy];show x*hd r+y*_=_;rw[Int.mul_comm x,Int.mul_comm y]
 have uh:z02 (z0J r left x y)=z02 r:=z2r _ _ (fun k hk=>by rw[hu,(zb k (by omega)).1,(zb k (by omega)).2];simp) (by rw[us];omega)
 have uhd:hd (z0J r left x y)=g:=by unfold hd;rw[uh];exact us
 have gle:g≤hd r:=Int.le_of_dvd q.2.2.2 ⟨a',ea⟩
 have lz:∀ k,k<z02 left+1→at0 (z1j r left g) k=0:=fun k hk=>by
   rw[hlo]
   by_cases h:k<z02 left
   · rw[(zb k h).1,(zb k h).2];simp
   · have:k=z02 r:=by omega
     subst this
     rw[eb,show at0 r (z02 r)=hd r from rfl,ea,Int.mul_left_comm a' g b',Int.neg_mul,Int.mul_left_comm b' g a',Int.mul_comm a' b']
     omega
 have asc':Asc n 0 (S1++z0J r left x y::S2):=by
   have A:=Asc.iff.mp I.asc
   refine Asc.iff.mpr ⟨fun z hz=>?_,?_⟩
   · rcases List.mem_append.mp hz with h|h
     · exact A.1 z (List.mem_append.mpr (.inl h))
     · rcases List.mem_cons.mp h with rfl|h
       · exact⟨lu,Nat.zero_le _,by rw[uh];exact q.2.2.1,by rw[uhd];exact hg⟩
       · exact A.1 z (List.mem_append.mpr (.inr (List.mem_cons_of_mem _ h)))
   · have e1:(S1++z0J r left x y::S2).map z02=(S1++r::S2).map z02:=by simp[uh]
     rw[e1];exact A.2
 have hw':∀ z∈S1++z0J r left x y::S2,z.length=n:=fun z hz=>(asc'.mem hz).1
 obtain⟨nz,nl⟩:=z83 (t:=z02 left+1) hw' llo lz
 have hhead:z02 left+1≤z02 (z0i (z1j r left g) (S1++z0J r left x y::S2)):=zjg _ _ nz (by rw[nl];omega)
 have mm:∀ z∈S1++z0J r left x y::S2,z=z0J r left x y∨z∈S1++r::S2:=fun z hz=>by
   rcases List.mem_append.mp hz with h|h
   · exact .inr (List.mem_append.mpr (.inl h))
   · rcases List.mem_cons.mp h with rfl|h
     · exact .inl rfl
     · exact .inr (List.mem_append.mpr (.inr (List.mem_cons_of_mem _ h)))
 have right':∀ z∈S1++z0J r left x y::S2,z02 left+1≤z02 z→Lt (2 ^ e) z:=fun z hz hk=>by
   rcases mm z hz with rfl|h
   · rw[uh]at hk;omega
   · exact I.right z h (by omega)
 have rlt:Lt (2 ^ e) r:=I.right r hrm (by omega)
 have hds':∀ z∈S1++z0J r left x y::S2,hd z<2 ^ eh:=fun z hz=>by
   rcases mm z hz with rfl|h
   · rw[uhd];have:=I.hds r hrm;omega
   · exact I.hds z h
 have aS:(a').natAbs<2 ^ e:=by
   have h1:(hd r).natAbs<2 ^ e:=rlt (z02 r)
   rw[ea,Int.natAbs_mul]at h1
   have:1*a'.natAbs≤g.natAbs*a'.natAbs:=Nat.mul_le_mul_right _ (by omega)
   omega
 have bS:(-b').natAbs<2 ^ e:=by
   have h1:(hd r).natAbs<2 ^ e:=rlt (z02 r)
   have h2:(at0 left (z02 r)).natAbs<2 ^ e:=by omega
   rw[eb,Int.natAbs_mul]at h2
   have:1*b'.natAbs≤g.natAbs*b'.natAbs:=Nat.mul_le_mul_right _ (by omega)
   omega
 have m1:e≤m0+z02 left*kk:=by omega
 have sl:Lt (2 ^ (e+(m0+z02 left*kk)+1)) (z1j r left g):=by
   unfold z1j
   rw[show at0 r (z02 r)=hd r from rfl,da,db]
   exact zkA hl.symm aS bS I.size (rlt.mono (Nat.pow_le_pow_right (by decide) m1)) (Nat.le_refl _)
 have hk1:(z02 left+1)*kk=z02 left*kk+kk:=by rw[Nat.succ_mul]
 have hkn:(z02 left+1)*kk≤n*kk:=Nat.mul_le_mul_right _ (by omega)
 have hkh:(z02 left+1)*kk≤z02 (z0i (z1j r left g) (S1++z0J r left x y::S2))*kk:=Nat.mul_le_mul_right _ hhead
 have lenS:(S1++z0J r left x y::S2).length=S1.length+S2.length+1:=by simp;omega
 obtain⟨z1,z2⟩:=z2I (n:=n) (t:=z02 left+1) (s:=e+(m0+z02 left*kk)+1) (e:=e) (m:=m0+n*kk) (S:=S1++z0J r left x y::S2) (left:=z1j r left g)
   (fun z hz=>⟨hw' z hz,(asc'.mem hz).2.2.2⟩) llo lz right' sl (by rw[lenS];omega) (by omega)
 have low':=z3z asc' llo
 refine⟨⟨asc',nl,?_,?_,low',fun z hz hk=>right' z hz (by omega),hds',z1.mono (Nat.pow_le_pow_right (by decide) (by rw[lenS];omega)),fun z hz=>?_⟩,hhead,z2,hds'⟩
 · rw[←I.heads];simp[uh]
 · refine SameSpan.trans (z4r (B:=left::(S1++r::S2)) ?_ ?_) I.span
   ·
     have oldr:Span (vecs (left::(S1++r::S2))) (fun k=>at0 r k):=z0f (List.mem_cons_of_mem _ hrm)
     have oldl:Span (vecs (left::(S1++r::S2))) (fun k=>at0 left k):=z0f List.mem_cons_self
     have nu:Span (vecs (left::(S1++r::S2))) (fun k=>at0 (z0J r left x y) k):=Span.congr (fun k=>(hu k).symm) (z6v x y oldr oldl)
     have nlo:Span (vecs (left::(S1++r::S2))) (fun k=>at0 (z1j r left g) k):=Span.congr (fun k=>(hlo k).symm) (z6v a' (-b') oldl oldr)
     have all:∀ z∈S1++z0J r left x y::S2,Span (vecs (left::(S1++r::S2))) (fun k=>at0 z k):=fun z hz=>by
       rcases mm z hz with rfl|h
       · exact nu
       · exact z0f (List.mem_cons_of_mem _ h)
     intro z hz
     rcases List.mem_cons.mp hz with rfl|hz
     · have d:=z2H asc' llo
       have d':Span (vecs (left::(S1++r::S2))) (fun k=>at0 (z1j r left g) k-at0 (z0i (z1j r left g) (S1++z0J r left x y::S2)) k) :=
         d.trans fun w hw=>by obtain⟨z,hz,rfl⟩:=List.mem_map.mp hw;exact all z hz
       exact Span.congr (fun k=>by omega) (nlo.sub d')
     · exact all z hz
   · have um:z0J r left x y∈S1++z0J r left x y::S2:=List.mem_append.mpr (.inr List.mem_cons_self)
     have nu:Span (vecs (z0i (z1j r left g) (S1++z0J r left x y::S2)::(S1++z0J r left x y::S2))) (fun k=>at0 (z0J r left x y) k):=z0f (List.mem_cons_of_mem _ um)
     have nlo:Span (vecs (z0i (z1j r left g) (S1++z0J r left x y::S2)::(S1++z0J r left x y::S2))) (fun k=>at0 (z1j r left g) k):=by
       have d:=z2H asc' llo
       have t:Span (vecs (z0i (z1j r left g) (S1++z0J r left x y::S2)::(S1++z0J r left x y::S2))) (fun k=>at0 (z0i (z1j r left g) (S1++z0J r left x y::S2)) k):=z0f List.mem_cons_self
       exact Span.congr (fun k=>by omega) (t.add d.cons)
     have nr:∀ k,at0 r k=a'*at0 (z0J r left x y) k+(-y)*at0 (z1j r left g) k:=fun k=>by
       rw[hu,hlo]
       have:at0 r k=(a'*x+b'*y)*at0 r k:=by rw[det];omega
       rw[this]
       grind
     have nle:∀ k,at0 left k=b'*at0 (z0J r left x y) k+x*at0 (z1j r left g) k:=fun k=>by
       rw[hu,hlo]
       have:at0 left k=(a'*x+b'*y)*at0 left k:=by rw[det];omega
       rw[this]
       grind
     intro z hz
     rcases List.mem_cons.mp hz with rfl|hz
     · exact Span.congr (fun k=>(nle k).symm) (z6v _ _ nu nlo)
     · rcases List.mem_append.mp hz with h|h
       · exact z0f (List.mem_cons_of_mem _ (List.mem_append.mpr (.inl h)))
       · rcases List.mem_cons.mp h with rfl|h
         · exact Span.congr (fun k=>(nr k).symm) (z6v _ _ nu nlo)
         · exact z0f (List.mem_cons_of_mem _ (List.mem_append.mpr (.inr (List.mem_cons_of_mem _ h))))
 · rcases mm z hz with rfl|h
   · exact zkA (q:=m0+z02 left*kk) hl hx hy (rlt.mono (Nat.pow_le_pow_right (by decide) m1)) I.size (by omega)
   · exact(I.all z h).mono (Nat.pow_le_pow_right (by decide) (by omega))
end St

end
section
set_option linter.all false
set_option maxRecDepth 100000
namespace St
open Lat
def Ind(R:List Row):Prop:=∀ cs:List Int,cs.length=R.length→(∀ k,mix R cs k=0)→∀ c∈cs,c=0
theorem z6w{T:List Vec}:∀{R:List Row} {cs:List Int},(∀ r∈R,Span T (fun k=>at0 r k))→Span T (mix R cs)
 | [],cs,_=>by unfold mix;exact Span.zero
 | r::R,[],_=>by unfold mix;exact Span.zero
 | r::R,c::cs,h=>by
  unfold mix
  exact((h r List.mem_cons_self).smul c).add (z6w fun x hx=>h x (List.mem_cons_of_mem _ hx))
def dif(a b:List Int):List Int:=List.zipWith (fun x y=>x-y) a b
theorem zi8{a b:List Int}(h:a.length=b.length):(dif a b).length=a.length:=by unfold dif;rw[List.length_zipWith];omega
theorem zi9:∀{R:List Row} {a b:List Int},a.length=b.length→∀ k,mix R (dif a b) k=mix R a k-mix R b k
 | [],a,b,h,k=>by simp[mix]
 | r::R,[],[],h,k=>by simp[mix,dif]
 | r::R,x::a,y::b,h,k=>by
  have ih:=zi9 (R:=R) (a:=a) (b:=b) (by simpa using h) k
  show(x-y)*at0 r k+mix R (dif a b) k=(x*at0 r k+mix R a k)-(y*at0 r k+mix R b k)
  rw[ih,Int.sub_mul];omega
theorem zcO:∀{a b:List Int},a.length=b.length→(∀ c∈dif a b,c=0)→a=b
 | [],[],_,_=>rfl
 | x::a,y::b,h,z=>by
  have h1:x-y=0:=z _ (List.mem_cons_self)
  rw[zcO (a:=a) (b:=b) (by simpa using h) fun c hc=>z c (List.mem_cons_of_mem _ hc),show x=y by omega]
theorem zaD{N:Nat}:∀{a b:List Int},(∀ c∈a,0≤c∧c≤N)→(∀ c∈b,0≤c∧c≤N)→∀ c∈dif a b,c.natAbs≤N
 | [],_,_,_,c,hc=>by simp[dif]at hc
 | x::a,[],_,_,c,hc=>by simp[dif]at hc
 | x::a,y::b,ha,hb,c,hc=>by
  have hc:c∈(x-y)::dif a b:=hc
  rcases List.mem_cons.mp hc with rfl|hc
  · have:=ha x List.mem_cons_self
    have:=hb y List.mem_cons_self
    omega
  · exact zaD (fun c h=>ha c (List.mem_cons_of_mem _ h)) (fun c h=>hb c (List.mem_cons_of_mem _ h)) c hc
theorem z8s{N B:Nat}:∀{R:List Row} {cs:List Int},(∀ r∈R,Lt B r)→(∀ c∈cs,c.natAbs≤N)→∀ k,(mix R cs k).natAbs≤R.length*(N*B)
 | [],cs,_,_,k=>by simp[mix]
 | r::R,[],_,_,k=>by simp[mix]
 | r::R,c::cs,hr,hc,k=>by
  have ih:=z8s (R:=R) (cs:=cs) (fun x hx=>hr x (List.mem_cons_of_mem _ hx)) (fun x hx=>hc x (List.mem_cons_of_mem _ hx)) k
  show(c*at0 r k+mix R cs k).natAbs≤_
  have h1:(c*at0 r k).natAbs≤N*B:=by
   rw[Int.natAbs_mul];exact Nat.mul_le_mul (hc c List.mem_cons_self) (Nat.le_of_lt (hr r List.mem_cons_self k))
  rw[List.length_cons,Nat.succ_mul]
  omega
theorem z7g{N:Nat}:∀{r:Nat} {t:List Int},z1A (List.replicate r (N+1)) t↔t.length=r∧∀ c∈t,0≤c∧c≤N
 | 0,[]=>by simp[z1A]
 | 0,x::t=>by simp[z1A]
 | r+1,[]=>by simp[z1A,List.replicate]
 | r+1,x::t=>by
  rw[List.replicate_succ,z1A,z7g,List.length_cons]
  constructor
  · rintro⟨h1,h2,h3,h4⟩
    refine⟨by omega,fun c hc=>?_⟩
    rcases List.mem_cons.mp hc with rfl|hc
    · omega
    · exact h4 c hc
  · rintro⟨h1,h2⟩
    have:=h2 x List.mem_cons_self
    exact⟨by omega,by omega,by omega,fun c hc=>h2 c (List.mem_cons_of_mem _ hc)⟩
theorem z96(N:Nat):∀ r,prod (List.replicate r N)=N ^ r
 | 0=>rfl
 | r+1=>by rw[List.replicate_succ,prod,z96,Nat.pow_succ,Nat.mul_comm]
theorem siegel{R:List Row}{B:Nat}(hR:Ind R)(hb:∀ r∈R,Lt B r)(hp:0<B)(hs:List Nat)(hl:hs.length+1=R.length):
   ∃ cs:List Int,cs.length=R.length∧(∀ h∈hs,mix R cs h=0)∧(∃ k,mix R cs k≠0)∧∀ k,(mix R cs k).natAbs≤(2*R.length*B) ^ R.length:=by
 let r:=R.length
 let N:=(2*R.length*B) ^ hs.length
 let W:=R.length*(N*B)
 let f:List Int→List Int:=fun cs=>hs.map fun h=>mix R cs h+(W:Int)
 have main:∃ a b:List Int,z1A (List.replicate r (N+1)) a∧z1A (List.replicate r (N+1)) b∧f a=f b∧a≠b:=by
   apply Classical.byContradiction
   intro no
   have inj:∀ s t,z1A (List.replicate r (N+1)) s→z1A (List.replicate r (N+1)) t→f s=f t→s=t:=fun s t h1 h2 h3=>Classical.byContradiction fun hne=>no ⟨s,t,h1,h2,h3,hne⟩
   have h1:=zi5 (ns:=List.replicate r (N+1)) (ms:=List.replicate hs.length (2*W+1)) f inj fun s hsr=>by
    rw[z7g]at hsr ⊢
    refine⟨by simp[f],fun c hc=>?_⟩
    obtain⟨h,_,rfl⟩:=List.mem_map.mp hc
    have:=z8s (N:=N) hb (cs:=s) (fun c hc=>by have:=hsr.2 c hc;omega) h
    have:(mix R s h).natAbs≤W:=this
    omega
   rw[z96,z96]at h1
   have hr1:1≤R.length:=by omega
   have h2:2*W+1≤(2*R.length*B)*(N+1):=by
    have e:(2*R.length*B)*(N+1)=2*W+2*R.length*B:=by
     show _=2*(R.length*(N*B))+_
     rw[Nat.mul_add,Nat.mul_one]
     congr 1
     rw[Nat.mul_comm N B,Nat.mul_assoc,Nat.mul_assoc]
    have:1≤2*R.length*B:=Nat.mul_pos (by omega) hp
    omega
   have h3:(2*W+1) ^ hs.length≤((2*R.length*B)*(N+1)) ^ hs.length:=Nat.pow_le_pow_left h2 _
   rw[Nat.mul_pow]at h3
   have h4:(N+1) ^ r=(N+1)*(N+1) ^ hs.length:=by rw[show r=hs.length+1 from hl.symm,Nat.pow_succ,Nat.mul_comm]
   rw[h4]at h1
   have h5:(N+1)*(N+1) ^ hs.length≤N*(N+1) ^ hs.length:=Nat.le_trans h1 h3
   have h6:0<(N+1) ^ hs.length:=Nat.pow_pos (by omega)
   rw[Nat.succ_mul]at h5
   omega
 obtain⟨a,b,ha,hb',hf,hne⟩:=main
 rw[z7g]at ha hb'
 have hab:a.length=b.length:=by rw[ha.1,hb'.1]
 refine⟨dif a b,by rw[zi8 hab];exact ha.1,fun h hh=>?_,?_,fun k=>?_⟩
 · rw[zi9 hab]
   have:mix R a h+(W:Int)=mix R b h+(W:Int):=List.map_inj_left.mp hf h hh
   omega
 · apply Classical.byContradiction
   intro no
   have z:∀ k,mix R (dif a b) k=0:=fun k=>Classical.byContradiction fun h=>no ⟨k,h⟩
   exact hne (zcO hab (hR (dif a b) (by rw[zi8 hab];exact ha.1) z))
 · have:=z8s (N:=N) hb (cs:=dif a b) (zaD ha.2 hb'.2) k
   refine Nat.le_trans this ?_
   rw[←hl,Nat.pow_succ,hl,Nat.mul_comm]
   show(N*B)*R.length≤N*(2*R.length*B)
   rw[Nat.mul_assoc,Nat.mul_comm B]
   refine Nat.mul_le_mul_left _ ?_
   rw[Nat.mul_assoc];omega
theorem zcP(v:Vec):∀ m,v m≠0→∃ h,(∀ k,k<h→v k=0)∧v h≠0:=by
 intro m
 induction m using Nat.strongRecOn with
 | _ m ih =>
  intro hm
  by_cases q:∃ k,k<m∧v k≠0
  · obtain⟨k,h1,h2⟩:=q
    exact ih k h1 h2
  · exact⟨m,fun k hk=>Classical.byContradiction fun h=>q ⟨k,hk,h⟩,hm⟩
theorem zcQ{E:Nat}:∀{T:List Row} {n f Q:Nat} {u:Vec},Asc n f T→Form f (z0D T)→(∀ r∈T,Lt E r)→Span (vecs T) u→(∀ r∈T,(u (z02 r)).natAbs≤Q*(hd r).natAbs)→∀ k,(u k).natAbs≤Q*((2 ^ T.length-1)*E)
 | [],n,f,Q,u,_,_,_,s,_,k=>by rw[s k];simp
 | r::T,n,f,Q,u,A,F,hE,⟨c,s⟩,hu,k=>by
  have hp:=A.2.2.2.1
  have ec:=A.coef s
  have hc:c.natAbs≤Q:=by
   have:=hu r List.mem_cons_self
   rw[ec,Int.natAbs_mul]at this
   exact Nat.le_of_mul_le_mul_right this (by omega)
  have ih:=zcQ (T:=T) (Q:=2*Q) A.2.2.2.2 F.2.2.2.2 (fun x hx=>hE x (List.mem_cons_of_mem _ hx)) s (fun x hx=>by
   have h1:=hu x (List.mem_cons_of_mem _ hx)
   have h2:=F.2.2.2.1 (z02 x,vec x) (List.mem_map.mpr ⟨x,hx,rfl⟩)
   have h2:0≤at0 r (z02 x)∧at0 r (z02 x)<hd x:=h2
   show(u (z02 x)-c*at0 r (z02 x)).natAbs≤_
   have h3:(c*at0 r (z02 x)).natAbs≤Q*(hd x).natAbs:=by rw[Int.natAbs_mul];exact Nat.mul_le_mul hc (by omega)
   rw[Nat.mul_assoc]
   omega) k
  have ih:(u k-c*at0 r k).natAbs≤2*Q*((2 ^ T.length-1)*E):=ih
  have h4:(c*at0 r k).natAbs≤Q*E:=by rw[Int.natAbs_mul];exact Nat.mul_le_mul hc (Nat.le_of_lt (hE r List.mem_cons_self k))
  have h5:Q*((2 ^ (r::T).length-1)*E)=2*Q*((2 ^ T.length-1)*E)+Q*E:=by
   have p:0<2 ^ T.length:=Nat.two_pow_pos _
   rw[List.length_cons,Nat.pow_succ,show 2 ^ T.length*2-1=2*(2 ^ T.length-1)+1 by omega,Nat.add_mul,Nat.one_mul,Nat.mul_add,Nat.mul_assoc 2,Nat.mul_left_comm Q 2,Nat.mul_assoc 2]
  omega
theorem zkB{W E n f:Nat}{r:Row}{T:List Row}{w:Vec}(A:Asc n f (r::T))(F:Form f (z0D (r::T)))(hE:∀ x∈T,Lt E x)(s:Span (vecs (r::T)) w)(h0:w (z02 r)≠0)(hz:∀ x∈T,w (z02 x)=0)(hw:∀ k,(w k).natAbs≤W):
  ∀ k,(at0 r k).natAbs≤W+(2 ^ T.length-1)*E:=by
 obtain⟨c,s⟩:=s
 have ec:=A.coef s
 have c0:c≠0:=by intro z;rw[z]at ec;simp at ec;exact h0 ec
 intro k
 have q:=zcQ (E:=E) (Q:=c.natAbs) A.2.2.2.2 F.2.2.2.2 hE s (fun x hx=>by
  have h2:=F.2.2.2.1 (z02 x,vec x) (List.mem_map.mpr ⟨x,hx,rfl⟩)
  have h2:0≤at0 r (z02 x)∧at0 r (z02 x)<hd x:=h2
  show(w (z02 x)-c*at0 r (z02 x)).natAbs≤_
  rw[hz x hx]
  have h3:(c*at0 r (z02 x)).natAbs≤c.natAbs*(hd x).natAbs:=by rw[Int.natAbs_mul];exact Nat.mul_le_mul_left _ (by omega)
  omega) k
 have q:(w k-c*at0 r k).natAbs≤c.natAbs*((2 ^ T.length-1)*E):=q
 have hwk:=hw k
 have e1:(c*at0 r k).natAbs=c.natAbs*(at0 r k).natAbs:=Int.natAbs_mul _ _
 apply Nat.le_of_not_lt
 intro hlt
 generalize (2 ^ T.length-1)*E=X at *
 have h6:c.natAbs*(W+X+1)≤c.natAbs*(at0 r k).natAbs:=Nat.mul_le_mul_left _ hlt
 have h7:c.natAbs*(W+X+1)=c.natAbs*X+c.natAbs*(W+1):=by rw[←Nat.mul_add];congr 1;omega
 have h8:1*(W+1)≤c.natAbs*(W+1):=Nat.mul_le_mul_right _ (by omega)
 omega
def bnd(r B:Nat):Nat:=(2*r*B) ^ r*2 ^ (r*r)
theorem zaE{W n:Nat}:∀{T:List Row} {f:Nat},Asc n f T→Form f (z0D T)→(∀ r∈T,∃ w:Vec,Span (vecs T) w∧w (z02 r)≠0∧(∀ k,k<z02 r→w k=0)∧(∀ x∈T,x≠r→w (z02 x)=0)∧∀ k,(w k).natAbs≤W)→∀ r∈T,Lt (W*2 ^ (T.length*T.length)+1) r
 | r::T,f,A,F,h,x,hx=>by
  have nd:∀ y∈T,z02 r<z02 y:=fun y hy=>(A.2.2.2.2.mem hy).2.1
  have ih:=zaE (T:=T) A.2.2.2.2 F.2.2.2.2 (fun y hy=>by
    obtain⟨w,w1,w2,w3,w4,w5⟩:=h y (List.mem_cons_of_mem _ hy)
    refine⟨w,?_,w2,w3,fun z hz hne=>w4 z (List.mem_cons_of_mem _ hz) hne,w5⟩
    exact Form.tail F (show Span (z0Y (z0D (r::T))) w by
     have:z0Y (z0D (r::T))=vecs (r::T):=by simp[z0D,z0Y]
     rw[this];exact w1) (w3 _ (nd y hy)) |> fun s=>by
      have:z0Y (z0D T)=vecs T:=by simp[z0D,z0Y]
      have s:Span (z0Y (z0D T)) w:=s
      rw[this]at s;exact s)
  have hW:W*2 ^ (T.length*T.length)+1≤W*2 ^ ((r::T).length*(r::T).length)+1:=by
    refine Nat.succ_le_succ (Nat.mul_le_mul_left _ (Nat.pow_le_pow_right (by decide) ?_))
    exact Nat.mul_le_mul (by simp) (by simp)
  rcases List.mem_cons.mp hx with rfl|hx
  · obtain⟨w,w1,w2,w3,w4,w5⟩:=h x List.mem_cons_self
    intro k
    have q:=zkB (E:=W*2 ^ (T.length*T.length)+1) A F ih w1 w2 (fun y hy=>w4 y (List.mem_cons_of_mem _ hy) fun e=>by have:=nd y hy;rw[e]at this;omega) w5 k
    refine Nat.lt_succ_of_le (Nat.le_trans q ?_)
    have hW1:1≤W:=by have:=w5 (z02 x);omega
    have e2:(x::T).length*(x::T).length=T.length*T.length+T.length+T.length+1:=by rw[List.length_cons];grind
    rw[e2,Nat.pow_succ,Nat.pow_add]
    generalize hP:2 ^ (T.length*T.length+T.length)=P
    have p1:2 ^ (T.length*T.length)*2 ^ T.length=P:=by rw[←hP,Nat.pow_add]
    have p2:1≤2 ^ T.length:=Nat.two_pow_pos _
    have p3:1≤2 ^ (T.length*T.length):=Nat.two_pow_pos _
    generalize 2 ^ T.length=a at *
    generalize 2 ^ (T.length*T.length)=b at *
    have h1:(a-1)*(W*b+1)≤a*(2*(W*b)):=Nat.mul_le_mul (by omega) (by have:1≤W*b:=Nat.mul_pos hW1 p3;omega)
    have h1':(a-1)*(W*b+1)+(W*b+1)=a*(W*b+1):=by
     have:a=(a-1)+1:=by omega
     rw[show a*(W*b+1)=((a-1)+1)*(W*b+1) by rw[←this],Nat.succ_mul]
    have h2:W≤W*b:=Nat.le_mul_of_pos_right _ p3
    have h3:a*(W*b+1)≤a*(2*(W*b)):=Nat.mul_le_mul_left _ (by have:1≤W*b:=Nat.mul_pos hW1 p3;omega)
    have h4:a*(2*(W*b))=W*(b*a)*2:=by grind
    have h5:W*(b*a)*2≤W*(P*a*2):=by
     rw[p1,Nat.mul_assoc]
     refine Nat.mul_le_mul_left _ (Nat.mul_le_mul_right _ (Nat.le_mul_of_pos_right _ p2))
    omega
  · exact(ih x hx).mono hW
theorem zaF(T:List Row):z0Y (z0D T)=vecs T:=by simp[z0D,z0Y]
theorem ze4{n B:Nat}{S R:List Row}(A:Asc n 0 S)(F:Form 0 (z0D S))(hR:Ind R)(hl:R.length=S.length)(hs:∀ r∈R,Span (vecs S) (fun k=>at0 r k))(hb:∀ r∈R,Lt B r)(hp:0<B):
  ∀ r∈S,Lt (bnd S.length B+1) r:=by
 refine zaE A F fun r hr=>?_
 have hpw:=(Asc.iff.mp A).2
 obtain⟨S1,S2,rfl⟩:=List.append_of_mem hr
 obtain⟨cs,c1,c2,⟨m,c3⟩,c4⟩:=siegel hR hb hp ((S1++S2).map z02) (by rw[hl];simp;omega)
 have sp:Span (vecs (S1++r::S2)) (mix R cs):=z6w hs
 obtain⟨h,z,q⟩:=zcP _ m c3
 obtain⟨x,hx,ex⟩:=A.first sp z q
 have oth:∀ y∈S1++r::S2,y≠r→y∈S1++S2:=fun y hy hne=>by
  rcases List.mem_append.mp hy with h|h
  · exact List.mem_append.mpr (.inl h)
  · rcases List.mem_cons.mp h with rfl|h
    · exact absurd rfl hne
    · exact List.mem_append.mpr (.inr h)
 have zo:∀ y∈S1++r::S2,y≠r→mix R cs (z02 y)=0:=fun y hy hne=>c2 _ (List.mem_map.mpr ⟨y,oth y hy hne,rfl⟩)
 have er:x=r:=Classical.byContradiction fun hne=>q (by rw[←ex];exact zo x hx hne)
 subst er
 rw[hl]at c4
 exact⟨mix R cs,sp,by rw[ex];exact q,fun k hk=>z k (by omega),zo,c4⟩
end St

end
section
local macro_rules|`(tactic| omega)=>`(tactic| first|lia|omega +splitDisjunctions)
set_option linter.all false
set_option maxRecDepth 100000
namespace St
open Lat
structure Post(n u:Nat)(S0:List Row)(v:Row)(S:List Row):Prop where
 asc:Asc n 0 S
 span:SameSpan (vecs S) (vecs (v::S0))
 size:∀ r∈S,Lt (2 ^ u) r
 more:S.map z02=S0.map z02∨(S.length=S0.length+1∧∃ r∈S,∀ x∈S0,z02 x≠z02 r)
theorem Wi.start{n e eh s m0 kk:Nat}{S0:List Row}{v:Row}(A:Asc n 0 S0)(hv:v.length=n)(h0:∀ r∈S0,Lt (2 ^ e) r)(hh:∀ r∈S0,hd r<2 ^ eh)(hs:Lt (2 ^ s) v)(hm:s+S0.length*(e+1)≤m0)(he:e≤m0):
   Wi n e eh m0 kk S0 v S0 (z0i v S0)∧LowB m0 v S0:=by
 obtain⟨z1,z2⟩:=z2I (n:=n) (t:=0) (s:=s) (e:=e) (m:=m0) (S:=S0) (left:=v) (fun r hr=>⟨(A.mem hr).1,(A.mem hr).2.2.2⟩) hv (fun k hk=>by omega) (fun r hr _=>h0 r hr) hs hm he
 have sp:=z2H A hv
 refine⟨⟨A,z67 A hv,rfl,?_,z3z A hv,fun r hr _=>h0 r hr,fun r hr=>?_,z1.mono (Nat.pow_le_pow_right (by decide) (by omega)),fun r hr=>(h0 r hr).mono (Nat.pow_le_pow_right (by decide) (by omega))⟩,z2⟩
 · refine z4r (fun r hr=>?_) fun r hr=>?_
   · rcases List.mem_cons.mp hr with rfl|hr
     · have t:Span (vecs (v::S0)) (fun k=>at0 v k):=z0f List.mem_cons_self
       exact Span.congr (fun k=>by omega) (t.sub sp.cons)
     · exact z0f (List.mem_cons_of_mem _ hr)
   · rcases List.mem_cons.mp hr with rfl|hr
     · have t:Span (vecs (z0i r S0::S0)) (fun k=>at0 (z0i r S0) k):=z0f List.mem_cons_self
       exact Span.congr (fun k=>by omega) (t.add sp.cons)
     · exact z0f (List.mem_cons_of_mem _ hr)
 · exact hh r hr
theorem Wi.done{n e eh m0 kk:Nat}{S0:List Row}{v:Row}{S:List Row}{left:Row}(I:Wi n e eh m0 kk S0 v S left)(h:¬z02 left<n):Post n (e+3+(m0+n*kk)) S0 v S:=by
 have hl:=z7e left
 rw[I.len]at hl
 have e:z02 left=n:=by omega
 refine⟨I.asc,SameSpan.trans (z4r (fun r hr=>z0f (List.mem_cons_of_mem _ hr)) fun r hr=>?_) I.span,fun r hr=>by have:=I.all r hr;rw[e]at this;exact this,.inl I.heads⟩
 rcases List.mem_cons.mp hr with rfl|hr
 · refine Span.congr (fun k=>?_) Span.zero
   by_cases hk:k<n
   · exact(z0p r k (by omega)).symm
   · exact(z1l (by rw[I.len];omega)).symm
 · exact z0f hr
theorem Wi.new{n e eh m0 kk:Nat}{S0:List Row}{v:Row}{S S':List Row}{left t:Row}(I:Wi n e eh m0 kk S0 v S left)(h:z02 left<n)(hn:∀ r∈S,z02 r≠z02 left)
   (ht:t.length=n) (c:Int) (hc:c=1∨c = -1) (et:∀ k,at0 t k=c*at0 left k) (hp:0<at0 t (z02 left)) (pm:S'.Perm (t::S)) (pw:(S'.map z02).Pairwise (·<·)):Post n (e+3+(m0+n*kk)) S0 v S':=by
 have hh:z02 t=z02 left:=z2r _ _ (fun k hk=>by rw[et,z0p left k hk];simp) (by omega)
 have mem:∀ r∈S',r=t∨r∈S:=fun r hr=>List.mem_cons.mp (pm.mem_iff.mp hr)
 have tm:t∈S':=pm.mem_iff.mpr List.mem_cons_self
 have sm:∀ r∈S,r∈S':=fun r hr=>pm.mem_iff.mpr (List.mem_cons_of_mem _ hr)
 have hk:m0+z02 left*kk≤m0+n*kk:=by have:=Nat.mul_le_mul_right kk (Nat.le_of_lt h);omega
 refine⟨Asc.iff.mpr ⟨fun r hr=>?_,pw⟩,SameSpan.trans (z4r (fun r hr=>?_) fun r hr=>?_) I.span,fun r hr=>?_,.inr ⟨?_,t,tm,fun x hx e=>?_⟩⟩
 · rcases mem r hr with rfl|hr
   · exact⟨ht,Nat.zero_le _,by rw[hh];exact h,by unfold hd;rw[hh];exact hp⟩
   · exact I.asc.mem hr
 · rcases mem r hr with rfl|hr
   · exact Span.congr (fun k=>(et k).symm) ((z0f List.mem_cons_self:Span (vecs (left::S)) (fun k=>at0 left k)).smul c)
   · exact z0f (List.mem_cons_of_mem _ hr)
 · rcases List.mem_cons.mp hr with rfl|hr
   · refine Span.congr (fun k=>?_) ((z0f tm:Span (vecs S') (fun k=>at0 t k)).smul c)
     show c*at0 t k=at0 r k
     rw[et]
     rcases hc with rfl|rfl<;>omega
   · exact z0f (sm r hr)
 · rcases mem r hr with rfl|hr
   · intro k
     rw[et]
     have h1:=I.size k
     have h2:2 ^ (m0+z02 left*kk)≤2 ^ (e+3+(m0+n*kk)):=Nat.pow_le_pow_right (by decide) (by omega)
     rcases hc with rfl|rfl<;>omega
   · exact(I.all r hr).mono (Nat.pow_le_pow_right (by decide) (by omega))
 · have h1:=pm.length_eq
   have h2:=congrArg List.length I.heads
   simp at h1 h2
   omega
 · have:z02 x∈S.map z02:=by rw[I.heads];exact List.mem_map.mpr ⟨x,hx,rfl⟩
   obtain⟨y,hy,ey⟩:=List.mem_map.mp this
   exact hn y hy (by omega)
structure Good(n B:Nat)(rows:List Row)(S:List Row):Prop where
 asc:Asc n 0 S
 form:Form 0 (z0D S)
 span:SameSpan (vecs S) (vecs rows)
 ind:∃ R:List Row,Ind R∧R.length=S.length∧(∀ r∈R,r∈rows)
 len:S.length≤rows.length
 full:Ind rows→S.length=rows.length
theorem Good.nil{n B:Nat}:Good n B [] []:=⟨trivial,trivial,SameSpan.refl,⟨[],(fun cs h _ c hc=>by have h:cs=[]:=List.length_eq_zero_iff.mp h;subst h;cases hc),rfl,fun r hr=>by cases hr⟩,Nat.le_refl _,fun _=>rfl⟩
theorem Good.small{n B:Nat}{rows S:List Row}(G:Good n B rows S)(hb:∀ r∈rows,Lt B r)(hp:0<B):∀ r∈S,Lt (bnd S.length B+1) r:=by
 obtain⟨R,h1,h2,h3⟩:=G.ind
 exact ze4 G.asc G.form h1 h2 (fun r hr=>G.span.iff.mpr (z0f (h3 r hr))) (fun r hr=>hb r (h3 r hr)) hp
theorem z4U:∀{R:List Row} {v:Vec},Span (vecs R) v→∃ c:List Int,c.length=R.length∧∀ k,v k=mix R c k
 | [],v,s=>⟨[],rfl,s⟩
 | r::R,v,⟨c,s⟩=>by
  obtain⟨cs,h1,h2⟩:=z4U s
  refine⟨c::cs,by simp[h1],fun k=>?_⟩
  have:=h2 k
  have this:v k-c*at0 r k=mix R cs k:=this
  show v k=c*at0 r k+mix R cs k
  omega
theorem z97{v:Row}{d:Int}:∀{R:List Row} {c:List Int},c.length=R.length→∀ k,mix (R++[v]) (c++[d]) k=mix R c k+d*at0 v k
 | [],[],_,k=>by simp[mix]
 | r::R,x::c,h,k=>by
  show x*at0 r k+mix (R++[v]) (c++[d]) k=x*at0 r k+mix R c k+d*at0 v k
  rw[z97 (R:=R) (c:=c) (by simpa using h)];omega
theorem Ind.left{R:List Row}{v:Row}(h:Ind (R++[v])):Ind R:=fun c hl hz x hx=>by
 exact h (c++[0]) (by simp[hl]) (fun k=>by rw[z97 hl,hz k];simp) x (List.mem_append.mpr (.inl hx))
theorem zaG{n:Nat}:∀{f:Nat} {S T:List Row} {u:Vec},Asc n f S→Asc n f T→T.map z02=S.map z02→(∀ r∈T,Span (vecs S) (fun k=>at0 r k))→Span (vecs S) u→∃ D:Int,D≠0∧Span (vecs T) (fun k=>D*u k)
 | f,[],[],u,_,_,_,_,s=>⟨1,by decide,fun k=>by have:=s k;show 1*u k=0;omega⟩
 | f,r::S,t::T,u,A,A',hh,hT,s=>by
  have hh':z02 t=z02 r∧T.map z02=S.map z02:=by simpa using hh
  have tz:∀{w:Vec},Span (vecs (r::S)) w→w (z02 r)=0→Span (vecs S) w:=fun{w} hw z=>by
    obtain⟨c,q⟩:=hw
    have e:=A.coef q
    have c0:c=0:=by
      rw[z]at e
      rcases Int.mul_eq_zero.mp e.symm with h|h
      · exact h
      · have:=A.2.2.2.1;omega
    subst c0
    exact Span.congr (fun k=>by simp) q
  have ht:Span (vecs (r::S)) (fun k=>at0 t k):=hT t List.mem_cons_self
  have w1:Span (vecs (r::S)) (fun k=>hd t*u k-u (z02 r)*at0 t k):=(s.smul (hd t)).sub (ht.smul (u (z02 r)))
  have w2:=tz w1 (by show hd t*u (z02 r)-u (z02 r)*at0 t (z02 r)=0;rw[←hh'.1];show hd t*_-_*hd t=0;rw[Int.mul_comm];omega)
  obtain⟨D,hD,q⟩:=zaG A.2.2.2.2 (by rw[←hh'.1];exact A'.2.2.2.2) hh'.2 (fun x hx=>tz (hT x (List.mem_cons_of_mem _ hx)) (z0p x _ (by have:=(A'.2.2.2.2.mem hx).2.1;omega))) w2
  refine⟨D*hd t,fun z=>?_,D*u (z02 r),Span.congr (fun k=>?_) q⟩
  · rcases Int.mul_eq_zero.mp z with z|z
    · exact hD z
    · have:=A'.2.2.2.1;omega
  · show D*(hd t*u k-u (z02 r)*at0 t k)=D*hd t*u k-D*u (z02 r)*at0 t k
    grind
 | f,[],t::T,u,_,_,hh,_,_=>by simp at hh
 | f,r::S,[],u,_,_,hh,_,_=>by simp at hh
theorem z3i:∀ S:List Row,(even S).length=S.length
 | []=>rfl
 | r::rs=>by rw[even,List.length_cons,List.length_cons,z3i rs]
theorem Good.step{n u B:Nat}{rows S0 S:List Row}{v:Row}(G:Good n B rows S0)(P:Post n u S0 v S):Good n B (rows++[v]) (even S):=by
  have es:=zaC P.asc
  have sp:SameSpan (vecs (v::S0)) (vecs (rows++[v])):=z4r (fun r hr=>by
      rcases List.mem_cons.mp hr with rfl|hr
      · exact z0f (List.mem_append.mpr (.inr List.mem_cons_self))
      · exact(G.span.iff.mp (z0f hr)).trans fun w hw=>by
          obtain⟨z,hz,rfl⟩:=List.mem_map.mp hw
          exact z0f (List.mem_append.mpr (.inl hz))) fun r hr=>by
      rcases List.mem_append.mp hr with hr|hr
      · exact(G.span.iff.mpr (z0f hr)).trans fun w hw=>by
          obtain⟨z,hz,rfl⟩:=List.mem_map.mp hw
          exact z0f (List.mem_cons_of_mem _ hz)
      · rcases List.mem_singleton.mp hr with rfl
        exact z0f List.mem_cons_self
  obtain⟨R,h1,h2,h3⟩:=G.ind
  have hlen:(even S).length≤(rows++[v]).length:=by
    rw[z3i,List.length_append]
    have:=G.len
    rcases P.more with h|⟨h,_⟩
    · have h:=congrArg List.length h
      simp at h ⊢
      omega
    · simp;omega
  refine⟨(z32 P.asc).1,zaB P.asc,SameSpan.trans es (P.span.trans sp),?_,hlen,fun hI=>?_⟩
  rotate_left
  · have hI0:=hI.left
    have hl0:=G.full hI0
    rcases P.more with h|⟨h,_⟩
    · exfalso
      have hv:Span (vecs S) (fun k=>at0 v k):=P.span.iff.mpr (z0f List.mem_cons_self)
      obtain⟨D,hD,q⟩:=zaG P.asc G.asc h.symm (fun r hr=>P.span.iff.mpr (z0f (List.mem_cons_of_mem _ hr))) hv
      obtain⟨c,hc,ec⟩:=z4U (G.span.iff.mp q)
      have:=hI (c++[-D]) (by simp[hc]) (fun k=>by rw[z97 hc];have:=ec k;rw[←this,Int.neg_mul];show D*at0 v k+_=0;omega) (-D) (by simp)
      omega
    · rw[z3i,h,hl0];simp
  rcases P.more with h|⟨h,r,hr,hne⟩
  · exact⟨R,h1,by have h:=congrArg List.length h;simp at h;rw[z3i,h,h2],fun r hr=>List.mem_append.mpr (.inl (h3 r hr))⟩
  · refine⟨ v::R,?_,by rw[z3i,h,List.length_cons,h2],fun r hr=>?_⟩
    · intro cs hl hz
      cases cs with
      | nil=>intro c hc;cases hc
      | cons c cs =>
        have hl':cs.length=R.length:=by simpa using hl
        have hz:∀ k,c*at0 v k+mix R cs k=0:=hz
        by_cases c0:c=0
        · subst c0
          have z:=h1 cs hl' (fun k=>by have:=hz k;omega)
          intro d hd
          rcases List.mem_cons.mp hd with rfl|hd
          · rfl
          · exact z d hd
        · exfalso
          have cv:Span (vecs S0) (fun k=>c*at0 v k):=by
            have:Span (vecs S0) (mix R cs):=z6w fun r hr=>G.span.iff.mpr (z0f (h3 r hr))
            exact Span.congr (fun k=>by have:=hz k;omega) this.neg
          have all:∀ w:Vec,Span (vecs (v::S0)) w→Span (vecs S0) (fun k=>c*w k):=fun w hw=>by
            obtain⟨d,s⟩:=hw
            have s2:=(cv.smul d).add (s.smul c)
            refine Span.congr (fun k=>?_) s2
            show d*(c*at0 v k)+c*(w k-d*at0 v k)=c*w k
            grind
          have rs:Span (vecs (v::S0)) (fun k=>at0 r k):=P.span.iff.mp (z0f hr)
          have q:=P.asc.mem hr
          obtain⟨x,hx,e⟩:=G.asc.first (h:=z02 r) (all _ rs) (fun k hk=>by show c*at0 r k=0;rw[z0p r k hk];simp) (by
            show c*hd r≠0
            intro z
            rcases Int.mul_eq_zero.mp z with z|z
            · exact c0 z
            · omega)
          exact hne x hx e
    · rcases List.mem_cons.mp hr with rfl|hr
      · exact List.mem_append.mpr (.inr List.mem_cons_self)
      · exact List.mem_append.mpr (.inl (h3 r hr))
theorem z6x{r s B:Nat}(h:r≤s)(hB:0<B)(hs:0<s):bnd r B≤bnd s B:=by
 unfold bnd
 refine Nat.mul_le_mul ?_ (Nat.pow_le_pow_right (by decide) (Nat.mul_le_mul h h))
 have h1:2*r*B≤2*s*B:=Nat.mul_le_mul_right _ (Nat.mul_le_mul_left _ h)
 have h2:0<2*s*B:=Nat.mul_pos (by omega) hB
 exact Nat.le_trans (Nat.pow_le_pow_left h1 r) (Nat.pow_le_pow_right h2 h)
theorem z6y{n:Nat}:∀{f:Nat} {S:List Row},Asc n f S→f≤n→S.length≤n-f
 | f,[],_,_=>Nat.zero_le _
 | f,r::rs,⟨h1,h2,h3,h4,h5⟩,h=>by
  have:=z6y h5 (by omega)
  rw[List.length_cons];omega
end St

end
section
set_option linter.all false
set_option maxRecDepth 100000
set_option exponentiation.threshold 3000
namespace St
open Lat
theorem z98:∀{f:Nat} {S:List Row},Form f (z0D S)→∀{j k:Nat},j<k→k<S.length→0≤at0 (S.getD j []) (z02 (S.getD k []))∧at0 (S.getD j []) (z02 (S.getD k []))<hd (S.getD k [])
 | f,r::S,F,0,k+1,_,hk=>by
  have hk:k<S.length:=by simpa using hk
  have hm:S.getD k []∈S:=by simp[List.getD,List.getElem?_eq_getElem hk]
  have:=F.2.2.2.1 (z02 (S.getD k []),vec (S.getD k [])) (List.mem_map.mpr ⟨_,hm,rfl⟩)
  exact this
 | f,r::S,F,j+1,k+1,hjk,hk=>by
  have:=z98 (S:=S) F.2.2.2.2 (j:=j) (k:=k) (by omega) (by simpa using hk)
  simpa[List.getD]using this
theorem z6z{n f:Nat}{S:List Row}(A:Asc n f S){k:Nat}(hk:k<S.length):(S.getD k []).length=n∧f≤z02 (S.getD k [])∧z02 (S.getD k [])<n∧0<hd (S.getD k []) :=
 A.mem (by simp[List.getD,List.getElem?_eq_getElem hk])
theorem ze5{n:Nat}:∀{f:Nat} {S:List Row},Asc n f S→∀{j k:Nat},j<k→k<S.length→z02 (S.getD j [])<z02 (S.getD k [])
 | f,r::S,A,0,k+1,_,hk=>by
  have hk:k<S.length:=by simpa using hk
  have hm:S.getD k []∈S:=by simp[List.getD,List.getElem?_eq_getElem hk]
  have:=(A.2.2.2.2.mem hm).2.1
  exact this
 | f,r::S,A,j+1,k+1,hjk,hk=>by
  have:=ze5 (S:=S) A.2.2.2.2 (j:=j) (k:=k) (by omega) (by simpa using hk)
  simpa[List.getD]using this
theorem bnd30(k:Nat)(h:k≤8):bnd k (10 ^ 30)+1≤2 ^ 900:=by
 have:=z6x (B:=10 ^ 30) h (by decide) (by decide)
 have e:bnd 8 (10 ^ 30)+1≤2 ^ 900:=by unfold bnd;decide
 omega
theorem z3X{r:Row}{B:Nat}(hB:0<B)(h:∀ x∈r,x.natAbs<B):Lt B r:=fun k=>by
 unfold at0 List.getD
 by_cases hk:k<r.length
 · rw[List.getElem?_eq_getElem hk]
   exact h _ (List.getElem_mem _)
 · rw[List.getElem?_eq_none (by omega)]
   exact hB
end St

end
section
local macro_rules|`(tactic| omega)=>`(tactic| first|lia|omega +splitDisjunctions)
set_option linter.all false
set_option maxRecDepth 100000
namespace St
open Lat
theorem Asc.tz{n f:Nat}{r:Row}{S:List Row}{w:Vec}(A:Asc n f (r::S))(hw:Span (vecs (r::S)) w)(z:w (z02 r)=0):Span (vecs S) w:=by
 obtain⟨c,q⟩:=hw
 have e:=A.coef q
 have c0:c=0:=by
  rw[z]at e
  rcases Int.mul_eq_zero.mp e.symm with h|h
  · exact h
  · have:=A.2.2.2.1;omega
 subst c0
 exact Span.congr (fun k=>by simp) q
theorem Asc.small0{n:Nat}:∀{f:Nat} {S:List Row} {u:Vec},Asc n f S→Span (vecs S) u→(∀ r∈S,0≤u (z02 r)∧u (z02 r)<hd r)→∀ k,u k=0
 | f,[],u,_,s,_=>s
 | f,r::S,u,A,s,h=>by
  have hr:=h r List.mem_cons_self
  have z:u (z02 r)=0:=by
   obtain⟨c,q⟩:=s
   have e:=A.coef q
   have c0:c=0:=z3L e A.2.2.2.1 (by omega) hr.2
   rw[e,c0];simp
  exact A.2.2.2.2.small0 (A.tz s z) fun x hx=>h x (List.mem_cons_of_mem _ hx)
def zia(n:Nat):Row:=List.replicate n 0
theorem zjh(n k:Nat):at0 (zia n) k=0:=by
 unfold at0 zia List.getD
 rw[List.getElem?_replicate]
 split<;>rfl
theorem ze6{R:List Row}(c:List Int):Span (vecs R) (mix R c):=z6w fun r hr=>z0f hr
theorem zib{n:Nat}:∀{R:List Row} {c:List Int},(∀ r∈R,r.length=n)→∀ k,n≤k→mix R c k=0
 | [],c,_,k,_=>by simp[mix]
 | r::R,[],_,k,_=>by simp[mix]
 | r::R,x::c,h,k,hk=>by
  show x*at0 r k+mix R c k=0
  rw[zib (fun y hy=>h y (List.mem_cons_of_mem _ hy)) k hk,z1l (by rw[h r List.mem_cons_self];exact hk)];simp
abbrev Ab(a b:Row):Prop:=0≤at0 a (z02 b)∧at0 a (z02 b)<hd b
theorem z99{n:Nat}:∀{f:Nat} {S:List Row},Asc n f S→(Form f (z0D S)↔S.Pairwise Ab)
 | f,[],_=>by simp[z0D,Form]
 | f,r::S,A=>by
  have ih:=z99 A.2.2.2.2
  rw[List.pairwise_cons,←ih]
  constructor
  · intro F
    exact⟨fun b hb=>F.2.2.2.1 (z02 b,vec b) (List.mem_map.mpr ⟨b,hb,rfl⟩),F.2.2.2.2⟩
  · rintro⟨h1,h2⟩
    refine⟨A.2.1,fun k hk=>z0p r k hk,A.2.2.2.1,fun p hp=>?_,h2⟩
    obtain⟨b,hb,rfl⟩:=List.mem_map.mp hp
    exact h1 b hb
theorem zic{n:Nat}:∀{S T:List Row},(∀ r∈S,r.length=n)→(∀ r∈T,r.length=n)→z0D S=z0D T→S=T
 | [],[],_,_,_=>rfl
 | [],t::T,_,_,h=>by simp[z0D]at h
 | s::S,[],_,_,h=>by simp[z0D]at h
 | s::S,t::T,hs,ht,h=>by
  have h:(z02 s,vec s)::z0D S=(z02 t,vec t)::z0D T:=h
  have h1:=(List.cons.inj h).1
  have h2:=(List.cons.inj h).2
  have e:s=t:=ext0 (by rw[hs s List.mem_cons_self,ht t List.mem_cons_self]) fun k=>congrFun (congrArg Prod.snd h1) k
  rw[e,zic (fun r hr=>hs r (List.mem_cons_of_mem _ hr)) (fun r hr=>ht r (List.mem_cons_of_mem _ hr)) h2]
theorem zji{n:Nat}{S T:List Row}(A:Asc n 0 S)(F:Form 0 (z0D S))(A':Asc n 0 T)(F':Form 0 (z0D T))(h:SameSpan (vecs S) (vecs T)):S=T:=by
 refine zic (n:=n) (fun r hr=>(A.mem hr).1) (fun r hr=>(A'.mem hr).1) (Form.unique F F' ?_)
 rw[zaF,zaF];exact h
theorem z8t{n:Nat}{a b:Row}(h:a.length=n)(k:Nat):at0 (a++b) k=if k<n then at0 a k else at0 b (k-n):=by
 subst h
 unfold at0 List.getD
 rw[List.getElem?_append]
 split<;>rfl
theorem z1E(r:Row)(n k:Nat):at0 (r.take n) k=if k<n then at0 r k else 0:=by
 unfold at0 List.getD
 rw[List.getElem?_take]
 split<;>rfl
theorem z4V(r:Row)(n k:Nat):at0 (r.drop n) k=at0 r (n+k):=by
 unfold at0 List.getD
 rw[List.getElem?_drop]
def z3j(m j:Nat):Row:=(List.range m).map fun k=>if k=j then 1 else 0
theorem zjj(m j:Nat):(z3j m j).length=m:=by unfold z3j;simp
theorem zcR(m j k:Nat):at0 (z3j m j) k=if k=j∧k<m then 1 else 0:=by
 unfold at0 z3j List.getD
 rw[List.getElem?_map]
 by_cases hk:k<m
 · rw[List.getElem?_range hk];simp[hk]
 · rw[List.getElem?_eq_none (by simpa using hk)];simp[hk]
def tagF(m:Nat):Nat→List Row→List Row
 | _,[]=>[]
 | s,b::bs=>(b++z3j m s)::tagF m (s+1) bs
abbrev z7h(bills:List Row):List Row:=tagF bills.length 0 bills
theorem z6A(m:Nat):∀(s:Nat) (bs:List Row),(tagF m s bs).length=bs.length
 | s,[]=>rfl
 | s,b::bs=>by rw[tagF,List.length_cons,List.length_cons,z6A]
theorem zcS(m:Nat):∀{s:Nat} {bs:List Row} {b:Row},b∈bs→∃ j,b++z3j m j∈tagF m s bs
 | s,_::bs,b,.head _=>⟨s,List.mem_cons_self⟩
 | s,_::bs,b,.tail _ h=>by
  obtain⟨j,hj⟩:=zcS m (s:=s+1) h
  exact⟨j,List.mem_cons_of_mem _ hj⟩
theorem z4W{n m:Nat}:∀{s:Nat} {bs:List Row} {c:List Int} {k:Nat},(∀ b∈bs,b.length=n)→k<n→mix (tagF m s bs) c k=mix bs c k
 | s,[],c,k,_,_=>by simp[tagF,mix]
 | s,b::bs,[],k,_,_=>by simp[tagF,mix]
 | s,b::bs,x::c,k,h,hk=>by
  show x*at0 (b++z3j m s) k+mix (tagF m (s+1) bs) c k=x*at0 b k+mix bs c k
  rw[z4W (fun y hy=>h y (List.mem_cons_of_mem _ hy)) hk,z8t (h b List.mem_cons_self),if_pos hk]
theorem z6B{n m:Nat}:∀{s:Nat} {bs:List Row} {c:List Int} {i:Nat},(∀ b∈bs,b.length=n)→c.length=bs.length→s+bs.length≤m→mix (tagF m s bs) c (n+i)=if s≤i∧i<s+bs.length then at0 c (i-s) else 0
 | s,[],[],i,_,_,_=>by simp[tagF,mix];intros;omega
 | s,b::bs,x::c,i,h,hl,hs=>by
  have ih:=z6B (n:=n) (m:=m) (s:=s+1) (bs:=bs) (c:=c) (i:=i) (fun y hy=>h y (List.mem_cons_of_mem _ hy)) (by simpa using hl) (by simp at hs;omega)
  show x*at0 (b++z3j m s) (n+i)+mix (tagF m (s+1) bs) c (n+i)=_
  rw[ih,z8t (h b List.mem_cons_self),if_neg (by omega),zcR,show n+i-n=i by omega]
  have hlen:(b::bs).length=bs.length+1:=rfl
  rw[hlen]
  have hm:s<m:=by simp at hs;omega
  by_cases h1:i=s
  · subst h1
    rw[if_pos ⟨rfl,hm⟩,if_neg (by omega),if_pos (by omega)]
    simp[at0]
  · rw[if_neg (by omega)]
    by_cases h2:s+1≤i∧i<s+1+bs.length
    · rw[if_pos h2,if_pos (by omega)]
      have:i-s=(i-(s+1))+1:=by omega
      rw[this]
      simp[at0]
    · rw[if_neg h2,if_neg (by omega)];simp
theorem z9a{n:Nat}{bills:List Row}{c:List Int}(h:∀ b∈bills,b.length=n)(hl:c.length=bills.length)(i:Nat):mix (z7h bills) c (n+i)=at0 c i:=by
 rw[z6B h hl (by omega)]
 split
 · simp
 · rw[z1l (by omega)]
theorem z9b{n:Nat}{bills:List Row}(h:∀ b∈bills,b.length=n):Ind (z7h bills):=fun c hl hz x hx=>by
 rw[z6A]at hl
 obtain⟨i,hi,e⟩:=List.mem_iff_getElem.mp hx
 have:=hz (n+i)
 rw[z9a h hl]at this
 rw[←e]
 simpa[at0,List.getD,List.getElem?_eq_getElem hi]using this
theorem zkC{n:Nat}{bills:List Row}{u:Row}(h:∀ b∈bills,b.length=n)(hu:u.length=n+bills.length):Span (vecs (z7h bills)) (fun k=>at0 u k)↔∀ k,k<n→at0 u k=mix bills (u.drop n) k:=by
 have hd:(u.drop n).length=bills.length:=by rw[List.length_drop];omega
 constructor
 · intro s k hk
   obtain⟨c,hc,e⟩:=z4U s
   rw[z6A]at hc
   have:c=u.drop n:=ext0 (by rw[hc,hd]) fun i=>by
     rw[z4V,←z9a h hc i]
     exact(e (n+i)).symm
   have e1:=e k
   rw[z4W h hk,this]at e1
   exact e1
 · intro q
   refine Span.congr (fun k=>?_) (ze6 (u.drop n))
   by_cases hk:k<n
   · rw[z4W h hk,q k hk]
   · have:k=n+(k-n):=by omega
     rw[this,z9a h hd,z4V]
theorem z9c{N n:Nat}:∀{f:Nat} {S:List Row},Asc N f S→S=S.filter (fun r=>decide (z02 r<n))++S.filter (fun r=>!decide (z02 r<n))
 | f,[],_=>rfl
 | f,r::S,A=>by
  have ih:=z9c (n:=n) A.2.2.2.2
  by_cases h:z02 r<n
  · rw[List.filter_cons,List.filter_cons]
    simp only[h,decide_true,if_true,Bool.not_true,Bool.false_eq_true,if_false]
    rw[List.cons_append,←ih]
  · have e:S.filter (fun r=>decide (z02 r<n))=[]:=List.filter_eq_nil_iff.mpr fun x hx=>by have:=(A.2.2.2.2.mem hx).2.1;simp;omega
    rw[e,List.nil_append]at ih
    rw[List.filter_cons,List.filter_cons]
    simp only[h,decide_false,Bool.not_false,if_true,Bool.false_eq_true,if_false]
    rw[e,List.nil_append,←ih]
def tops(n:Nat)(S:List Row):List Row:=(S.filter fun r=>decide (z02 r<n)).map (·.take n)
def bots(n:Nat)(S:List Row):List Row:=(S.filter fun r=>!decide (z02 r<n)).map (·.drop n)
theorem z7i{r:Row}{n:Nat}(h:z02 r<n)(hl:z02 r<r.length):z02 (r.take n)=z02 r:=z2r _ _ (fun k hk=>by rw[z1E,if_pos (by omega)];exact z0p r k hk) (by rw[z1E,if_pos h];exact z6u r hl)
section
variable {n N:Nat}{S:List Row}
theorem z6C(A:Asc N 0 S)(hN:n≤N):Asc n 0 (tops n S)∧(tops n S).length=(S.filter fun r=>decide (z02 r<n)).length:=by
 have Q:=Asc.iff.mp A
 refine⟨Asc.iff.mpr ⟨fun x hx=>?_,?_⟩,by unfold tops;simp⟩
 · obtain⟨r,hr,rfl⟩:=List.mem_map.mp hx
   obtain⟨hr,hd'⟩:=List.mem_filter.mp hr
   have hd':z02 r<n:=by simpa using hd'
   have q:=Q.1 r hr
   have e:=z7i hd' (by omega)
   refine⟨by rw[List.length_take];omega,Nat.zero_le _,by rw[e];exact hd',?_⟩
   unfold hd
   rw[e,z1E,if_pos hd']
   exact q.2.2.2
 · have e:(tops n S).map z02=(S.filter fun r=>decide (z02 r<n)).map z02:=by
    unfold tops
    rw[List.map_map]
    apply List.map_congr_left
    intro r hr
    obtain⟨hr,hd'⟩:=List.mem_filter.mp hr
    exact z7i (by simpa using hd') (by have:=Q.1 r hr;omega)
   rw[e]
   exact Q.2.sublist (List.filter_sublist.map _)
theorem z7j(A:Asc N 0 S)(F:Form 0 (z0D S))(hN:n≤N):Form 0 (z0D (tops n S)):=by
 have Q:=Asc.iff.mp A
 rw[z99 (z6C A hN).1]
 have P:=(z99 A).mp F
 unfold tops
 rw[List.pairwise_map]
 refine List.Pairwise.imp_of_mem (fun{a b} ha hb h=>?_) (P.sublist List.filter_sublist)
 obtain⟨hb,hd'⟩:=List.mem_filter.mp hb
 have hd':z02 b<n:=by simpa using hd'
 have e:=z7i hd' (by have:=Q.1 b hb;omega)
 unfold Ab hd at *
 rw[e,z1E,if_pos hd',z1E,if_pos hd']
 exact h
theorem z7k(A:Asc N 0 S){v:Vec}(s:Span (vecs S) v):Span (vecs (tops n S)) (fun k=>if k<n then v k else 0):=by
 refine Span.least (P:=fun v=>Span (vecs (tops n S)) (fun k=>if k<n then v k else 0)) ?_ (fun v w hv hw=>?_) (fun c v hv=>?_) (fun x hx=>?_) s
 · exact Span.congr (fun k=>by split<;>rfl) Span.zero
 · exact Span.congr (fun k=>by split<;>rfl) (hv.add hw)
 · refine Span.congr (fun k=>?_) (hv.smul c)
   split
   · rfl
   · simp
 · obtain⟨r,hr,rfl⟩:=List.mem_map.mp hx
   by_cases h:z02 r<n
   · have hm:r.take n∈tops n S:=List.mem_map.mpr ⟨r,List.mem_filter.mpr ⟨hr,by simpa using h⟩,rfl⟩
     exact Span.congr (fun k=>z1E r n k) (z0f hm)
   · refine Span.congr (fun k=>?_) Span.zero
     split
     · rw[show vec r k=0 from z0p r k (by omega)]
     · rfl
end
structure Tag(n:Nat)(bills S:List Row):Prop where
 wide:∀ b∈bills,b.length=n
 asc:Asc (n+bills.length) 0 S
 form:Form 0 (z0D S)
 span:SameSpan (vecs S) (vecs (z7h bills))
 full:S.length=bills.length
theorem Good.tag{n B:Nat}{bills S:List Row}(h:∀ b∈bills,b.length=n)(G:Good (n+bills.length) B (z7h bills) S):Tag n bills S :=
 ⟨h,G.asc,G.form,G.span,by rw[G.full (z9b h),z6A]⟩
theorem Tag.rung{n:Nat}{bills S:List Row}(t:Tag n bills S){r:Row}(hr:r∈S):∀ k,k<n→at0 r k=mix bills (r.drop n) k :=
 (zkC t.wide (t.asc.mem hr).1).mp (t.span.iff.mp (z0f hr))
theorem Tag.top_span{n:Nat}{bills S:List Row}(t:Tag n bills S):SameSpan (vecs (tops n S)) (vecs bills):=z4r (fun x hx=>by
 obtain⟨r,hr,rfl⟩:=List.mem_map.mp hx
 obtain⟨hr,_⟩:=List.mem_filter.mp hr
 refine Span.congr (fun k=>?_) (ze6 (R:=bills) (r.drop n))
 rw[z1E]
 split
 · rename_i hk;exact(t.rung hr k hk).symm
 · rename_i hk;exact zib t.wide k (by omega)) fun b hb=>by
 obtain⟨j,hj⟩:=zcS bills.length (s:=0) hb
 have s:=z7k (n:=n) t.asc (t.span.iff.mpr (z0f hj))
 refine Span.congr (fun k=>?_) s
 rw[z8t (t.wide b hb)]
 by_cases hk:k<n
 · rw[if_pos hk,if_pos hk]
 · rw[if_neg hk,z1l (by rw[t.wide b hb];omega)]
theorem Tag.top{n:Nat}{bills S T:List Row}(t:Tag n bills S)(A:Asc n 0 T)(F:Form 0 (z0D T))(s:SameSpan (vecs T) (vecs bills)):tops n S=T :=
 zji (z6C t.asc (by omega)).1 (z7j t.asc t.form (by omega)) A F (t.top_span.trans s.symm)
end St

end
section
local macro_rules|`(tactic| omega)=>`(tactic| first|lia|omega +splitDisjunctions)
set_option linter.all false
set_option maxRecDepth 100000
namespace St
open Lat
theorem z1f{B:List Row}{i:Nat}(h:i<B.length):B.getD i []∈B:=by simp[List.getD,List.getElem?_eq_getElem h]
end St
namespace St
open Lat
theorem Asc.small{n:Nat}:∀{f:Nat} {S:List Row} {u:Vec},Asc n f S→Span (vecs S) u→(∀ r∈S,-(hd r)<u (z02 r)∧u (z02 r)<hd r)→∀ k,u k=0
 | f,[],u,_,s,_=>s
 | f,r::S,u,A,s,h=>by
  have hr:=h r List.mem_cons_self
  have z:u (z02 r)=0:=by
   obtain⟨c,q⟩:=s
   have e:=A.coef q
   have c0:c=0:=z3L e A.2.2.2.1 hr.1 hr.2
   rw[e,c0];simp
  exact A.2.2.2.2.small (A.tz s z) fun x hx=>h x (List.mem_cons_of_mem _ hx)
end St

end
section
set_option linter.all false
set_option maxRecDepth 100000
namespace St
open Lat
def sm:Nat→(Nat→Int)→Int
 | 0,_=>0
 | m+1,f=>f 0+sm m (fun k=>f (k+1))
theorem z0r:∀{m:Nat} {f g:Nat→Int},(∀ k,k<m→f k=g k)→sm m f=sm m g
 | 0,_,_,_=>rfl
 | m+1,f,g,h=>by rw[sm,sm,h 0 (by omega),z0r fun k hk=>h (k+1) (by omega)]
theorem z0E{m:Nat}{f:Nat→Int}(h:∀ k,k<m→f k=0):sm m f=0:=by
 rw[z0r h]
 induction m with
 | zero=>rfl
 | succ m ih=>rw[sm,ih fun k hk=>h k (by omega)];rfl
theorem z7l:∀(m:Nat) (f g:Nat→Int),sm m (fun k=>f k+g k)=sm m f+sm m g
 | 0,_,_=>rfl
 | m+1,f,g=>by rw[sm,sm,sm,z7l m];omega
theorem z2s(c:Int):∀(m:Nat) (f:Nat→Int),sm m (fun k=>c*f k)=c*sm m f
 | 0,_=>by simp[sm]
 | m+1,f=>by rw[sm,sm,z2s c m,Int.mul_add]
theorem zbO(c:Int)(m:Nat)(f:Nat→Int):sm m (fun k=>f k*c)=sm m f*c:=by
 rw[Int.mul_comm,←z2s];exact z0r fun k _=>Int.mul_comm _ _
theorem z9d(m:Nat)(f g:Nat→Int):sm m (fun k=>f k-g k)=sm m f-sm m g:=by
 have:=z7l m f (fun k=>(-1)*g k)
 rw[z2s]at this
 rw[z0r (g:=fun k=>f k+(-1)*g k) fun k _=>by omega,this];omega
theorem z8u:∀(m p:Nat) (f:Nat→Nat→Int),sm m (fun i=>sm p (fun j=>f i j))=sm p (fun j=>sm m (fun i=>f i j))
 | 0,p,f=>by rw[sm];exact(z0E fun k _=>rfl).symm
 | m+1,p,f=>by rw[sm,z8u m p,←z7l];rfl
theorem z2b:∀{m i:Nat} {f:Nat→Int},i<m→(∀ k,k<m→k≠i→f k=0)→sm m f=f i
 | m+1,0,f,_,z=>by rw[sm,z0E fun k hk=>z (k+1) (by omega) (by omega)];omega
 | m+1,i+1,f,h,z=>by rw[sm,z 0 (by omega) (by omega),z2b (i:=i) (by omega) fun k hk hn=>z (k+1) (by omega) (by omega)];omega
def ent(A:List Row)(i j:Nat):Int:=at0 (A.getD i []) j
theorem zo2(k:Nat):at0 [] k=0:=by simp[at0]
theorem z0T{A:List Row}{i:Nat}(h:A.length≤i)(j:Nat):ent A i j=0:=by
 unfold ent;rw[show A.getD i []=[] by simp[List.getD,List.getElem?_eq_none h],zo2]
theorem zbP{A:List Row}{m i j:Nat}(hl:∀ r∈A,r.length=m)(h:m≤j):ent A i j=0:=by
 by_cases hi:i<A.length
 · unfold ent;exact z1l (by rw[hl _ (z1f hi)];exact h)
 · exact z0T (by omega) j
theorem zcT(r:Row)(A:List Row)(i j:Nat):ent (r::A) (i+1) j=ent A i j:=rfl
theorem z1g:∀{A:List Row} {v:Vec},Span (vecs A) v↔∃ c:Nat→Int,∀ k,v k=sm A.length (fun i=>c i*ent A i k)
 | [],v=>⟨fun h=>⟨fun _=>0,h⟩,fun⟨_,h⟩=>h⟩
 | r::A,v=>by
  constructor
  · rintro⟨c0,h⟩
    obtain⟨c,h⟩:=z1g.mp h
    refine⟨fun i=>match i with|0=>c0|i+1=>c i,fun k=>?_⟩
    have:v k-c0*at0 r k=sm A.length (fun i=>c i*ent A i k):=h k
    rw[List.length_cons,sm]
    show v k=c0*at0 r k+sm A.length (fun i=>c i*ent A i k)
    omega
  · rintro⟨c,h⟩
    refine⟨c 0,z1g.mpr ⟨fun i=>c (i+1),fun k=>?_⟩⟩
    have:=h k
    rw[List.length_cons,sm]at this
    show v k-c 0*at0 r k=sm A.length (fun i=>c (i+1)*ent A i k)
    have e:ent (r::A) 0 k=at0 r k:=rfl
    rw[e]at this
    simp only[zcT]at this
    omega
theorem z2c{A:List Row}{i:Nat}(h:i<A.length):Span (vecs A) (fun k=>ent A i k):=z0f (z1f h)
def trn(m:Nat)(A:List Row):List Row:=(List.range m).map fun k=>A.map fun r=>at0 r k
theorem z0X(m:Nat)(A:List Row):(trn m A).length=m:=by simp[trn]
theorem z2Y{m:Nat}{A:List Row}{r:Row}(h:r∈trn m A):r.length=A.length:=by
 obtain⟨k,_,rfl⟩:=List.mem_map.mp h;simp
theorem zkD(m:Nat)(A:List Row)(k i:Nat):ent (trn m A) k i=if k<m then ent A i k else 0:=by
 by_cases h:k<m
 · rw[if_pos h]
   unfold ent trn at0
   rw[show((List.range m).map fun k=>A.map fun r=>r.getD k 0).getD k []=A.map fun r=>r.getD k 0 by simp[List.getD,h]]
   by_cases hi:i<A.length
   · simp[List.getD,List.getElem?_eq_getElem hi]
   · simp[List.getD,List.getElem?_eq_none (Nat.le_of_not_lt hi)]
 · rw[if_neg h,z0T (by rw[z0X];omega)]
theorem z1u{m:Nat}{A:List Row}(hl:∀ r∈A,r.length=m)(k i:Nat):ent (trn m A) k i=ent A i k:=by
 rw[zkD];split
 · rfl
 · exact(zbP hl (by omega)).symm
theorem zo3{A B:List Row}{m:Nat}(h:A.length=B.length)(ha:∀ r∈A,r.length=m)(hb:∀ r∈B,r.length=m)(q:∀ i k,ent A i k=ent B i k):A=B:=by
 refine List.ext_getElem h fun i h1 h2=>?_
 have e1:A.getD i []=A[i]:=by simp[List.getD,List.getElem?_eq_getElem h1]
 have e2:B.getD i []=B[i]:=by simp[List.getD,List.getElem?_eq_getElem h2]
 refine ext0 (by rw[ha _ (List.getElem_mem h1),hb _ (List.getElem_mem h2)]) fun k=>?_
 have:=q i k
 unfold ent at this
 rw[e1,e2]at this;exact this
theorem zo4{m p:Nat}{A:List Row}(hl:∀ r∈A,r.length=m)(hp:A.length=p):trn p (trn m A)=A:=by
 refine zo3 (m:=m) (by rw[z0X,hp]) (fun r hr=>by rw[z2Y hr,z0X]) hl fun i k=>?_
 rw[z1u (fun r hr=>by rw[z2Y hr,hp]),z1u hl]
structure Sq(r:Nat)(A:List Row):Prop where
 asc:Asc r 0 A
 form:Form 0 (z0D A)
 len:A.length=r
theorem zaH{n:Nat}:∀{f:Nat} {S:List Row} {i:Nat},Asc n f S→i<S.length→f+i≤z02 (S.getD i [])∧z02 (S.getD i [])+(S.length-i)≤n
 | f,r::S,0,⟨h1,h2,h3,h4,h5⟩,_=>by
  have:=z6y h5 (by omega)
  show f+0≤z02 r∧z02 r+(S.length+1-0)≤n
  omega
 | f,r::S,i+1,⟨h1,h2,h3,h4,h5⟩,h=>by
  obtain⟨a,b⟩:=zaH (i:=i) h5 (by simpa using h)
  have e:(r::S).getD (i+1) []=S.getD i []:=rfl
  rw[e,List.length_cons]
  omega
variable {r:Nat}{A:List Row}
theorem Sq.rows(q:Sq r A):∀ x∈A,x.length=r:=fun x hx=>(q.asc.mem hx).1
theorem Sq.head(q:Sq r A){i:Nat}(hi:i<r):z02 (A.getD i [])=i:=by
 have:=zaH q.asc (i:=i) (by rw[q.len];exact hi)
 have:=q.len
 omega
theorem Sq.pos(q:Sq r A){i:Nat}(hi:i<r):0<ent A i i:=by
 have:=(z6z q.asc (k:=i) (by rw[q.len];exact hi)).2.2.2
 unfold hd at this
 rw[q.head hi]at this
 exact this
theorem Sq.low(q:Sq r A){i j:Nat}(h:j<i):ent A i j=0:=by
 by_cases hi:i<r
 · exact z0p _ _ (by rw[q.head hi];exact h)
 · exact z0T (by rw[q.len];omega) j
theorem Sq.red(q:Sq r A){i j:Nat}(h:i<j)(hj:j<r):0≤ent A i j∧ent A i j<ent A j j:=by
 have:=z98 q.form (j:=i) (k:=j) h (by rw[q.len];exact hj)
 unfold hd at this
 rw[q.head hj]at this
 exact this
theorem Sq.far(q:Sq r A){i j:Nat}(h:r≤j):ent A i j=0:=zbP q.rows h
theorem zbQ{n:Nat}:∀{f:Nat} {S:List Row} {v:Vec} {x:Row},Asc n f S→Span (vecs S) v→(∀ k,k<z02 x→v k=0)→x∈S→hd x∣v (z02 x)
 | f,r::S,v,x,A,⟨c,s⟩,z,hx=>by
  have e:=A.coef s
  rcases List.mem_cons.mp hx with rfl|hx
  · exact⟨c,by rw[e];exact Int.mul_comm _ _⟩
  · have hh:=(A.2.2.2.2.mem hx).2.1
    have e0:=z (z02 r) (by omega)
    have hp:=A.2.2.2.1
    have hc:c=0:=by
     rw[e0]at e
     rcases Int.mul_eq_zero.mp e.symm with h|h
     · exact h
     · omega
    subst hc
    exact zbQ A.2.2.2.2 (Span.congr (fun k=>by simp) s) z hx
theorem Sq.dvd(q:Sq r A){v:Vec}{i:Nat}(hi:i<r)(s:Span (vecs A) v)(z:∀ k,k<i→v k=0):ent A i i∣v i:=by
 have h:=zbQ q.asc s (x:=A.getD i []) (fun k hk=>z k (by rw[q.head hi]at hk;exact hk)) (z1f (by rw[q.len];exact hi))
 unfold hd at h
 rw[q.head hi]at h
 exact h
abbrev pt(i:Nat)(d:Int):Vec:=fun k=>if k=i then d else 0
theorem Sq.clean(q:Sq r A){i:Nat}{d:Int}(hi:i<r)(hd:0<d)(h1:Span (vecs A) (pt i d))(h2:∀ y,Span (vecs A) y→d∣y i):∀ k,ent A i k=pt i d k:=by
 have a:=q.dvd hi h1 fun k hk=>by simp[pt];omega
 have b:=h2 _ (z2c (by rw[q.len];exact hi))
 have e:ent A i i=d:=Int.dvd_antisymm (Int.le_of_lt (q.pos hi)) (Int.le_of_lt hd) (by simpa[pt]using a) b
 have u:Span (vecs A) (fun k=>ent A i k-pt i d k):=(z2c (by rw[q.len];exact hi)).sub h1
 have z:=Asc.small0 q.asc u fun x hx=>by
  obtain⟨j,hj,rfl⟩:=List.getElem_of_mem hx
  have ej:A[j]=A.getD j []:=by simp[List.getD,List.getElem?_eq_getElem hj]
  rw[q.len]at hj
  have hp:=q.pos hj
  unfold St.hd
  rw[ej,q.head hj]
  show 0≤ent A i j-pt i d j∧ent A i j-pt i d j<ent A j j
  rcases Nat.lt_trichotomy j i with h|h|h
  · rw[q.low h];simp only[pt];rw[if_neg (by omega)];omega
  · subst h;simp only[pt,if_true];omega
  · have:=q.red h hj;simp only[pt];rw[if_neg (by omega)];omega
 intro k
 have:=z k
 omega
def Clean(t:Nat)(A:List Row):Prop:=∀ i,i<t→∀ k,k≠i→ent A i k=0
theorem z2J{y:Vec}(hl:∀ x∈A,x.length=r):Span (vecs (trn r A)) y↔∃ c:Nat→Int,∀ k,y k=sm r (fun j=>c j*ent A k j):=by
 rw[z1g]
 simp only[z0X,z1u hl]
theorem Clean.dvd(q:Sq r A){t i:Nat}(c:Clean t A)(hi:i<t){y:Vec}(s:Span (vecs (trn r A)) y):ent A i i∣y i:=by
 by_cases hr:i<r
 · obtain⟨c',h⟩:=(z2J q.rows).mp s
   rw[h i,z2b hr fun k _ hn=>by rw[c i hi k hn];simp]
   exact⟨c' i,Int.mul_comm _ _⟩
 · rw[q.far (by omega)]
   obtain⟨c',h⟩:=(z2J q.rows).mp s
   rw[h i,z0E fun k hk=>by rw[c i hi k (by omega)];simp]
   exact⟨0,rfl⟩
theorem Clean.col(q:Sq r A){t:Nat}(c:Clean t A){i:Nat}(hi:i≤t)(hr:i<r):Span (vecs (trn r A)) (pt i (ent A i i)):=by
 refine Span.congr (fun k=>?_) (z2c (A:=trn r A) (i:=i) (by rw[z0X];exact hr))
 rw[z1u q.rows]
 simp only[pt]
 by_cases h:k=i
 · subst h;rw[if_pos rfl]
 · rw[if_neg h]
   by_cases hk:k<i
   · exact c k (by omega) i (by omega)
   · exact q.low (by omega)
theorem half{X Y:List Row}{t:Nat}(x:Sq r X)(y:Sq r Y)(s:SameSpan (vecs Y) (vecs (trn r X)))(c:Clean t X)(ht:t≤r):
   Clean t Y∧(∀ i,i<t→ent Y i i=ent X i i)∧(t<r→ent Y t t∣ent X t t∧(ent Y t t=ent X t t→Clean (t+1) Y)):=by
 have key:∀ i,i<t→∀ k,ent Y i k=pt i (ent X i i) k:=fun i hi=>y.clean (by omega) (x.pos (by omega)) (s.iff.mpr (c.col x (by omega) (by omega))) fun v hv=>c.dvd x hi (s.iff.mp hv)
 have cl:Clean t Y:=fun i hi k hn=>by rw[key i hi];simp[pt,hn]
 refine⟨cl,fun i hi=>by rw[key i hi];simp[pt],fun h=>?_⟩
 have sp:=s.iff.mpr (c.col x (Nat.le_refl t) h)
 have d:=y.dvd h sp fun k hk=>by simp[pt];omega
 simp only[pt,if_true]at d
 refine⟨d,fun e=>?_⟩
 have k2:=y.clean (i:=t) (d:=ent X t t) h (x.pos h) sp fun v hv=>by
   obtain⟨c',hc⟩:=z1g.mp hv
   rw[hc t,y.len,z2b h fun k hk hn=>?_]
   · rw[e];exact⟨c' t,Int.mul_comm _ _⟩
   · rcases Nat.lt_or_gt_of_ne hn with hlt|hgt
     · rw[cl k hlt t (by omega)];simp
     · rw[y.low hgt];simp
 intro i hi k hn
 by_cases ht:i<t
 · exact cl i ht k hn
 · have:i=t:=by omega
   subst this
   rw[k2];simp[pt,hn]
theorem zcU{X Y Z:List Row}{t:Nat}(x:Sq r X)(y:Sq r Y)(z:Sq r Z)(s:SameSpan (vecs Y) (vecs (trn r X)))(s':SameSpan (vecs Z) (vecs (trn r Y)))(c:Clean t X)(ht:t<r):
   Clean t Z∧(Clean (t+1) Z∨ent Z t t<ent X t t):=by
 obtain⟨a1,a2,a3⟩:=half x y s c (by omega)
 obtain⟨b1,b2,b3⟩:=half y z s' a1 (by omega)
 obtain⟨a4,a5⟩:=a3 ht
 obtain⟨b4,b5⟩:=b3 ht
 have xp:=x.pos ht
 have yp:=y.pos ht
 have zp:=z.pos ht
 have l1:=Int.le_of_dvd xp a4
 have l2:=Int.le_of_dvd yp b4
 refine⟨b1,?_⟩
 by_cases e:ent Z t t=ent X t t
 · left
   have cy:=a5 (by omega)
   obtain⟨d1,_,_⟩:=half y z s' cy (by omega)
   exact d1
 · right;omega
def z2d(r:Nat)(w:Int)(A:List Row):Prop:=∀ i,i<r→Span (vecs A) (pt i w)
theorem Sq.comm(q:Sq r A){w:Int}(h:z2d r w A):z2d r w (trn r A):=by
 have hM:∃ M:Nat→Nat→Int,∀ i,i<r→∀ k,pt i w k=sm r (fun j=>M i j*ent A j k):=by
   have:∀ i,∃ c:Nat→Int,i<r→∀ k,pt i w k=sm r (fun j=>c j*ent A j k):=fun i=>by
     by_cases hi:i<r
     · obtain⟨c,hc⟩:=z1g.mp (h i hi)
       rw[q.len]at hc
       exact⟨c,fun _=>hc⟩
     · exact⟨fun _=>0,fun h=>absurd h hi⟩
   exact⟨fun i=>Classical.choose (this i),fun i hi=>Classical.choose_spec (this i) hi⟩
 obtain⟨M,hM⟩:=hM
 have indep:∀ z:Nat→Int,(∀ k,k<r→sm r (fun j=>z j*ent A j k)=0)→∀ j,j<r→z j=0:=fun z hz j=>by
   induction j using Nat.strongRecOn with
   | ind j ih =>
     intro hj
     have e:=hz j hj
     rw[z2b hj fun k hk hn=>?_]at e
     · rcases Int.mul_eq_zero.mp e with h|h
       · exact h
       · have:=q.pos hj;omega
     · rcases Nat.lt_or_gt_of_ne hn with h|h
       · rw[ih k h hk];simp
       · rw[q.low h];simp
 intro i hi
 refine(z2J q.rows).mpr ⟨fun j=>M j i,fun k=>?_⟩
 by_cases hk:k<r
 · have:=indep (fun i=>sm r (fun j=>M j i*ent A k j)-pt i w k) (fun m hm=>?_) i hi
   · have hs:pt i w k=pt k w i:=by simp only[pt];split<;>split<;>first|rfl|omega
     show pt i w k=sm r (fun j=>M j i*ent A k j)
     rw[hs]
     have this:sm r (fun j=>M j i*ent A k j)-pt i w k=0:=this
     omega
   · rw[z0r (g:=fun i=>sm r (fun j=>(ent A k j*(M j i*ent A i m)))-pt i w k*ent A i m) fun i _=>?_]
     · rw[z9d,z8u,z0r (g:=fun j=>ent A k j*pt j w m) fun j hj=>?_]
       · rw[z2b (i:=m) hm fun j _ hn=>by simp only[pt];rw[if_neg (by omega)];simp]
         rw[z2b (i:=k) hk fun j _ hn=>by simp only[pt];rw[if_neg (by omega)];simp]
         simp only[pt,if_true]
         rw[Int.mul_comm];omega
       · rw[z2s,←hM j hj m]
     · rw[Int.sub_mul,←zbO]
       congr 1
       exact z0r fun j _=>by rw[Int.mul_comm (M j i),Int.mul_assoc]
 · have:pt i w k=0:=by simp only[pt];rw[if_neg (by omega)]
   rw[show(pt i w) k=0 from this,z0E fun j _=>by rw[z0T (A:=A) (i:=k) (by rw[q.len];omega)];simp]
theorem Sq.whole(q:Sq r A){w:Int}(h:z2d r w A){i:Nat}(hi:i<r):ent A i i∣w:=by
 have:=q.dvd hi (h i hi) fun k hk=>by simp[pt];omega
 simpa[pt]using this
end St

end
section
set_option linter.all false
set_option maxRecDepth 100000
namespace St
open Lat
theorem zkE:∀{m k:Nat} {f:Nat→Int},k≤m→(∀ i,k≤i→i<m→f i=0)→sm m f=sm k f
 | m,0,f,_,z=>z0E fun i hi=>z i (Nat.zero_le _) hi
 | m+1,k+1,f,h,z=>by rw[sm,sm,zkE (k:=k) (by omega) fun i h1 h2=>z (i+1) (by omega) (by omega)]
theorem z6D{m a:Nat}{c:Nat→Int}{D:Nat→Nat→Int}(hd:∀ l,l<m→D l l≠0)(hl:∀ l j,l<j→j<m→D l j=0)(h:∀ j,a≤j→j<m→sm m (fun l=>c l*D l j)=0):
  ∀ d l,l+d=m→a≤l→l<m→c l=0:=fun d=>by
 induction d using Nat.strongRecOn with
 | ind d ih =>
  intro l e ha hm
  have q:=h l ha hm
  rw[z2b hm fun k hk hn=>?_]at q
  · rcases Int.mul_eq_zero.mp q with q|q
    · exact q
    · exact absurd q (hd l hm)
  · rcases Nat.lt_or_gt_of_ne hn with x|x
    · rw[hl k l x hm];simp
    · rw[ih (m-k) (by omega) k (by omega) (by omega) hk];simp
theorem z9e{P:List Row}{k i:Nat}(h:i<k)(j:Nat):ent (P.take k) i j=ent P i j:=by
 unfold ent;congr 1;simp[List.getD,List.getElem?_take,h]
structure Below(r N:Nat)(w:Int)(P:List Row):Prop where
 len:P.length=r
 wid:r≤N
 rows:∀ x∈P,x.length=N
 pos:∀ i,i<r→ent P i i≠0
 low:∀ i j,i<j→j<r→ent P i j=0
 whole:∀ i,i<r→∃ v:Vec,Span (vecs P) v∧v i=w∧∀ k,k<r→k≠i→v k=0
theorem Below.heads{r N:Nat}{w:Int}{P S:List Row}(B:Below r N w P){k:Nat}(hk:k≤r)(A:Asc N 0 S)(s:SameSpan (vecs S) (vecs (P.take k))){x:Row}(hx:x∈S):z02 x<k∧hd x∣w:=by
 have kl:(P.take k).length=k:=by rw[List.length_take,B.len];omega
 obtain⟨c,hc⟩:=z1g.mp (s.iff.mp (z0f hx))
 rw[kl]at hc
 have hh:z02 x<k:=by
  refine Nat.lt_of_not_le fun hge=>?_
  have z:=z6D (m:=k) (a:=0) (c:=c) (D:=fun l j=>ent P l j) (fun l hl=>B.pos l (by omega)) (fun l j h1 h2=>B.low l j h1 (by omega)) (fun j _ hj=>by
   have:=hc j
   rw[z0r (g:=fun l=>c l*ent P l j) fun l hl=>by rw[z9e hl]]at this
   rw[←this]
   exact z0p x j (by omega))
  have:=(A.mem hx).2.2.2
  unfold hd at this
  have e:=hc (z02 x)
  rw[z0E fun l hl=>by rw[z (k-l) l (by omega) (by omega) hl];simp]at e
  omega
 refine⟨hh,?_⟩
 obtain⟨v,v1,v2,v3⟩:=B.whole (z02 x) (by omega)
 obtain⟨d,hd'⟩:=z1g.mp v1
 rw[B.len]at hd'
 have z:=z6D (m:=r) (a:=z02 x+1) (c:=d) (D:=fun l j=>ent P l j) B.pos B.low fun j h1 h2=>by rw[←hd' j];exact v3 j h2 (by omega)
 have sv:Span (vecs S) v:=s.iff.mpr (z1g.mpr ⟨d,fun j=>by
  rw[hd' j,kl,zkE hk fun i h1 h2=>by rw[z (r-i) i (by omega) (by omega) h2];simp]
  exact z0r fun l hl=>by rw[z9e hl]⟩)
 have:=zbQ A sv (x:=x) (fun j hj=>v3 j (by omega) (by omega)) hx
 rw[v2]at this
 exact this
structure Lin(F:Vec→Int):Prop where
 add:∀ u v:Vec,F (fun k=>u k+v k)=F u+F v
 smul:∀(c:Int) (u:Vec),F (fun k=>c*u k)=c*F u
theorem Lin.zero{F:Vec→Int}(h:Lin F):F (fun _=>0)=0:=by
 have:=h.smul 0 (fun _=>0);simpa using this
theorem Lin.sum{F:Vec→Int}(h:Lin F):∀(m:Nat) (c:Nat→Int) (R:Nat→Vec),F (fun k=>sm m (fun i=>c i*R i k))=sm m (fun i=>c i*F (R i))
 | 0,_,_=>h.zero
 | m+1,c,R=>by
  have:=h.sum m (fun i=>c (i+1)) (fun i=>R (i+1))
  rw[sm,←this,←h.smul,←h.add];rfl
theorem Lin.span{F:Vec→Int}(h:Lin F){P:List Row}{v:Vec}(z:∀ l,l<P.length→F (fun k=>ent P l k)=0)(s:Span (vecs P) v):F v=0:=by
 obtain⟨c,hc⟩:=z1g.mp s
 rw[show v=fun k=>sm P.length (fun i=>c i*ent P i k)from funext hc,h.sum]
 exact z0E fun i hi=>by rw[z i hi];simp
theorem zaI{N:Nat}:∀{f:Nat} {S:List Row} {z:Nat→Int},Asc N f S→(∀ k,sm S.length (fun i=>z i*ent S i k)=0)→∀ i,i<S.length→z i=0
 | f,r::S,z,A,h,i,hi=>by
  have e:=h (z02 r)
  rw[List.length_cons,sm,z0E fun k hk=>?_]at e
  · have z0:z 0=0:=by
     have p:=A.2.2.2.1
     have e:z 0*hd r+0=0:=e
     rcases Int.mul_eq_zero.mp (show z 0*hd r=0 by omega)with q|q
     · exact q
     · omega
    match i,hi with
    | 0,_=>exact z0
    | i+1,hi =>
     refine zaI (z:=fun i=>z (i+1)) A.2.2.2.2 (fun k=>?_) i (by simpa using hi)
     have e:=h k
     rw[List.length_cons,sm,z0]at e
     have e:0*ent (r::S) 0 k+sm S.length (fun i=>z (i+1)*ent S i k)=0:=e
     omega
  · rw[zcT]
    have:=(A.2.2.2.2.mem (z1f hk)).2.1
    rw[show ent S k (z02 r)=0 from z0p _ _ (by omega)];simp
theorem lift{N:Nat}{P S:List Row}(s:SameSpan (vecs P) (vecs S))(A:Asc N 0 S)(ζ:Nat→Int):
  ∃ z:Nat→Int,∀ F,Lin F→(∀ l,l<P.length→F (fun k=>ent P l k)=z l)→∀ i,i<S.length→F (fun k=>ent S i k)=ζ i:=by
 have hU:∀ i,∃ c:Nat→Int,i<S.length→∀ k,ent S i k=sm P.length (fun l=>c l*ent P l k):=fun i=>by
  by_cases hi:i<S.length
  · obtain⟨c,hc⟩:=z1g.mp (s.iff.mpr (z2c hi));exact⟨c,fun _=>hc⟩
  · exact⟨fun _=>0,fun h=>absurd h hi⟩
 have hV:∀ i,∃ c:Nat→Int,i<P.length→∀ k,ent P i k=sm S.length (fun l=>c l*ent S l k):=fun i=>by
  by_cases hi:i<P.length
  · obtain⟨c,hc⟩:=z1g.mp (s.iff.mp (z2c hi));exact⟨c,fun _=>hc⟩
  · exact⟨fun _=>0,fun h=>absurd h hi⟩
 obtain⟨U,hU⟩:∃ U:Nat→Nat→Int,∀ i,i<S.length→∀ k,ent S i k=sm P.length (fun l=>U i l*ent P l k):=⟨fun i=>Classical.choose (hU i),fun i=>Classical.choose_spec (hU i)⟩
 obtain⟨V,hV⟩:∃ V:Nat→Nat→Int,∀ i,i<P.length→∀ k,ent P i k=sm S.length (fun l=>V i l*ent S l k):=⟨fun i=>Classical.choose (hV i),fun i=>Classical.choose_spec (hV i)⟩
 have key:∀ i,i<S.length→∀ m,m<S.length→sm P.length (fun l=>U i l*V l m)=if m=i then 1 else 0:=fun i hi m hm=>by
  have:=zaI (z:=fun m=>sm P.length (fun l=>U i l*V l m)-if m=i then 1 else 0) A (fun k=>?_) m hm
  · have this:sm P.length (fun l=>U i l*V l m)-(if m=i then 1 else 0)=0:=this
    omega
  · rw[z0r (g:=fun m=>sm P.length (fun l=>U i l*(V l m*ent S m k))-(if m=i then 1 else 0)*ent S m k) fun m _=>?_]
    · rw[z9d,z8u,z0r (g:=fun l=>U i l*ent P l k) fun l hl=>by rw[z2s,←hV l hl k],←hU i hi k,z2b hi fun m _ hn=>by rw[if_neg hn];simp]
      simp
    · rw[Int.sub_mul,←zbO]
      congr 1
      exact z0r fun l _=>by rw[Int.mul_assoc]
 refine⟨fun l=>sm S.length (fun m=>V l m*ζ m),fun F h hF i hi=>?_⟩
 rw[show(fun k=>ent S i k)=fun k=>sm P.length (fun l=>U i l*ent P l k)from funext (hU i hi),h.sum P.length (U i) (fun l k=>ent P l k)]
 rw[z0r (g:=fun l=>sm S.length (fun m=>U i l*V l m*ζ m)) fun l hl=>by rw[hF l hl,←z2s];exact z0r fun m _=>(Int.mul_assoc _ _ _).symm]
 rw[z8u,z0r (g:=fun m=>(if m=i then 1 else 0)*ζ m) fun m hm=>by rw[zbO,key i hi m hm],z2b hi fun m _ hn=>by rw[if_neg hn];simp]
 simp
def fun_(r n:Nat)(c b v:Vec):Int:=sm n (fun k=>v (r+k)*b k)-sm r (fun j=>c j*v j)
theorem z8v(r n:Nat)(c b:Vec):Lin (fun_ r n c b) where
 add u v:=by
  unfold fun_
  rw[z0r (g:=fun k=>u (r+k)*b k+v (r+k)*b k) fun k _=>Int.add_mul _ _ _,z7l,z0r (m:=r) (g:=fun j=>c j*u j+c j*v j) fun k _=>Int.mul_add _ _ _,z7l]
  omega
 smul a u:=by
  unfold fun_
  rw[z0r (g:=fun k=>a*(u (r+k)*b k)) fun k _=>Int.mul_assoc _ _ _,z2s,z0r (m:=r) (g:=fun j=>a*(c j*u j)) fun k _=>by rw[←Int.mul_assoc,Int.mul_comm (c k),Int.mul_assoc],z2s,Int.mul_sub]
def EqP(r n:Nat)(P:List Row)(b:Vec):Prop:=∃ c:Vec,∀ l,l<P.length→fun_ r n c b (fun k=>ent P l k)=0
theorem EqP.same{r n:Nat}{P S:List Row}{b:Vec}(s:SameSpan (vecs P) (vecs S)):EqP r n P b↔EqP r n S b :=
 ⟨fun⟨c,h⟩=>⟨c,fun l hl=>(z8v r n c b).span h (s.iff.mpr (z2c hl))⟩,fun⟨c,h⟩=>⟨c,fun l hl=>(z8v r n c b).span h (s.iff.mp (z2c hl))⟩⟩
end St

end
section
set_option linter.all false
set_option maxRecDepth 100000
namespace St
open Lat
def wts(n:Nat)(W:List Row)(b:Vec):Vec:=fun i=>sm n (fun k=>ent W i k*b k)
def pair(A W:List Row):List Row:=List.zipWith (·++·) A W
theorem z2e{A W:List Row}(h:A.length=W.length):(pair A W).length=A.length:=by unfold pair;rw[List.length_zipWith];omega
theorem zkF{A W:List Row}{i:Nat}(h:i<A.length)(h':i<W.length):(pair A W).getD i []=A.getD i []++W.getD i []:=by
 simp[pair,List.getD,List.getElem?_zipWith,List.getElem?_eq_getElem h,List.getElem?_eq_getElem h']
theorem z4X{r n:Nat}{A W:List Row}(ha:∀ x∈A,x.length=r){i:Nat}(h:i<A.length)(h':i<W.length)(k:Nat):ent (pair A W) i k=if k<r then ent A i k else ent W i (k-r):=by
 unfold ent;rw[zkF h h',z8t (ha _ (z1f h))]
theorem zaJ{r n:Nat}{A W:List Row}(ha:∀ x∈A,x.length=r)(hw:∀ x∈W,x.length=n):∀ x∈pair A W,x.length=r+n:=fun x hx=>by
 obtain⟨i,hi,rfl⟩:=List.getElem_of_mem hx
 simp only[pair,List.getElem_zipWith,List.length_append]
 rw[ha _ (List.getElem_mem _),hw _ (List.getElem_mem _)]
theorem z4Y{r n:Nat}{A W:List Row}{b:Vec}(ha:∀ x∈A,x.length=r)(hl:A.length=W.length)(c:Vec)(l:Nat)(h:l<A.length):fun_ r n c b (fun k=>ent (pair A W) l k)=wts n W b l-sm r (fun j=>c j*ent A l j):=by
 unfold fun_ wts
 rw[z0r (g:=fun k=>ent W l k*b k) fun k _=>by show ent (pair A W) l (r+k)*b k=_;rw[z4X (n:=n) ha h (by omega),if_neg (by omega),show r+k-r=k by omega]]
 rw[z0r (m:=r) (g:=fun j=>c j*ent A l j) fun j hj=>by show c j*ent (pair A W) l j=_;rw[z4X (n:=n) ha h (by omega),if_pos hj]]
theorem zid{r n:Nat}{A W:List Row}{b:Vec}(ha:∀ x∈A,x.length=r)(hl:A.length=W.length):EqP r n (pair A W) b↔Span (vecs (trn r A)) (wts n W b):=by
 rw[z2J ha]
 have e:=z4Y (r:=r) (n:=n) (b:=b) ha hl
 constructor
 · rintro⟨c,h⟩
   refine⟨c,fun k=>?_⟩
   by_cases hk:k<A.length
   · have:=h k (by rw[z2e hl];exact hk)
     rw[e c k hk]at this;omega
   · rw[show wts n W b k=0 from z0E fun j _=>by rw[z0T (by omega)];simp]
     exact(z0E fun j _=>by rw[z0T (by omega)];simp).symm
 · rintro⟨c,h⟩
   refine⟨c,fun l hl'=>?_⟩
   rw[z2e hl]at hl'
   rw[e c l hl',h l];omega
theorem ze7{r:Nat}{w:Int}{B:List Row}(h:z2d r w B){u:Vec}(hu:∀ k,r≤k→u k=0):Span (vecs B) (fun k=>w*u k):=by
 have key:∀ m,m≤r→Span (vecs B) (fun k=>if k<m then w*u k else 0):=fun m=>by
   induction m with
   | zero=>intro _;exact Span.congr (fun k=>by simp) Span.zero
   | succ m ih =>
    intro hm
    refine Span.congr (fun k=>?_) ((ih (by omega)).add ((h m (by omega)).smul (u m)))
    by_cases e:k=m
    · subst e;rw[if_neg (by omega),if_pos (by omega)];simp[pt,Int.mul_comm]
    · simp only[pt,if_neg e]
      by_cases q:k<m
      · rw[if_pos q,if_pos (by omega)];simp
      · rw[if_neg q,if_neg (by omega)];simp
 refine Span.congr (fun k=>?_) (key r (Nat.le_refl _))
 by_cases q:k<r
 · rw[if_pos q]
 · rw[if_neg q,hu k (by omega)];simp
theorem zjk{r:Nat}{P:List Row}{v:Vec}(s:Span (vecs P) v):Span (vecs (P.map (·.take r))) (fun k=>if k<r then v k else 0):=by
 obtain⟨c,h⟩:=z1g.mp s
 refine z1g.mpr ⟨c,fun k=>?_⟩
 have e:∀ i,ent (P.map (·.take r)) i k=if k<r then ent P i k else 0:=fun i=>by
   by_cases hi:i<P.length
   · unfold ent
     rw[show(P.map (·.take r)).getD i []=(P.getD i []).take r by simp[List.getD,List.getElem?_eq_getElem hi],z1E]
   · rw[z0T (by simpa using Nat.le_of_not_lt hi),z0T (by omega)];simp
 rw[List.length_map]
 by_cases hk:k<r
 · rw[if_pos hk,h k];exact z0r fun i _=>by rw[e,if_pos hk]
 · rw[if_neg hk];exact(z0E fun i _=>by rw[e,if_neg hk];simp).symm
theorem z5z{r:Nat}{P S:List Row}(s:SameSpan (vecs P) (vecs S)):SameSpan (vecs (P.map (·.take r))) (vecs (S.map (·.take r))):=by
 have one:∀{P S:List Row},SameSpan (vecs P) (vecs S)→∀ x∈P.map (·.take r),Span (vecs (S.map (·.take r))) (fun k=>at0 x k):=fun{P S} s x hx=>by
  obtain⟨y,hy,rfl⟩:=List.mem_map.mp hx
  exact Span.congr (fun k=>by rw[z1E]) (zjk (r:=r) (s.iff.mp (z0f hy)))
 exact z4r (one s) (one s.symm)
theorem z5A{r:Nat}{A W:List Row}(ha:∀ x∈A,x.length=r)(hl:A.length=W.length):(pair A W).map (·.take r)=A:=by
 refine List.ext_getElem (by rw[List.length_map,z2e hl]) fun i h1 h2=>?_
 simp only[pair,List.getElem_map,List.getElem_zipWith]
 rw[List.take_left' (ha _ (List.getElem_mem _))]
theorem zcV{r:Nat}(S:List Row):pair (S.map (·.take r)) (S.map (·.drop r))=S:=by
 induction S with
 | nil=>rfl
 | cons x S ih=>show(x.take r++x.drop r)::_=_;rw[List.take_append_drop];congr 1
theorem zkG{r N:Nat}{S:List Row}(h:∀ x∈S,z02 x<r):tops r S=S.map (·.take r):=by
 unfold tops;congr 1;exact List.filter_eq_self.mpr fun x hx=>decide_eq_true (h x hx)
structure Mst(r n:Nat)(w:Int)(G K A W:List Row):Prop where
 sq:Sq r A
 wl:W.length=r
 wr:∀ x∈W,x.length=n
 whole:z2d r w (trn r A)
 ker:∀ b:Vec,(∀ k,n≤k→b k=0)→(Span (vecs G) b↔(∀ j,j<K.length→wts n K b j=0)∧Span (vecs (trn r A)) (wts n W b))
 onto:∀ ζ κ:Vec,∃ b:Vec,(∀ k,n≤k→b k=0)∧(∀ j,j<K.length→wts n K b j=κ j)∧Span (vecs (trn r A)) (fun i=>wts n W b i-if i<r then ζ i else 0)
variable {r n:Nat}{w:Int}{G K A W T S W':List Row}
theorem Mst.rest(m:Mst r n w G K A W)(hl:W'.length=r)(hr:∀ x∈W',x.length=n)(q:Nat→Nat→Int)(e:∀ i k,i<r→ent W' i k=ent W i k-w*q i k):Mst r n w G K A W':=by
 have key:∀ b:Vec,Span (vecs (trn r A)) (fun i=>wts n W b i-wts n W' b i):=fun b=>by
   refine Span.congr (fun i=>?_) (ze7 m.whole (u:=fun i=>if i<r then sm n (fun k=>q i k*b k) else 0) fun k hk=>by simp;omega)
   by_cases hi:i<r
   · unfold wts
     rw[if_pos hi,←z9d,←z2s]
     exact z0r fun k _=>by rw[e i k hi,Int.sub_mul,Int.mul_assoc];omega
   · have z1:wts n W b i=0:=z0E fun k _=>by rw[z0T (by rw[m.wl];omega)];simp
     have z2:wts n W' b i=0:=z0E fun k _=>by rw[z0T (by omega)];simp
     rw[if_neg hi,z1,z2];simp
 refine⟨m.sq,hl,hr,m.whole,fun b hb=>?_,fun ζ κ=>?_⟩
 · rw[m.ker b hb]
   refine and_congr_right fun _=>⟨fun h=>Span.congr (fun i=>by omega) (h.sub (key b)),fun h=>Span.congr (fun i=>by omega) (h.add (key b))⟩
 · obtain⟨b,h1,h2,h3⟩:=m.onto ζ κ
   exact⟨b,h1,h2,Span.congr (fun i=>by omega) (h3.sub (key b))⟩
theorem Mst.step(m:Mst r n w G K A W)(t:Sq r T)(sT:SameSpan (vecs T) (vecs (trn r A)))(As:Asc (r+n) 0 S)(Fs:Form 0 (z0D S))(sl:S.length=r)(sh:∀ x∈S,z02 x<r)(ss:SameSpan (vecs S) (vecs (pair (trn r T) W))):
   Mst r n w G K (S.map (·.take r)) (S.map (·.drop r)):=by
 have et:tops r S=S.map (·.take r):=zkG (N:=0) sh
 obtain⟨a1,a2⟩:=z6C As (show r≤r+n by omega)
 rw[et]at a1 a2
 have sq:Sq r (S.map (·.take r)):=⟨a1,by rw[←et];exact z7j As Fs (by omega),by rw[List.length_map,sl]⟩
 have cl:(trn r T).length=r:=z0X _ _
 have cr:∀ x∈trn r T,x.length=r:=fun x hx=>by rw[z2Y hx,t.len]
 have tt:trn r (trn r T)=T:=zo4 t.rows t.len
 have dr:∀ x∈S.map (·.drop r),x.length=n:=fun x hx=>by
   obtain⟨y,hy,rfl⟩:=List.mem_map.mp hx
   rw[List.length_drop,(As.mem hy).1];omega
 have hs:=z5z (r:=r) ss
 rw[z5A cr (by rw[cl,m.wl])]at hs
 have wT:z2d r w T:=fun i hi=>sT.iff.mpr (m.whole i hi)
 have wC:=t.comm wT
 have wA:z2d r w (S.map (·.take r)):=fun i hi=>hs.iff.mpr (wC i hi)
 have eq:∀ y,Span (vecs (trn r A)) y↔Span (vecs (trn r (trn r T))) y:=fun y=>by rw[tt];exact sT.symm.iff
 have pc:=zcV (r:=r) S
 refine⟨sq,by rw[List.length_map,sl],dr,sq.comm wA,fun b hb=>?_,fun ζ κ=>?_⟩
 · rw[m.ker b hb]
   refine and_congr_right fun _=>?_
   rw[eq,←zid (n:=n) cr (by rw[cl,m.wl]),←zid (n:=n) sq.rows (by simp),pc]
   exact EqP.same ss.symm
 · obtain⟨z,hz⟩:=lift ss.symm As ζ
   obtain⟨b,h1,h2,h3⟩:=m.onto z κ
   refine⟨b,h1,h2,?_⟩
   obtain⟨c,hc⟩:=(z2J cr).mp ((eq _).mp h3)
   have pl:(pair (trn r T) W).length=r:=by rw[z2e (by rw[cl,m.wl]),cl]
   have:=hz (fun_ r n c b) (z8v r n c b) fun l hl=>by
     rw[pl]at hl
     have e:=hc l
     rw[if_pos hl]at e
     rw[z4Y cr (by rw[cl,m.wl]) c l (by omega)]
     omega
   refine(z2J sq.rows).mpr ⟨c,fun i=>?_⟩
   by_cases hi:i<r
   · have e:=this i (by omega)
     rw[←pc]at e
     rw[z4Y sq.rows (by simp) c i (by rw[sq.len];exact hi)]at e
     rw[if_pos hi]
     omega
   · rw[if_neg hi,show wts n (S.map (·.drop r)) b i=0 from z0E fun k _=>by rw[z0T (by simp[sl];omega)];simp]
     rw[z0E fun j _=>by rw[z0T (by rw[sq.len];omega)];simp];rfl
end St

end
section
set_option linter.all false
set_option maxRecDepth 100000
namespace St
open Lat
def pr(A:List Row):Nat→Int
 | 0=>1
 | k+1=>pr A k*ent A k k
theorem zkH{T:List Vec}{R:Nat→Vec}(c:Nat→Int):∀ m,(∀ j,j<m→Span T (R j))→Span T (fun k=>sm m (fun j=>c j*R j k)):=by
 intro m
 induction m generalizing c R with
 | zero=>intro _;exact Span.zero
 | succ m ih=>intro h;exact((h 0 (by omega)).smul (c 0)).add (ih (R:=fun j=>R (j+1)) (fun j=>c (j+1)) fun j hj=>h (j+1) (by omega))
theorem zcW{D:List Row}(hl:∀ i j,i<j→ent D i j=0):∀ i,i≤D.length→∀ j,j<i→Span (vecs D) (pt j (pr D i)):=by
 intro i
 induction i with
 | zero=>intro _ j hj;omega
 | succ i ih =>
  intro hi j hj
  have ih:=ih (by omega)
  by_cases e:j<i
  · refine Span.congr (fun k=>?_) ((ih j e).smul (ent D i i))
    simp only[pt,pr];split
    · exact Int.mul_comm _ _
    · simp
  · have e:j=i:=by omega
    subst e
    refine Span.congr (fun k=>?_) (((z2c (A:=D) (i:=j) (by omega)).smul (pr D j)).sub (zkH (R:=fun l=>pt l (pr D j)) (fun l=>ent D j l) j ih))
    by_cases h1:k<j
    · rw[z2b h1 fun l _ hn=>by simp only[pt];rw[if_neg (by omega)];simp]
      simp only[pt,if_true];rw[if_neg (by omega),Int.mul_comm];omega
    · rw[z0E fun l hl=>by simp only[pt];rw[if_neg (by omega)];simp]
      by_cases h2:k=j
      · subst h2;simp[pt,pr]
      · rw[hl j k (by omega)];simp[pt,h2]
theorem zcX{A B:List Row}:∀{k:Nat},(∀ i,i<k→ent A i i=ent B i i)→pr A k=pr B k
 | 0,_=>rfl
 | k+1,h=>by rw[pr,pr,zcX fun i hi=>h i (by omega),h k (by omega)]
theorem ze8{A:List Row}:∀{k:Nat},(∀ i,i<k→0<ent A i i)→0<pr A k
 | 0,_=>by show(0:Int)<1;decide
 | k+1,h=>by rw[pr];exact Int.mul_pos (ze8 fun i hi=>h i (by omega)) (h k (by omega))
variable {r n:Nat}{w:Int}{G K A W T S:List Row}
theorem Sq.prod(q:Sq r A):z2d r (pr A r) (trn r A):=fun i hi=>by
 have:=zcW (D:=trn r A) (fun i j h=>by rw[z1u q.rows];exact q.low h) r (by rw[z0X];exact Nat.le_refl _) i hi
 rw[zcX (B:=A) fun i _=>by rw[z1u q.rows]]at this
 exact this
theorem Sq.below(q:Sq r A)(h:z2d r w (trn r A)):Below r r w (trn r A) where
 len:=z0X _ _
 wid:=Nat.le_refl _
 rows x hx:=by rw[z2Y hx,q.len]
 pos i hi:=by rw[z1u q.rows];have:=q.pos hi;omega
 low i j h1 h2:=by rw[z1u q.rows];exact q.low h1
 whole i hi:=⟨_,h i hi,by simp[pt],fun k _ hn=>by simp[pt,hn]⟩
theorem Sq.below_pair(t:Sq r T)(h:z2d r w (trn r T))(wl:W.length=r)(wr:∀ x∈W,x.length=n):Below r (r+n) w (pair (trn r T) W):=by
 have B:=t.below h
 have pl:(pair (trn r T) W).length=r:=by rw[z2e (by rw[B.len,wl]),B.len]
 have e:∀ i k,i<r→k<r→ent (pair (trn r T) W) i k=ent (trn r T) i k:=fun i k hi hk=>by
   rw[z4X (n:=n) B.rows (by rw[B.len];exact hi) (by omega),if_pos hk]
 refine⟨pl,by omega,zaJ B.rows wr,fun i hi=>by rw[e i i hi hi];exact B.pos i hi,fun i j h1 h2=>by rw[e i j (by omega) h2];exact B.low i j h1 h2,fun i hi=>?_⟩
 obtain⟨c,hc⟩:=z1g.mp (h i hi)
 rw[z0X]at hc
 refine⟨fun k=>sm r (fun l=>c l*ent (pair (trn r T) W) l k),z1g.mpr ⟨c,fun k=>by rw[pl]⟩,?_,fun k hk hn=>?_⟩
 · show sm r (fun l=>c l*ent (pair (trn r T) W) l i)=w
   rw[z0r (g:=fun l=>c l*ent (trn r T) l i) fun l hl=>by rw[e l i hl hi],←hc i];simp[pt]
 · show sm r (fun l=>c l*ent (pair (trn r T) W) l k)=0
   rw[z0r (g:=fun l=>c l*ent (trn r T) l k) fun l hl=>by rw[e l k hl hk],←hc k];simp[pt,hn]
theorem zkI:∀{R:List Row} {cs:List Int} (k:Nat),cs.length=R.length→mix R cs k=sm R.length (fun i=>at0 cs i*ent R i k)
 | [],[],_,_=>rfl
 | x::R,c::cs,k,h=>by
  rw[mix,List.length_cons,sm]
  show c*at0 x k+mix R cs k=_
  rw[zkI k (by simpa using h)]
  rfl
theorem Below.ind{N:Nat}{P:List Row}(B:Below r N w P):Ind P:=fun cs hl hz c hc=>by
 have z:=z6D (m:=r) (a:=0) (c:=fun i=>at0 cs i) (D:=fun l j=>ent P l j) B.pos B.low fun j _ _=>by
  have:=hz j
  rw[zkI j hl,B.len]at this;exact this
 obtain⟨i,hi,rfl⟩:=List.getElem_of_mem hc
 have e:=z (r-i) i (by rw[hl,B.len]at hi;omega) (by omega) (by rw[hl,B.len]at hi;exact hi)
 simpa[at0,List.getD,List.getElem?_eq_getElem hi]using e
theorem Below.full{N:Nat}{P:List Row}(B:Below r N w P)(As:Asc N 0 S)(ss:SameSpan (vecs S) (vecs P)):∀ x∈S,z02 x<r∧hd x∣w:=fun x hx =>
 B.heads (Nat.le_refl r) As (by rw[show P.take r=P by rw[←B.len];exact List.take_length];exact ss) hx
def units(n:Nat):List Row:=(List.range n).map (z3j n)
theorem z1Z(n:Nat):(units n).length=n:=by simp[units]
theorem zjl(n:Nat):∀ x∈units n,x.length=n:=fun x hx=>by obtain⟨i,_,rfl⟩:=List.mem_map.mp hx;exact zjj n i
theorem z7m{i k:Nat}(hi:i<n):ent (units n) i k=if k=i∧k<n then 1 else 0:=by
 unfold ent units
 rw[show((List.range n).map (z3j n)).getD i []=z3j n i by simp[List.getD,hi],zcR]
theorem zjm{f:Nat}(As:Asc r f T)(h:∀ i,i<r→∃ x∈T,z02 x=i):r≤T.length:=by
 have:=z3M (l:=List.range r) (m:=T.map z02) id List.nodup_range (fun x _ y _ e=>e) fun i hi=>by
  obtain⟨x,hx,e⟩:=h i (List.mem_range.mp hi)
  exact List.mem_map.mpr ⟨x,hx,e⟩
 simpa using this
theorem start(Ag:Asc n 0 G)(gl:G.length=r)(As:Asc (r+n) 0 S)(Fs:Form 0 (z0D S))(sl:S.length=n)(ss:SameSpan (vecs S) (vecs (pair (trn n G) (units n)))):
   ∃ W,S.filter (fun x=>decide (z02 x<r))=S.take r∧W=(S.take r).map (·.drop r)∧(bots r S).length=n-r∧Mst r n (pr (tops r S) r) G (bots r S) (tops r S) W∧tops r S=(S.take r).map (·.take r)∧r≤n:=by
 have gr:∀ x∈G,x.length=n:=fun x hx=>(Ag.mem hx).1
 have rn:r≤n:=by have:=z6y Ag (Nat.zero_le _);omega
 have cr:∀ x∈trn n G,x.length=r:=fun x hx=>by rw[z2Y hx,gl]
 have cl:(trn n G).length=n:=z0X _ _
 obtain⟨a1,a2⟩:=z6C As (show r≤r+n by omega)
 have hs:=z5z (r:=r) ss
 rw[z5A cr (by rw[cl,z1Z])]at hs
 have cover:∀ i,i<r→∃ x∈tops r S,z02 x=i:=fun i hi=>by
   let D:List Row:=(List.range r).map fun i=>(trn n G).getD (z02 (G.getD i [])) []
   have dl:D.length=r:=by simp[D]
   have de:∀ i j,i<r→ent D i j=ent G j (z02 (G.getD i [])):=fun i j hi=>by
     have:D.getD i []=(trn n G).getD (z02 (G.getD i [])) []:=by simp[D,List.getD,hi]
     rw[←z1u gr]
     unfold ent
     rw[this]
   have low:∀ i j,i<j→ent D i j=0:=fun i j h=>by
     by_cases hi:i<r
     · rw[de i j hi]
       by_cases hj:j<r
       · exact z0p _ _ (ze5 Ag h (by rw[gl];exact hj))
       · exact z0T (by rw[gl];omega) _
     · exact z0T (by rw[dl];omega) _
   have sp:=zcW low r (by rw[dl];exact Nat.le_refl _) i hi
   have pos:0<pr D r:=ze8 fun i hi=>by
     rw[de i i hi]
     exact(z6z Ag (k:=i) (by rw[gl];exact hi)).2.2.2
   have sp2:Span (vecs (trn n G)) (pt i (pr D r)):=Span.trans (fun v hv=>by
     obtain⟨x,hx,rfl⟩:=List.mem_map.mp hv
     obtain⟨j,hj,rfl⟩:=List.mem_map.mp hx
     have hj:=List.mem_range.mp hj
     exact z0f (z1f (by rw[cl];exact(z6z Ag (k:=j) (by rw[gl];exact hj)).2.2.1))) sp
   have sp3:=hs.iff.mpr sp2
   have sp4:Span (vecs (tops r S)) (pt i (pr D r)):=by
     refine Span.trans (fun v hv=>?_) sp3
     obtain⟨x,hx,rfl⟩:=List.mem_map.mp hv
     obtain⟨y,hy,rfl⟩:=List.mem_map.mp hx
     exact Span.congr (fun k=>by simp only[vec];rw[z1E]) (z7k (n:=r) As (z0f hy))
   exact Asc.first a1 sp4 (fun k hk=>by simp[pt];omega) (by simp[pt];omega)
 have tl:(tops r S).length=r:=by
   have h1:=zjm a1 cover
   have h2:=z6y a1 (Nat.zero_le _)
   omega
 have fl:(S.filter fun x=>decide (z02 x<r)).length=r:=by rw[←a2];exact tl
 have sp:=z9c As (n:=r)
 have tk:S.filter (fun x=>decide (z02 x<r))=S.take r:=by
   have:=congrArg (List.take r) sp
   rw[List.take_left' fl]at this
   exact this.symm
 have dk:S.filter (fun x=>!decide (z02 x<r))=S.drop r:=by
   have:=congrArg (List.drop r) sp
   rw[List.drop_left' fl]at this
   exact this.symm
 have te:tops r S=(S.take r).map (·.take r):=by unfold tops;rw[tk]
 have be:bots r S=(S.drop r).map (·.drop r):=by unfold bots;rw[dk]
 have bl:(bots r S).length=n-r:=by rw[be,List.length_map,List.length_drop,sl]
 have sq:Sq r (tops r S):=⟨a1,z7j As Fs (by omega),tl⟩
 have hS:∀ i,i<r→∀ k,ent S i k=ent (pair (tops r S) ((S.take r).map (·.drop r))) i k:=fun i hi k=>by
   rw[te,zcV,z9e hi]
 have wl:((S.take r).map (·.drop r)).length=r:=by rw[List.length_map,List.length_take,sl];omega
 have zl:∀ j,j<n-r→∀ k,k<r→ent S (r+j) k=0:=fun j hj k hk=>by
   have m:S.getD (r+j) []∈S.filter (fun x=>!decide (z02 x<r)):=by
     rw[dk,show S.getD (r+j) []=(S.drop r).getD j [] by simp[List.getD,List.getElem?_drop]]
     exact z1f (by rw[List.length_drop,sl];exact hj)
   have:=(List.mem_filter.mp m).2
   rw[Bool.not_eq_true',decide_eq_false_iff_not]at this
   exact z0p _ _ (by omega)
 have bk:∀ j,j<n-r→∀ k,ent S (r+j) (r+k)=ent (bots r S) j k:=fun j hj k=>by
   rw[be]
   unfold ent
   rw[show((S.drop r).map (·.drop r)).getD j []=(S.getD (r+j) []).drop r by simp[List.getD,List.getElem?_drop,List.getElem?_eq_getElem (show r+j<S.length by omega)],z4V]
 have fb:∀(c b:Vec) (j:Nat),j<n-r→fun_ r n c b (fun k=>ent S (r+j) k)=wts n (bots r S) b j:=fun c b j hj=>by
   unfold fun_ wts
   rw[z0r (g:=fun k=>ent (bots r S) j k*b k) fun k _=>by show ent S (r+j) (r+k)*b k=_;rw[bk j hj],z0E (m:=r) fun k hk=>by show c k*ent S (r+j) k=0;rw[zl j hj k hk];simp]
   omega
 have fa:∀(c b:Vec) (i:Nat),i<r→fun_ r n c b (fun k=>ent S i k)=wts n ((S.take r).map (·.drop r)) b i-sm r (fun j=>c j*ent (tops r S) i j):=fun c b i hi=>by
   rw[show(fun k=>ent S i k)=fun k=>ent (pair (tops r S) ((S.take r).map (·.drop r))) i k from funext (hS i hi)]
   exact z4Y sq.rows (by rw[tl,wl]) c i (by rw[tl];exact hi)
 have fp:∀(c b:Vec) (l:Nat),l<n→fun_ r n c b (fun k=>ent (pair (trn n G) (units n)) l k)=b l-sm r (fun j=>c j*ent G j l):=fun c b l hl=>by
   rw[z4Y cr (by rw[cl,z1Z]) c l (by rw[cl];exact hl)]
   congr 1
   · unfold wts
     rw[z2b hl fun k _ hn=>by rw[z7m hl,if_neg (by omega)];simp,z7m hl,if_pos ⟨rfl,hl⟩];simp
   · exact z0r fun j _=>by rw[z1u gr]
 have pl:(pair (trn n G) (units n)).length=n:=by rw[z2e (by rw[cl,z1Z]),cl]
 refine⟨_,tk,rfl,bl,⟨sq,wl,fun x hx=>?_,sq.prod,fun b hb=>?_,fun ζ κ=>?_⟩,te,rn⟩
 · obtain⟨y,hy,rfl⟩:=List.mem_map.mp hx
   rw[List.length_drop,(As.mem (List.mem_of_mem_take hy)).1];omega
 · have e1:Span (vecs G) b↔EqP r n (pair (trn n G) (units n)) b:=by
     rw[z1g,gl]
     constructor
     · rintro⟨c,h⟩
       exact⟨c,fun l hl=>by rw[fp c b l (by omega),h l];omega⟩
     · rintro⟨c,h⟩
       refine⟨c,fun k=>?_⟩
       by_cases hk:k<n
       · have:=h k (by omega)
         rw[fp c b k hk]at this;omega
       · rw[hb k (by omega)]
         exact(z0E fun j _=>by rw[zbP gr (by omega)];simp).symm
   rw[e1,EqP.same ss.symm,bl,z2J sq.rows]
   constructor
   · rintro⟨c,h⟩
     refine⟨fun j hj=>by rw[←fb c b j hj];exact h _ (by omega),c,fun k=>?_⟩
     by_cases hk:k<r
     · have:=h k (by omega)
       rw[fa c b k hk]at this;omega
     · rw[show wts n ((S.take r).map (·.drop r)) b k=0 from z0E fun j _=>by rw[z0T (by rw[wl];omega)];simp]
       exact(z0E fun j _=>by rw[z0T (by rw[tl];omega)];simp).symm
   · rintro⟨h1,c,h2⟩
     refine⟨c,fun l hl=>?_⟩
     by_cases hk:l<r
     · rw[fa c b l hk,h2 l];omega
     · have:=h1 (l-r) (by omega)
       rw[←fb c b (l-r) (by omega),show r+(l-r)=l by omega]at this
       exact this
 · obtain⟨z,hz⟩:=lift ss.symm As (fun i=>if i<r then ζ i else κ (i-r))
   have:=hz (fun_ r n (fun _=>0) (fun k=>if k<n then z k else 0)) (z8v _ _ _ _) fun l hl=>by
     rw[fp _ _ l (by omega),if_pos (by omega),z0E fun j _=>by simp];omega
   refine⟨fun k=>if k<n then z k else 0,fun k hk=>if_neg (by omega),fun j hj=>?_,?_⟩
   · have e:=this (r+j) (by omega)
     rw[fb _ _ j (by omega),if_neg (by omega),show r+j-r=j by omega]at e
     exact e
   · refine Span.congr (fun i=>?_) Span.zero
     by_cases hi:i<r
     · have e:=this i (by omega)
       rw[fa _ _ i hi,if_pos hi,z0E fun j _=>by simp]at e
       rw[if_pos hi];omega
     · rw[if_neg hi,show wts n ((S.take r).map (·.drop r)) _ i=0 from z0E fun j _=>by rw[z0T (by rw[wl];omega)];simp];rfl
end St

end
section
set_option linter.all false
set_option maxRecDepth 100000
namespace St
open Lat
abbrev Meas:=List (Row×Int)
def mw(M:Meas)(i:Nat):Row:=(M.getD i ([],0)).1
def mp(M:Meas)(i:Nat):Int:=(M.getD i ([],0)).2
def dt(n:Nat)(w:Row)(b:Vec):Int:=sm n (fun k=>at0 w k*b k)
structure Ms(n:Nat)(G:List Row)(M:Meas):Prop where
 rows:∀ x∈M,x.1.length=n
 ker:∀ b:Vec,(∀ k,n≤k→b k=0)→(Span (vecs G) b↔∀ i,i<M.length→mp M i∣dt n (mw M i) b)
 onto:∀ ζ:Vec,∃ b:Vec,(∀ k,n≤k→b k=0)∧∀ i,i<M.length→mp M i∣dt n (mw M i) b-ζ i
variable {n:Nat}{G:List Row}{M M':Meas}
theorem Ms.rest(m:Ms n G M)(hr:∀ x∈M',x.1.length=n)(hl:M'.length=M.length)(hp:∀ i,i<M.length→mp M' i=mp M i)(hd:∀ i,i<M.length→∀ b:Vec,mp M i∣dt n (mw M' i) b-dt n (mw M i) b):Ms n G M':=by
 refine⟨hr,fun b hb=>?_,fun ζ=>?_⟩
 · rw[m.ker b hb,hl]
   refine forall_congr' fun i=>forall_congr' fun hi=>?_
   rw[hp i hi]
   have:=hd i hi b
   constructor
   · intro h;have:=Int.dvd_add this h;rwa [Int.sub_add_cancel]at this
   · intro h;have:=Int.dvd_sub h this;rwa [show dt n (mw M' i) b-(dt n (mw M' i) b-dt n (mw M i) b)=dt n (mw M i) b by omega]at this
 · obtain⟨b,h1,h2⟩:=m.onto ζ
   refine⟨b,h1,fun i hi=>?_⟩
   rw[hl]at hi
   rw[hp i hi]
   have:=Int.dvd_add (hd i hi b) (h2 i hi)
   rwa [show dt n (mw M' i) b-dt n (mw M i) b+(dt n (mw M i) b-ζ i)=dt n (mw M' i) b-ζ i by omega]at this
theorem Ms.link(m:Ms n G M){p q:Nat}{g f1 f2 a b:Int}(hp:p<M.length)(hq:q<M.length)(hn:p≠q)(ea:mp M p=g*a)(eb:mp M q=g*b)(hg:g≠0)(e1:f1*a+f2*b=1)
   (hr:∀ x∈M',x.1.length=n) (hl:M'.length=M.length) (ho:∀ i,i≠p→i≠q→mp M' i=mp M i∧mw M' i=mw M i) (hp1:mp M' p=g) (hq1:mp M' q=a*(g*b))
   (hp2:∀ v:Vec,g∣dt n (mw M' p) v-(dt n (mw M p) v+dt n (mw M q) v)) (hq2:∀ v:Vec,a*(g*b)∣dt n (mw M' q) v-(-(f2*b)*dt n (mw M p) v+f1*a*dt n (mw M q) v)):Ms n G M':=by
 have key:∀ X Y U V:Int,g∣U-(X+Y)→a*(g*b)∣V-(-(f2*b)*X+f1*a*Y)→((g*a∣X∧g*b∣Y)↔(g∣U∧a*(g*b)∣V)):=by
   rintro X Y U V ⟨u,hu⟩ ⟨v,hv⟩
   constructor
   · rintro⟨⟨x,rfl⟩,⟨y,rfl⟩⟩
     exact⟨⟨u+a*x+b*y,by grind⟩,⟨v-f2*x+f1*y,by grind⟩⟩
   · rintro⟨⟨x,rfl⟩,⟨y,rfl⟩⟩
     refine⟨⟨f1*(x-u)-b*(y-v),?_⟩,⟨f2*(x-u)+a*(y-v),?_⟩⟩
     · grind
     · grind
 refine⟨hr,fun b' hb=>?_,fun ζ=>?_⟩
 · rw[m.ker b' hb,hl]
   have k:=key (dt n (mw M p) b') (dt n (mw M q) b') (dt n (mw M' p) b') (dt n (mw M' q) b') (hp2 b') (hq2 b')
   constructor
   · intro h i hi
     have:=k.mp ⟨by rw[←ea];exact h p hp,by rw[←eb];exact h q hq⟩
     by_cases i1:i=p
     · subst i1;rw[hp1];exact this.1
     · by_cases i2:i=q
       · subst i2;rw[hq1];exact this.2
       · rw[(ho i i1 i2).1,(ho i i1 i2).2];exact h i hi
   · intro h i hi
     have:=k.mpr ⟨by rw[←hp1];exact h p hp,by rw[←hq1];exact h q hq⟩
     by_cases i1:i=p
     · subst i1;rw[ea];exact this.1
     · by_cases i2:i=q
       · subst i2;rw[eb];exact this.2
       · have:=h i hi
         rw[(ho i i1 i2).1,(ho i i1 i2).2]at this;exact this
 · obtain⟨v,h1,h2⟩:=m.onto fun i=>if i=p then f1*a*ζ p-ζ q else if i=q then f2*b*ζ p+ζ q else ζ i
   refine⟨v,h1,fun i hi=>?_⟩
   have x1:=h2 p hp
   rw[if_pos rfl,ea]at x1
   have x2:=h2 q hq
   rw[if_neg (by omega),if_pos rfl,eb]at x2
   have k:=(key (dt n (mw M p) v-(f1*a*ζ p-ζ q)) (dt n (mw M q) v-(f2*b*ζ p+ζ q)) (dt n (mw M' p) v-ζ p) (dt n (mw M' q) v-ζ q)
     (by have:=hp2 v;rwa [show dt n (mw M' p) v-ζ p-(dt n (mw M p) v-(f1*a*ζ p-ζ q)+(dt n (mw M q) v-(f2*b*ζ p+ζ q)))=dt n (mw M' p) v-(dt n (mw M p) v+dt n (mw M q) v) by grind])
     (by have:=hq2 v;rwa [show dt n (mw M' q) v-ζ q-(-(f2*b)*(dt n (mw M p) v-(f1*a*ζ p-ζ q))+f1*a*(dt n (mw M q) v-(f2*b*ζ p+ζ q)))=dt n (mw M' q) v-(-(f2*b)*dt n (mw M p) v+f1*a*dt n (mw M q) v) by grind])).mp ⟨x1,x2⟩
   by_cases i1:i=p
   · subst i1;rw[hp1];exact k.1
   · by_cases i2:i=q
     · subst i2;rw[hq1];exact k.2
     · have:=h2 i (by omega)
       rw[if_neg i1,if_neg i2]at this
       rw[(ho i i1 i2).1,(ho i i1 i2).2];exact this
theorem zo5{g a b f1 f2 w:Int}(hg:g≠0)(e1:f1*a+f2*b=1)(h1:g*a∣w)(h2:g*b∣w):a*(g*b)∣w:=by
 obtain⟨s,hs⟩:=h1
 obtain⟨t,ht⟩:=h2
 exact⟨f1*t+f2*s,by grind⟩
theorem zo6{p:Int}{x y:Row}{q:Nat→Int}(e:∀ k,at0 x k=at0 y k-p*q k)(b:Vec):p∣dt n x b-dt n y b:=by
 refine⟨- sm n (fun k=>q k*b k),?_⟩
 unfold dt
 rw[←z9d,z0r (g:=fun k=>(-p)*(q k*b k)) fun k _=>by rw[e k];grind,z2s];grind
theorem Mst.meas{r:Nat}{w:Int}{K A W:List Row}(m:Mst r n w G K A W)(hc:Clean r A)(kr:∀ x∈K,x.length=n)(M:Meas)(hl:M.length=r+K.length)(h1:∀ i,i<r→mw M i=W.getD i []∧mp M i=ent A i i)(h2:∀ j,j<K.length→mw M (r+j)=K.getD j []∧mp M (r+j)=0):Ms n G M:=by
 have sp:∀ y:Vec,(∀ k,r≤k→y k=0)→(Span (vecs (trn r A)) y↔∀ i,i<r→ent A i i∣y i):=fun y hy=>by
   rw[z2J m.sq.rows]
   constructor
   · rintro⟨c,h⟩ i hi
     rw[h i,z2b hi fun k _ hn=>by rw[hc i hi k hn];simp]
     exact⟨c i,Int.mul_comm _ _⟩
   · intro h
     refine⟨fun i=>y i / ent A i i,fun k=>?_⟩
     by_cases hk:k<r
     · rw[z2b hk fun j _ hn=>by rw[hc k hk j hn];simp]
       exact(Int.ediv_mul_cancel (h k hk)).symm
     · rw[hy k (by omega)]
       exact(z0E fun j _=>by rw[z0T (by rw[m.sq.len];omega)];simp).symm
 have wz:∀ b k,r≤k→wts n W b k=0:=fun b k hk=>z0E fun j _=>by rw[z0T (by rw[m.wl];exact hk)];simp
 have d1:∀ b i,i<r→dt n (mw M i) b=wts n W b i:=fun b i hi=>by rw[(h1 i hi).1];rfl
 have d2:∀ b j,j<K.length→dt n (mw M (r+j)) b=wts n K b j:=fun b j hj=>by rw[(h2 j hj).1];rfl
 refine⟨fun x hx=>?_,fun b hb=>?_,fun ζ=>?_⟩
 · obtain⟨i,hi,rfl⟩:=List.getElem_of_mem hx
   have e:M[i].1=mw M i:=by simp[mw,List.getD,List.getElem?_eq_getElem hi]
   rw[e]
   by_cases q:i<r
   · rw[(h1 i q).1];exact m.wr _ (z1f (by rw[m.wl];exact q))
   · rw[show i=r+(i-r) by omega,(h2 (i-r) (by omega)).1];exact kr _ (z1f (by omega))
 · rw[m.ker b hb,sp _ (wz b),hl]
   constructor
   · rintro⟨a1,a2⟩ i hi
     by_cases q:i<r
     · rw[(h1 i q).2,d1 b i q];exact a2 i q
     · rw[show i=r+(i-r) by omega,(h2 (i-r) (by omega)).2,d2 b _ (by omega),a1 _ (by omega)];exact Int.dvd_refl 0
   · intro h
     refine⟨fun j hj=>?_,fun i hi=>?_⟩
     · have:=h (r+j) (by omega)
       rw[(h2 j hj).2,d2 b j hj]at this
       exact Int.zero_dvd.mp this
     · have:=h i (by omega)
       rw[(h1 i hi).2,d1 b i hi]at this;exact this
 · obtain⟨b,b1,b2,b3⟩:=m.onto ζ (fun j=>ζ (r+j))
   rw[sp _ fun k hk=>by rw[wz b k hk,if_neg (by omega)];rfl]at b3
   refine⟨b,b1,fun i hi=>?_⟩
   by_cases q:i<r
   · have:=b3 i q
     rw[if_pos q]at this
     rw[(h1 i q).2,d1 b i q];exact this
   · have:=b2 (i-r) (by omega)
     rw[show i=r+(i-r) by omega,(h2 (i-r) (by omega)).2,d2 b _ (by omega),this]
     simp
end St

end
section
set_option linter.all false
set_option maxRecDepth 100000
namespace St
open Lat
theorem z5B:∀{n:Nat} {f:Nat→Nat} {t:List Int},z1A ((List.range n).map f) t↔t.length=n∧∀ i,i<n→0≤at0 t i∧at0 t i<f i:=by
 have key:∀(ns:List Nat) (t:List Int),z1A ns t↔t.length=ns.length∧∀ i,i<ns.length→0≤at0 t i∧at0 t i<(ns.getD i 0:Int):=by
  intro ns
  induction ns with
  | nil =>
   intro t
   cases t with
   | nil=>simp[z1A]
   | cons x t=>simp[z1A]
  | cons a ns ih =>
   intro t
   cases t with
   | nil=>simp[z1A]
   | cons x t =>
    rw[z1A,ih]
    constructor
    · rintro⟨h0,h1,h2,h3⟩
      refine⟨by simp[h2],fun i hi=>?_⟩
      cases i with
      | zero=>exact⟨h0,h1⟩
      | succ i=>exact h3 i (by simpa using hi)
    · rintro⟨h2,h3⟩
      have a:=h3 0 (by simp)
      exact⟨a.1,a.2,by simpa using h2,fun i hi=>h3 (i+1) (by simpa using hi)⟩
 intro n f t
 rw[key]
 simp only[List.length_map,List.length_range]
 refine and_congr_right fun _=>forall_congr' fun i=>forall_congr' fun hi=>?_
 rw[show((List.range n).map f).getD i 0=f i by simp[List.getD,hi]]
def mkr(n:Nat)(f:Nat→Int):Row:=(List.range n).map f
theorem zie(n:Nat)(f:Nat→Int):(mkr n f).length=n:=by simp[mkr]
theorem zif{n:Nat}{f:Nat→Int}{k:Nat}(h:k<n):at0 (mkr n f) k=f k:=by simp[at0,mkr,List.getD,h]
theorem zcY{n:Nat}{f:Nat→Int}(hf:∀ k,n≤k→f k=0)(k:Nat):at0 (mkr n f) k=f k:=by
 by_cases h:k<n
 · exact zif h
 · rw[hf k (by omega)];exact z1l (by rw[zie];omega)
variable {n:Nat}{G:List Row}{M:Meas}
end St

end
section
set_option linter.all false
set_option maxRecDepth 100000
namespace St
open Lat
theorem zcZ(l:List Nat)(x:Nat):prod (l++[x])=prod l*x:=by
 induction l with
 | nil=>simp[prod]
 | cons a l ih=>rw[List.cons_append,prod,prod,ih,Nat.mul_assoc]
theorem zig{A:List Row}:∀{r:Nat},(∀ i,i<r→0<ent A i i)→pr A r=(prod ((List.range r).map fun i=>(ent A i i).toNat):Int)
 | 0,_=>rfl
 | r+1,h=>by
  have:=h r (by omega)
  rw[pr,zig fun i hi=>h i (by omega),List.range_succ,List.map_append,List.map_cons,List.map_nil,zcZ,Int.natCast_mul]
  congr 1;omega
theorem zd{f:Nat→Nat}{e:Nat}:∀{r:Nat},(∀ i,i<r→f i≤2 ^ e)→prod ((List.range r).map f)≤2 ^ (e*r)
 | 0,_=>by simp[prod]
 | r+1,h=>by
  rw[List.range_succ,List.map_append,List.map_cons,List.map_nil,zcZ,Nat.mul_succ,Nat.pow_add]
  exact Nat.mul_le_mul (zd fun i hi=>h i (by omega)) (h r (by omega))
variable {r:Nat}{A D:List Row}
theorem zjn(dl:D.length=r)(low:∀ i j,i<j→ent D i j=0)(pos:∀ i,i<r→0<ent D i i):∀ k,k≤r→∀ t:Vec,(∀ j,k≤j→t j=0) →
  ∃ x:Vec,(∀ j,j<k→0≤x j∧x j<ent D j j)∧(∀ j,k≤j→x j=0)∧Span (vecs D) (fun j=>t j-x j):=by
 intro k
 induction k with
 | zero=>intro _ t ht;exact⟨fun _=>0,fun j hj=>by omega,fun _ _=>rfl,Span.congr (fun j=>by rw[ht j (by omega)];rfl) Span.zero⟩
 | succ k ih =>
  intro hk t ht
  have p:=pos k (by omega)
  obtain⟨f0,f1⟩:=z7f (t k) p
  have sd:Span (vecs D) (fun j=>ent D k j):=z2c (by omega)
  obtain⟨x,x1,x2,x3⟩:=ih (by omega) (fun j=>if j<k then t j-(t k).fdiv (ent D k k)*ent D k j else 0) fun j hj=>if_neg (by omega)
  refine⟨fun j=>if j=k then t k-(t k).fdiv (ent D k k)*ent D k k else x j,fun j hj=>?_,fun j hj=>?_,?_⟩
  · dsimp only
    by_cases e:j=k
    · subst e;rw[if_pos rfl];exact⟨f0,f1⟩
    · rw[if_neg e];exact x1 j (by omega)
  · dsimp only;rw[if_neg (by omega)];exact x2 j (by omega)
  · refine Span.congr (fun j=>?_) (x3.add (sd.smul ((t k).fdiv (ent D k k))))
    dsimp only
    by_cases e:j=k
    · subst e;rw[if_neg (by omega),if_pos rfl,x2 j (by omega)];omega
    · rw[if_neg e]
      by_cases h:j<k
      · rw[if_pos h];omega
      · rw[if_neg h,low k j (by omega),ht j (by omega)];simp
theorem Sq.prod_bound(q:Sq r A)(dl:D.length=r)(low:∀ i j,i<j→ent D i j=0)(pos:∀ i,i<r→0<ent D i i)(sp:∀ x∈D,Span (vecs A) (fun k=>at0 x k)):
   Lat.prod ((List.range r).map fun i=>(ent A i i).toNat)≤Lat.prod ((List.range r).map fun i=>(ent D i i).toNat):=by
 have sub:∀ v,Span (vecs D) v→Span (vecs A) v:=fun v hv=>Span.trans (fun u hu=>by obtain⟨x,hx,rfl⟩:=List.mem_map.mp hu;exact sp x hx) hv
 have ch:∀ t:Row,t.length=r→∃ x:Vec,(∀ j,j<r→0≤x j∧x j<ent D j j)∧(∀ j,r≤j→x j=0)∧Span (vecs D) (fun j=>at0 t j-x j):=fun t ht=>zjn dl low pos r (Nat.le_refl _) _ fun j hj=>z1l (by omega)
 have ch':∀ t:Row,∃ x:Vec,t.length=r→(∀ j,j<r→0≤x j∧x j<ent D j j)∧(∀ j,r≤j→x j=0)∧Span (vecs D) (fun j=>at0 t j-x j):=fun t=>by
   by_cases h:t.length=r
   · obtain⟨x,hx⟩:=ch t h;exact⟨x,fun _=>hx⟩
   · exact⟨fun _=>0,fun h'=>absurd h' h⟩
 refine zi5 (fun t=>mkr r (Classical.choose (ch' t))) (fun s t hs ht e=>?_) fun s hs=>?_
 · obtain⟨sl,sb⟩:=z5B.mp hs
   obtain⟨tl,tb⟩:=z5B.mp ht
   obtain⟨s1,s2,s3⟩:=Classical.choose_spec (ch' s) sl
   obtain⟨t1,t2,t3⟩:=Classical.choose_spec (ch' t) tl
   generalize Classical.choose (ch' s)=b at e s1 s2 s3
   generalize Classical.choose (ch' t)=c at e t1 t2 t3
   have e:mkr r b=mkr r c:=e
   have bc:∀ k,b k=c k:=fun k=>by
     have:=congrArg (fun x=>at0 x k) e
     simp only[zcY s2,zcY t2]at this
     exact this
   have d:Span (vecs A) (fun k=>at0 s k-at0 t k):=sub _ (Span.congr (fun k=>by have:=bc k;omega) (s3.sub t3))
   refine ext0 (by omega) fun k=>?_
   have z:=Asc.small q.asc d (fun x hx=>by
     obtain⟨j,hj,rfl⟩:=List.getElem_of_mem hx
     have ej:A[j]=A.getD j []:=by simp[List.getD,List.getElem?_eq_getElem hj]
     rw[q.len]at hj
     unfold hd
     rw[ej,q.head hj]
     have a:=sb j hj
     have b:=tb j hj
     have p:=q.pos hj
     show -(ent A j j)<at0 s j-at0 t j∧at0 s j-at0 t j<ent A j j
     omega) k
   omega
 · obtain⟨sl,sb⟩:=z5B.mp hs
   obtain⟨s1,s2,s3⟩:=Classical.choose_spec (ch' s) sl
   refine z5B.mpr ⟨zie _ _,fun i hi=>?_⟩
   rw[zif hi]
   have:=s1 i hi
   have p:=pos i hi
   omega
theorem zd0{n e:Nat}{G T:List Row}(Ag:Asc n 0 G)(gl:G.length=r)(q:Sq r T)(s:∀ x∈trn n G,Span (vecs T) (fun k=>at0 x k))(hb:∀ x∈G,hd x<2 ^ e):pr T r≤2 ^ (e*r):=by
 let D:List Row:=(List.range r).map fun i=>(trn n G).getD (z02 (G.getD i [])) []
 have gr:∀ x∈G,x.length=n:=fun x hx=>(Ag.mem hx).1
 have dl:D.length=r:=by simp[D]
 have de:∀ i j,i<r→ent D i j=ent G j (z02 (G.getD i [])):=fun i j hi=>by
  have:D.getD i []=(trn n G).getD (z02 (G.getD i [])) []:=by simp[D,List.getD,hi]
  rw[←z1u gr]
  unfold ent
  rw[this]
 have low:∀ i j,i<j→ent D i j=0:=fun i j h=>by
  by_cases hi:i<r
  · rw[de i j hi]
    by_cases hj:j<r
    · exact z0p _ _ (ze5 Ag h (by rw[gl];exact hj))
    · exact z0T (by rw[gl];omega) _
  · exact z0T (by rw[dl];omega) _
 have pos:∀ i,i<r→0<ent D i i:=fun i hi=>by
  rw[de i i hi]
  exact(z6z Ag (k:=i) (by rw[gl];exact hi)).2.2.2
 have b:=q.prod_bound dl low pos fun x hx=>by
  obtain⟨j,hj,rfl⟩:=List.mem_map.mp hx
  have hj:=List.mem_range.mp hj
  exact s _ (z1f (by rw[z0X];exact(z6z Ag (k:=j) (by rw[gl];exact hj)).2.2.1))
 have b2:=zd (f:=fun i=>(ent D i i).toNat) (e:=e) (r:=r) fun i hi=>by
  have h:ent D i i<2 ^ e:=by rw[de i i hi];exact hb _ (z1f (by rw[gl];exact hi))
  have p2:(0:Int)<2 ^ e:=Int.pow_pos (by decide)
  have:((2 ^ e:Nat):Int)=(2:Int) ^ e:=by norm_cast
  omega
 rw[zig fun i hi=>q.pos hi]
 have:((2 ^ (e*r):Nat):Int)=(2:Int) ^ (e*r):=by norm_cast
 omega
theorem Sq.entry(q:Sq r A){w:Int}(h:z2d r w A)(hw:0<w)(i j:Nat):0≤ent A i j∧ent A i j≤w:=by
 by_cases hj:j<r
 · have d:=Int.le_of_dvd hw (q.whole h hj)
   rcases Nat.lt_trichotomy i j with x|x|x
   · have:=q.red x hj;omega
   · subst x;have:=q.pos hj;omega
   · rw[q.low x];omega
 · rw[q.far (by omega)];omega
end St

end
section
set_option linter.all false
set_option maxRecDepth 100000
namespace St
open Lat
variable {n:Nat}{G:List Row}{M K0:Meas}
theorem z2P{i:Nat}(h:i<M.length):mp (M++K0) i=mp M i∧mw (M++K0) i=mw M i:=by
 unfold mp mw;simp[List.getD,List.getElem?_append_left h]
theorem z9f{p q i:Nat}{x y:Row×Int}(hpq:p≠q)(hp:p<M.length)(hq:q<M.length):((M.set p x).set q y).getD i ([],0)=if i=q then y else if i=p then x else M.getD i ([],0):=by
 by_cases h1:i=q
 · subst h1;simp[List.getD,hq]
 · rw[if_neg h1]
   by_cases h2:i=p
   · subst h2;simp[List.getD,List.getElem?_set,hp,Ne.symm h1,if_neg (Ne.symm h1)]
   · rw[if_neg h2];simp[List.getD,List.getElem?_set,Ne.symm h1,Ne.symm h2]
theorem z3A{i:Nat}:(M++K0).getD i ([],0)=if i<M.length then M.getD i ([],0) else K0.getD (i-M.length) ([],0):=by
 by_cases h:i<M.length
 · rw[if_pos h];simp[List.getD,List.getElem?_append_left h]
 · rw[if_neg h];simp[List.getD,List.getElem?_append_right (Nat.le_of_not_lt h)]
structure Bz(g f1 f2 a b a' b':Int):Prop where
 gp:0<g
 ea:a=g*a'
 eb:b=g*b'
 one:f1*a'+f2*b'=1
theorem Bz.of{g f1 f2 a b:Int}(gp:0<g)(ga:g∣a)(gb:g∣b)(h:f1*a+f2*b=g):Bz g f1 f2 a b (a / g) (b / g):=by
 obtain⟨a',rfl⟩:=ga
 obtain⟨b',rfl⟩:=gb
 rw[Int.mul_ediv_cancel_left _ (by omega),Int.mul_ediv_cancel_left _ (by omega)]
 refine⟨gp,rfl,rfl,?_⟩
 have:g*(f1*a'+f2*b')=g*1:=by grind
 exact Int.eq_of_mul_eq_mul_left (by omega) this
theorem zo7{p q:Nat}{g f1 f2 a' b' lc:Int}{u l:Row}{qu ql:Nat→Int}(m:Ms n G (M++K0))(hlc:lc=a'*mp M q)(hpq:p≠q)(hp:p<M.length)(hq:q<M.length)(z:Bz g f1 f2 (mp M p) (mp M q) a' b')(hu:u.length=n)(hl:l.length=n)
   (eu:∀ k,at0 u k=(at0 (mw M p) k+at0 (mw M q) k)-g*qu k) (el:∀ k,at0 l k=((-(f2*b'))*at0 (mw M p) k+(f1*a')*at0 (mw M q) k)-lc*ql k) :
   Ms n G ((M.set p (u,g)).set q (l,lc)++K0):=by
 have len:((M.set p (u,g)).set q (l,lc)).length=M.length:=by simp
 have get:∀ i,((M.set p (u,g)).set q (l,lc)++K0).getD i ([],0)=if i=q then(l,lc) else if i=p then(u,g) else(M++K0).getD i ([],0):=fun i=>by
   rw[z3A,len,z9f hpq hp hq]
   by_cases h1:i=q
   · subst h1;rw[if_pos hq,if_pos rfl,if_pos rfl]
   · by_cases h2:i=p
     · subst h2;rw[if_pos hp,if_neg h1,if_neg h1,if_pos rfl,if_pos rfl]
     · rw[if_neg h1,if_neg h2,if_neg h1,if_neg h2,z3A]
 obtain⟨x1,x2⟩:=z2P (K0:=K0) hp
 obtain⟨y1,y2⟩:=z2P (K0:=K0) hq
 have dl:∀(x y:Row) (c d:Int) (w:Row) (s:Int) (t:Nat→Int) (v:Vec),(∀ k,at0 w k=(c*at0 x k+d*at0 y k)-s*t k)→s∣dt n w v-(c*dt n x v+d*dt n y v):=fun x y c d w s t v h=>by
   refine⟨- sm n (fun k=>t k*v k),?_⟩
   unfold dt
   rw[←z2s,←z2s,←z7l,←z9d,z0r (g:=fun k=>(-s)*(t k*v k)) fun k _=>by rw[h k];grind,z2s];grind
 have hg:=z.gp
 refine m.link (p:=p) (q:=q) (g:=g) (f1:=f1) (f2:=f2) (a:=a') (b:=b') (by rw[List.length_append];omega) (by rw[List.length_append];omega) hpq (by rw[x1];exact z.ea) (by rw[y1];exact z.eb) (by omega) z.one ?_ ?_ ?_ ?_ ?_ ?_ ?_
 · intro x hx
   rcases List.mem_append.mp hx with hx|hx
   · rcases List.mem_or_eq_of_mem_set hx with hx|rfl
     · rcases List.mem_or_eq_of_mem_set hx with hx|rfl
       · exact m.rows x (List.mem_append.mpr (.inl hx))
       · exact hu
     · exact hl
   · exact m.rows x (List.mem_append.mpr (.inr hx))
 · rw[List.length_append,List.length_append,len]
 · intro i h1 h2
   unfold mp mw
   rw[get,if_neg h2,if_neg h1]
   exact⟨rfl,rfl⟩
 · unfold mp;rw[get,if_neg hpq,if_pos rfl]
 · have e:=z.eb;unfold mp;rw[get,if_pos rfl];show lc=_;rw[hlc,e]
 · intro v
   rw[x2,y2]
   have h:=dl (mw M p) (mw M q) 1 1 u g qu v fun k=>by rw[eu k];omega
   rw[show mw ((M.set p (u,g)).set q (l,lc)++K0) p=u by unfold mw;rw[get,if_neg hpq,if_pos rfl]]
   simpa using h
 · intro v
   have e:=z.eb
   rw[x2,y2,←e,←hlc]
   have h:=dl (mw M p) (mw M q) (-(f2*b')) (f1*a') l lc ql v el
   rw[show mw ((M.set p (u,g)).set q (l,lc)++K0) q=l by unfold mw;rw[get,if_pos rfl]]
   exact h
structure Chn(w:Int)(t s:Nat)(M:Meas):Prop where
 pos:∀ i,i<M.length→0<mp M i
 whole:∀ i,i<M.length→mp M i∣w
 all:∀ i j,i<t→i<j→j<M.length→mp M i∣mp M j
 here:∀ j,t<j→j<s→j<M.length→mp M t∣mp M j
theorem Chn.link{w g f1 f2 a' b' lc:Int}{t s:Nat}{u l:Row}(c:Chn w t s M)(hts:t<s)(hs:s<M.length)(z:Bz g f1 f2 (mp M t) (mp M s) a' b')(hlc:lc=a'*mp M s):Chn w t (s+1) ((M.set t (u,g)).set s (l,lc)):=by
 have len:((M.set t (u,g)).set s (l,lc)).length=M.length:=by simp
 have get:∀ i,mp ((M.set t (u,g)).set s (l,lc)) i=if i=s then lc else if i=t then g else mp M i:=fun i=>by
   unfold mp;rw[z9f (by omega) (by omega) hs];split
   · rfl
   · split<;>rfl
 have hg:=z.gp
 have pt:=c.pos t (by omega)
 have ps:=c.pos s hs
 have ap:0<a':=by
   have e:=z.ea
   rcases Int.lt_trichotomy a' 0 with h|h|h
   · have:=Int.mul_neg_of_pos_of_neg hg h;omega
   · rw[h]at e;omega
   · exact h
 refine⟨fun i hi=>?_,fun i hi=>?_,fun i j h1 h2 h3=>?_,fun j h1 h2 h3=>?_⟩
 · rw[len]at hi
   rw[get];split
   · rw[hlc];exact Int.mul_pos ap ps
   · split
     · exact hg
     · exact c.pos i hi
 · rw[len]at hi
   rw[get];split
   · have e:=z.eb
     rw[hlc,e]
     exact zo5 (by omega) z.one (by rw[←z.ea];exact c.whole t (by omega)) (by rw[←e];exact c.whole s hs)
   · split
     · exact Int.dvd_trans ⟨a',z.ea⟩ (c.whole t (by omega))
     · exact c.whole i hi
 · rw[len]at h3
   rw[get i,if_neg (by omega),if_neg (by omega),get j]
   split
   · rw[hlc];exact Int.dvd_trans (c.all i s h1 (by omega) hs) ⟨a',Int.mul_comm _ _⟩
   · split
     · have d1:=c.all i t h1 (by omega) (by omega)
       have d2:=c.all i s h1 (by omega) hs
       have e:g=f1*mp M t+f2*mp M s:=by
        rw[z.ea,z.eb]
        have:=z.one
        grind
       rw[e]
       exact Int.dvd_add (Int.dvd_trans d1 ⟨f1,Int.mul_comm _ _⟩) (Int.dvd_trans d2 ⟨f2,Int.mul_comm _ _⟩)
     · exact c.all i j h1 h2 h3
 · rw[len]at h3
   rw[get t,if_neg (by omega),if_pos rfl,get j]
   split
   · rw[hlc,z.eb];exact⟨a'*b',by grind⟩
   · rw[if_neg (by omega)]
     exact Int.dvd_trans ⟨a',z.ea⟩ (c.here j h1 (by omega) h3)
theorem Chn.next{w:Int}{t s:Nat}(c:Chn w t s M)(h:M.length≤s):Chn w (t+1) (t+2) M :=
 ⟨c.pos,c.whole,fun i j h1 h2 h3=>by
  by_cases e:i<t
  · exact c.all i j e h2 h3
  · have:i=t:=by omega
    subst this
    exact c.here j h2 (by omega) h3,fun j h1 h2=>by omega⟩
theorem Chn.first{w:Int}(hp:∀ i,i<M.length→0<mp M i)(hw:∀ i,i<M.length→mp M i∣w):Chn w 0 1 M:=⟨hp,hw,fun i j h=>by omega,fun j h1 h2=>by omega⟩
end St

end
section
set_option linter.all false
set_option maxRecDepth 100000
namespace St
open Lat
theorem Sq.whole_col{r:Nat}{A:List Row}{w:Int}(q:Sq r A)(h:z2d r w (trn r A)){i:Nat}(hi:i<r):ent A i i∣w:=by
 obtain⟨c,hc⟩:=z1g.mp (h i hi)
 rw[z0X]at hc
 have B:=q.below h
 have z:=z6D (m:=r) (a:=i+1) (c:=c) (D:=fun l j=>ent (trn r A) l j) B.pos B.low fun j h1 h2=>by rw[←hc j];simp only[pt];rw[if_neg (by omega)]
 have e:=hc i
 rw[z2b hi fun k hk hn=>?_]at e
 · rw[z1u q.rows]at e
   simp only[pt,if_true]at e
   exact⟨c i,by rw[e];exact Int.mul_comm _ _⟩
 · rcases Nat.lt_or_gt_of_ne hn with x|x
   · rw[B.low k i x hi];simp
   · rw[z (r-k) k (by omega) (by omega) hk];simp
theorem Sq.entryC{r:Nat}{A:List Row}(q:Sq r A){w:Int}(h:z2d r w (trn r A))(hw:0<w)(i j:Nat):0≤ent A i j∧ent A i j≤w:=by
 by_cases hj:j<r
 · have d:=Int.le_of_dvd hw (q.whole_col h hj)
   rcases Nat.lt_trichotomy i j with x|x|x
   · have:=q.red x hj;omega
   · subst x;have:=q.pos hj;omega
   · rw[q.low x];omega
 · rw[q.far (by omega)];omega
theorem Good.sq{r N B:Nat}{w:Int}{P S:List Row}(G:Good N B P S)(b:Below r N w P):S.length=r∧∀ x∈S,z02 x<r:=by
 refine⟨by rw[G.full b.ind,b.len],fun x hx=>(b.full G.asc G.span x hx).1⟩
end St

end
section
local macro_rules|`(tactic| omega)=>`(tactic| first|lia|omega +splitDisjunctions)
set_option linter.all false
set_option maxRecDepth 100000
namespace L2
open PySem
theorem z3B{a b:List Int}(h:a.length=b.length)(k:Nat):St.at0 (addR a b) k=St.at0 a k+St.at0 b k:=by
 have e:addR a b=St.lin 1 a 1 b:=by unfold addR St.lin;congr 1;funext x y;omega
 rw[e,St.z8r h];omega
theorem zkJ{a b:List Int}(h:a.length=b.length)(k:Nat):St.at0 (subR a b) k=St.at0 a k-St.at0 b k:=by
 have e:subR a b=St.sub a 1 b:=by unfold subR St.sub;congr 1;funext x y;omega
 rw[e,St.z3y h];omega
theorem z5C(q:Int)(a:List Int)(k:Nat):St.at0 (sclR q a) k=q*St.at0 a k:=by
 simp only[St.at0,sclR,List.getD,List.getElem?_map]
 cases a[k]?<;>simp
theorem zd1(n:Nat):z29 n=St.zia n:=by unfold z29 St.zia;simp
theorem z7n(n k:Nat):St.at0 (z29 n) k=0:=by rw[zd1];exact St.zjh n k
theorem zd2{n:Nat}:∀(rows:List (List Int)) (cs:List Int) (t:List Int),t.length=n→(∀ r∈rows,r.length=n)→∀ k,St.at0 ((rows.zip cs).foldl (fun t p=>addR t (sclR p.2 p.1)) t) k=St.at0 t k+St.mix rows cs k
 | [],cs,t,_,_,k=>by simp[St.mix]
 | r::rows,[],t,_,_,k=>by simp[St.mix]
 | r::rows,c::cs,t,ht,hw,k=>by
  have hr:=hw r List.mem_cons_self
  rw[List.zip_cons_cons,List.foldl_cons,zd2 rows cs _ (by rw[z1R (by rw[z0z,ht,hr])];exact ht) (fun x hx=>hw x (List.mem_cons_of_mem _ hx)),z3B (by rw[z0z,ht,hr]),z5C]
  show St.at0 t k+c*St.at0 r k+St.mix rows cs k=St.at0 t k+(c*St.at0 r k+St.mix rows cs k)
  omega
theorem zd3{n:Nat}{rows:List (List Int)}{cs:List Int}(hw:∀ r∈rows,r.length=n)(k:Nat):St.at0 (mixR n rows cs) k=St.mix rows cs k:=by
 unfold mixR
 rw[zd2 rows cs (z29 n) z1M hw,z7n];omega
theorem zero_add{n:Nat}{v:List Int}(hv:v.length=n):addR (z29 n) v=v:=St.ext0 (by rw[z1R (by rw[z1M,hv]),z1M,hv]) fun k=>by rw[z3B (by rw[z1M,hv]),z7n];omega
theorem zo8(v:List Int):sclR 1 v=v:=by unfold sclR;simp
theorem zd4{r:List Int}{x:Int}(h:x∈r):∃ k,St.at0 r k=x:=by
 obtain⟨k,hk,e⟩:=List.mem_iff_getElem.mp h
 exact⟨k,by simp[St.at0,List.getD,List.getElem?_eq_getElem hk,e]⟩
theorem lt_mem{r:List Int}{B:Nat}(h:St.Lt B r):∀ x∈r,x.natAbs<B:=fun x hx=>by
 obtain⟨k,rfl⟩:=zd4 hx
 exact h k
end L2
namespace L2
open PySem
theorem zih{n i:Nat}(h:i<n):ixN n (i:Int)=some i:=by
 unfold ixN
 rw[if_pos (by omega),if_pos (by omega)];simp
theorem z33{i j:Int}(h:0<j):z3a i j=true:=by unfold z3a;rw[decide_eq_true (show j≠0 by omega)]
end L2
namespace L2
open PySem
theorem z7o{α γ:Type}{g:Tg}{F:FS}(e:α→Dt)(bad:α→Prop)(R:γ→Rho)(f:Fl)(d:Dt):∀(xs:List α) (j:γ),(∀ x∈xs,∀ j,bad x→(g.put (e x) (R j)).bind F=some (.rt f d))→(∀ x∈xs,∀ j,¬bad x→∃ j',(g.put (e x) (R j)).bind F=some (.nx (R j'))) →
  ((∃ x∈xs,bad x)→forF g F (xs.map e) (R j)=some (.rt f d))∧((∀ x∈xs,¬bad x)→∃ j',forF g F (xs.map e) (R j)=some (.nx (R j')))
 | [],j,_,_=>⟨fun⟨x,hx,_⟩=>(nomatch hx),fun _=>⟨j,rfl⟩⟩
 | x::xs,j,h1,h2=>by
  by_cases hb:bad x
  · have e1:=h1 x List.mem_cons_self j hb
    refine⟨fun _=>?_,fun h=>absurd hb (h x List.mem_cons_self)⟩
    rw[List.map_cons,z1a,e1];rfl
  · obtain⟨j1,e1⟩:=h2 x List.mem_cons_self j hb
    obtain⟨i1,i2⟩:=z7o e bad R f d xs j1 (fun y hy=>h1 y (List.mem_cons_of_mem _ hy)) (fun y hy=>h2 y (List.mem_cons_of_mem _ hy))
    rw[List.map_cons,z1a,e1]
    refine⟨fun⟨y,hy,by_⟩=>?_,fun h=>i2 fun y hy=>h y (List.mem_cons_of_mem _ hy)⟩
    rcases List.mem_cons.mp hy with rfl|hy
    · exact absurd by_ hb
    · exact i1 ⟨y,hy,by_⟩
theorem us0{P:List Value→Prop}(h:P []):∀ us:List Value,us.length=0→P us:=fun us hl=>(List.length_eq_zero_iff.mp hl).symm ▸ h
theorem usS{P:List Value→Prop}{n:Nat}(h:∀ a us,us.length=n→P (a::us)):∀ us:List Value,us.length=n+1→P us:=fun us hl=>by
 cases us with
 | nil=>cases hl
 | cons a us=>exact h a us (Nat.succ.inj hl)
theorem us1{P:List Value→Prop}(h:∀ a,P [a]):∀ us:List Value,us.length=1→P us:=usS fun a=>us0 (h a)
theorem us2{P:List Value→Prop}(h:∀ a b,P [a,b]):∀ us:List Value,us.length=2→P us:=usS fun a=>(usS fun b=>us0 (h a b))
theorem us3{P:List Value→Prop}(h:∀ a b c,P [a,b,c]):∀ us:List Value,us.length=3→P us:=usS fun a=>(usS fun b=>(usS fun c=>us0 (h a b c)))
theorem us4{P:List Value→Prop}(h:∀ a b c d,P [a,b,c,d]):∀ us:List Value,us.length=4→P us:=usS fun a=>(usS fun b=>(usS fun c=>(usS fun d=>us0 (h a b c d))))
end L2

end
section
set_option Elab.async false
set_option linter.all false
set_option maxRecDepth 100000
set_option maxHeartbeats 1000000
namespace K14
open PySem L2
noncomputable section
def z68:FS:=(sRet (vAnd (fIsi "int" (fN 0)) (vNot (fIsi "bool" (fN 0)))))
def z2t:FC:=cOf 1 1 true z68
def z9g:FS:=(sSeq (sIf (fOr (fNot (fTru (fIsi "list" (fN 0)))) (z0o (fOp opNe (fBlt bLen (z01 (fN 0) fNil)) (fN 1)))) (sRet (fC (.bl false))) z0y)
 (sRet (fBlt bAll (z01 (z0e 1 [] (iSeq (fN 0)) (Tg.one 0) fYes (z06 true z2t (z01 (fN 0) fNil))) fNil))))
def z4Z:FC:=cOf 2 2 true z9g
def z69:FS:=(sRet (z0e 1 [1] (z0m (fN 0)) (Tg.one 0) fYes (fIf (z0o (fOp opEq (fN 0) (fN 1))) (fC (.int 1)) (fC (.int 0)))))
def z3k:FC:=cOf 2 2 true z69
def zbR:FS:=(sRet (z0e 2 [] (iZip (fN 0) (fN 1)) (Tg.many [0,1]) fYes (fOp z0x (fN 0) (fN 1))))
def z5D:FC:=cOf 2 2 true zbR
def zbS:FS:=(sRet (z0e 2 [] (iZip (fN 0) (fN 1)) (Tg.many [0,1]) fYes (fOp z7S (fN 0) (fN 1))))
def z4s:FC:=cOf 2 2 true zbS
def z9h:FS:=(sRet (z0e 1 [1] (iSeq (fN 0)) (Tg.one 0) fYes (fOp z12 (fN 1) (fN 0))))
def z1B:FC:=cOf 2 2 true z9h
def z7p:FS:=(sRet (fBlt bSum (z01 (z0e 2 [] (iZip (fN 0) (fN 1)) (Tg.many [0,1]) fYes (fOp z12 (fN 0) (fN 1))) fNil)))
def z5E:FC:=cOf 2 2 true z7p
def z7q:FS:=(sSeq (sFor [] (z3f (fN 0)) (Tg.many [1,2])
 (sIf (z0o (fOp opNe (fN 2) (fC (.int 0)))) (sRet (fN 1)) z0y))
 (sRet (fBlt bLen (z01 (fN 0) fNil))))
def z0h:FC:=cOf 1 3 true z7q
def z50:FS:=(sRet (vAnd (z06 true z2t (z01 (fN 0) fNil)) (z8M opLe opLe (fC (.int 1)) (fN 0) (fC (.int 6)))))
def z3C:FC:=cOf 1 1 true z50
def z7r:FS:=(sRet (vAnd (z06 true z4Z (z01 (fN 0) (z01 (fN 1) fNil))) (fBlt bAll (z01 (z0e 1 [] (iSeq (fN 0)) (Tg.one 0) fYes (fOp opLt (fBlt bAbs (z01 (fN 0) fNil)) (fOp zap (fC (.int 10)) (fC (.int 30))))) fNil))))
def z5F:FC:=cOf 2 2 true z7r
def z4t:FS:=(sIf (fNot (fTru (z06 true z3C (z01 (fN 0) fNil)))) z8S z0y)
def z2Z:FC:=cOf 1 1 true z4t
def z51:FS:=(sIf (fNot (fTru (z06 true z5F (z01 (fN 0) (z01 (fN 1) fNil))))) z8S z0y)
def z20:FC:=cOf 2 2 true z51
def z7s:FS:=(sRet (fTup (z01 (fN 0) (z01 (fBlt bTup (z01 (z0e 1 [] (iSeq (fN 1)) (Tg.one 0) fYes (fBlt bTup (z01 (fN 0) fNil))) fNil)) fNil))))
def z5G:FC:=cOf 2 2 true z7s
def z7t:FS:=(sSeq (z6q (z06 true z2Z (z01 (fN 0) fNil)))
 (sSeq (sIf (fOr (fNot (fTru (fIsi "list" (fN 1)))) (z0o (fOp opGt (fBlt bLen (z01 (fN 1) fNil)) (fC (.int 8))))) z8S z0y)
 (sSeq (sFor [] (iSeq (fN 1)) (Tg.one 2)
 (z6q (z06 true z20 (z01 (fN 2) (z01 (fN 0) fNil)))))
 (sRet (z06 true z5G (z01 (fN 0) (z01 (fN 1) fNil)))))))
def z3Y:FC:=cOf 2 3 true z7t
def z2u:FS:=(sIf (fNot (fTru (z06 true z4Z (z01 (fN 1) (z01 (fN 0) fNil))))) z8S z0y)
def z1o:FC:=cOf 2 2 true z2u
def z9i:FS:=(sSeq (sSet [] 2 (fLst (z01 (fN 0) (z01 (fC (.int 1)) (z01 (fC (.int 0)) fNil)))))
 (sSeq (sSet [] 3 (fLst (z01 (fN 1) (z01 (fC (.int 0)) (z01 (fC (.int 1)) fNil)))))
 (sSeq (z3J (z0o (fOp opNe (fAt (fN 3) (fC (.int 0))) (fC (.int 0)))) (sSeq (sSet [] 4 (fOp z3O (fAt (fN 2) (fC (.int 0))) (fAt (fN 3) (fC (.int 0)))))
 (sSeq (sSet [] 5 (z0e 1 [2,4,3] (z0m (fC (.int 3))) (Tg.one 0) fYes (fOp z7S (fAt (fN 1) (fN 0)) (fOp z12 (fN 2) (fAt (fN 3) (fN 0))))))
 (sSeq (sSet [] 2 (fN 3))
 (sSet [] 3 (fN 5))))))
 (sSeq (sIf (z0o (fOp opLt (fAt (fN 2) (fC (.int 0))) (fC (.int 0)))) (sSet [] 2 (z0e 1 [] (iSeq (fN 2)) (Tg.one 0) fYes (fNeg (fN 0)))) z0y)
 (sRet (fBlt bTup (z01 (fN 2) fNil)))))))
def z52:FC:=cOf 2 6 true z9i
def zbT:FS:=(sSeq (sIf (z0o (fOp opEq (fN 1) (fC (.int 0)))) (sRet (fN 0)) z0y)
 (sRet (fOp z1y (fN 0) (fN 1))))
def z53:FC:=cOf 2 2 true zbT
def z7u:FS:=(sSeq (sSet [] 1 (fC (.int 1)))
 (sSeq (sFor [] (iSeq (fN 0)) (Tg.one 2)
 (sSet [] 1 (fOp z12 (fN 1) (fN 2))))
 (sRet (fN 1))))
def z5H:FC:=cOf 1 3 true z7u
def z6a:FS:=(sSeq (sSet [] 2 (fBlt bLst (z01 (fN 0) fNil)))
 (sSeq (sOwn 3 (fLst fNil))
 (sSeq (sFor [] (iSeq (fN 1)) (Tg.one 4)
 (sSeq (sSet [] 5 (z06 true z0h (z01 (fN 4) fNil)))
 (sSeq (sSet [] 6 (fOp z3O (fAt (fN 2) (fN 5)) (fAt (fN 4) (fN 5))))
 (sSeq (sIf (z0o (fOp opNe (fN 6) (fC (.int 0)))) (sSet [] 2 (z06 true z4s (z01 (fN 2) (z01 (z06 true z1B (z01 (fN 4) (z01 (fN 6) fNil))) fNil)))) z0y)
 (sWr wApp 3 (fN 6))))))
 (sRet (fTup (z01 (fN 3) (z01 (fN 2) fNil)))))))
def z4u:FC:=cOf 2 7 true z6a
def z7v:FS:=(sRet (fAt (z06 true z4u (z01 (fN 0) (z01 (fN 1) fNil))) (fC (.int 1))))
def z13:FC:=cOf 2 2 true z7v
def z7w:FS:=(sSeq (sSet [] 2 (z06 true z0h (z01 (fN 0) fNil)))
 (sSeq (sSet [] 3 (z06 true z52 (z01 (fAt (fN 0) (fN 2)) (z01 (fAt (fN 1) (fN 2)) fNil))))
 (sSeq (sSet [] 4 (z06 true z5D (z01 (z06 true z1B (z01 (fN 0) (z01 (fAt (fN 3) (fC (.int 1))) fNil))) (z01 (z06 true z1B (z01 (fN 1) (z01 (fAt (fN 3) (fC (.int 2))) fNil))) fNil))))
 (sSeq (sSet [] 5 (z06 true z4s (z01 (z06 true z1B (z01 (fN 1) (z01 (fOp z3O (fAt (fN 0) (fN 2)) (fAt (fN 3) (fC (.int 0)))) fNil))) (z01 (z06 true z1B (z01 (fN 0) (z01 (fOp z3O (fAt (fN 1) (fN 2)) (fAt (fN 3) (fC (.int 0)))) fNil))) fNil))))
 (sRet (fTup (z01 (fN 4) (z01 (fN 5) fNil))))))))
def z34:FC:=cOf 2 6 true z7w
def z54:FS:=(sRet (fIf (z0o (fOp opLt (fAt (fN 0) (z06 true z0h (z01 (fN 0) fNil))) (fC (.int 0)))) (z06 true z1B (z01 (fN 0) (z01 (fNeg (fC (.int 1))) fNil))) (fBlt bLst (z01 (fN 0) fNil))))
def z1h:FC:=cOf 1 1 true z54
def z3l:FS:=(sSeq (sOwn 2 (fBlt bLst (z01 (fN 0) fNil)))
 (sSeq (z2E 3 (z06 true z13 (z01 (fN 1) (z01 (fN 2) fNil))))
 (sSeq (z3J (z0o (fOp opLt (z06 true z0h (z01 (fN 3) fNil)) (fBlt bLen (z01 (fN 3) fNil)))) (sSeq (z2E 4 (z0e 2 [3] (z3f (fN 2)) (Tg.many [0,1]) (z0o (fOp opEq (z06 true z0h (z01 (fN 1) fNil)) (z06 true z0h (z01 (fN 2) fNil)))) (fN 0)))
 (sSeq (sIf (z0o (fOp opEq (fBlt bLen (z01 (fN 4) fNil)) (fC (.int 0)))) (sRet (z63 z0h (fOp z0x (fN 2) (fLst (z01 (z06 true z1h (z01 (fN 3) fNil)) fNil))))) z0y)
 (sSeq (z2E 5 (z06 true z34 (z01 (fAt (fN 2) (fAt (fN 4) (fC (.int 0)))) (z01 (fN 3) fNil))))
 (sSeq (sPut 2 (fAt (fN 4) (fC (.int 0))) (fAt (fN 5) (fC (.int 0))))
 (z2E 3 (z06 true z13 (z01 (fAt (fN 5) (fC (.int 1))) (z01 (fN 2) fNil)))))))))
 (sRet (fN 2)))))
def z2v:FC:=cOf 2 6 false z3l
def z9j:FS:=(sSeq (sOwn 1 (fLst fNil))
 (sSeq (sFor [] (iRev (fN 0)) (Tg.one 2)
 (sWrA z8V 1 (z06 true z13 (z01 (fN 2) (z01 (fN 1) fNil)))))
 (sRet (fN 1))))
def z55:FC:=cOf 1 3 true z9j
def z7x:FS:=(sSeq (sSet [] 1 (fLst fNil))
 (sSeq (sFor [] (iSeq (fN 0)) (Tg.one 2)
 (sSet [] 1 (z06 true z55 (z01 (z06 false z2v (z01 (fN 1) (z01 (fN 2) fNil))) fNil))))
 (sRet (fN 1))))
def z21:FC:=cOf 1 3 true z7x
def z3m:FS:=(sRet (z06 true z21 (z01 (z0e 2 [] (iZip (fN 0) (fN 1)) (Tg.many [0,1]) fYes (fOp z0x (fBlt bLst (z01 (fN 0) fNil)) (fBlt bLst (z01 (fN 1) fNil)))) fNil)))
def z1p:FC:=cOf 2 2 true z3m
def z2w:FS:=(sRet (z0e 1 [1] (iSeq (fN 0)) (Tg.one 0) (z0o (fOp opGe (z06 true z0h (z01 (fN 0) fNil)) (fN 1))) (fSl (fN 0) (z1s (fN 1)) z0A)))
def z0V:FC:=cOf 2 2 true z2w
def zbU:FS:=(sRet (z06 true z21 (z01 (fAt (fN 0) (fC (.int 1))) fNil)))
def z5I:FC:=cOf 1 1 true zbU
def z9k:FS:=(sRet (z0e 1 [0] (z0m (fN 1)) (Tg.one 0) fYes (z0e 1 [0] (iSeq (fN 1)) (Tg.one 0) fYes (fAt (fN 0) (fN 1)))))
def z2K:FC:=cOf 2 2 true z9k
def z4v:FS:=(sSeq (sFor [] (z3f (fN 0)) (Tg.many [1,2])
 (sIf (fOr (z0o (fOp opNe (z06 true z0h (z01 (fN 2) fNil)) (fN 1))) (fTru (fBlt bAny (z01 (z0e 1 [] (iSeq (fSl (fN 2) (z1s (fOp z0x (fN 1) (fC (.int 1)))) z0A)) (Tg.one 0) fYes (fOp opNe (fN 0) (fC (.int 0)))) fNil)))) (sRet (fC (.bl false))) z0y))
 (sRet (fC (.bl true))))
def z1W:FC:=cOf 1 3 true z4v
def zbV:FS:=(sRet (z0e 1 [1] (iSeq (fN 0)) (Tg.one 0) fYes (z06 true z53 (z01 (fN 0) (z01 (fN 1) fNil)))))
def z2D:FC:=cOf 2 2 true zbV
def z3Z:FS:=(sSeq (sSet [] 3 (fBlt bLen (z01 (fN 0) fNil)))
 (sSeq (sSet [] 4 (fN 0))
 (sSeq (sSet [] 5 (fN 1))
 (sSeq (z3J (fNot (fTru (z06 true z1W (z01 (fN 4) fNil)))) (sSeq (sSet [] 6 (z06 true z2K (z01 (z06 true z21 (z01 (z06 true z2K (z01 (fN 4) (z01 (fN 3) fNil))) fNil)) (z01 (fN 3) fNil))))
 (sSeq (sSet [] 7 (z06 true z1p (z01 (fN 6) (z01 (fN 5) fNil))))
 (sSeq (sSet [] 4 (z0e 1 [3] (iSeq (fN 7)) (Tg.one 0) fYes (fSl (fN 0) z0A (z1s (fN 1)))))
 (sSet [] 5 (z0e 1 [3,2] (iSeq (fN 7)) (Tg.one 0) fYes (z06 true z2D (z01 (fSl (fN 0) (z1s (fN 1)) z0A) (z01 (fN 2) fNil)))))))))
 (sRet (z0e 2 [4] (z3f (fN 5)) (Tg.many [0,1]) fYes (fTup (z01 (fN 1) (z01 (fAt (fAt (fN 2) (fN 0)) (fN 0)) fNil)))))))))
def z5J:FC:=cOf 3 8 false z3Z
def z56:FS:=(sSeq (sSet [] 2 (z06 true z52 (z01 (fAt (fN 0) (fC (.int 1))) (z01 (fAt (fN 1) (fC (.int 1))) fNil))))
 (sSeq (sSet [] 3 (fAt (fN 2) (fC (.int 0))))
 (sSeq (sSet [] 4 (fOp z12 (fOp z3O (fAt (fN 0) (fC (.int 1))) (fN 3)) (fAt (fN 1) (fC (.int 1)))))
 (sSeq (sSet [] 5 (z06 true z5D (z01 (fAt (fN 0) (fC (.int 0))) (z01 (fAt (fN 1) (fC (.int 0))) fNil))))
 (sSeq (sSet [] 6 (z06 true z5D (z01 (z06 true z1B (z01 (fAt (fN 0) (fC (.int 0))) (z01 (fOp z12 (fNeg (fAt (fN 2) (fC (.int 2)))) (fOp z3O (fAt (fN 1) (fC (.int 1))) (fN 3))) fNil))) (z01 (z06 true z1B (z01 (fAt (fN 1) (fC (.int 0))) (z01 (fOp z12 (fAt (fN 2) (fC (.int 1))) (fOp z3O (fAt (fN 0) (fC (.int 1))) (fN 3))) fNil))) fNil))))
 (sRet (fTup (z01 (fTup (z01 (z06 true z2D (z01 (fN 5) (z01 (fN 3) fNil))) (z01 (fN 3) fNil))) (z01 (fTup (z01 (z06 true z2D (z01 (fN 6) (z01 (fN 4) fNil))) (z01 (fN 4) fNil))) fNil)))))))))
def z3n:FC:=cOf 2 7 true z56
def z40:FS:=(sSeq (sOwn 1 (fBlt bLst (z01 (fN 0) fNil)))
 (sSeq (z7X (z0m (fBlt bLen (z01 (fN 1) fNil))) (Tg.one 2)
 (z7X (z8o (fOp z0x (fN 2) (fC (.int 1))) (fBlt bLen (z01 (fN 1) fNil))) (Tg.one 3)
 (sSeq (z2E 4 (z06 true z3n (z01 (fAt (fN 1) (fN 2)) (z01 (fAt (fN 1) (fN 3)) fNil))))
 (sSeq (sPut 1 (fN 2) (fAt (fN 4) (fC (.int 0))))
 (sPut 1 (fN 3) (fAt (fN 4) (fC (.int 1))))))))
 (sRet (z0e 2 [] (iSeq (fN 1)) (Tg.many [0,1]) fYes (fTup (z01 (z06 true z2D (z01 (fN 0) (z01 (fN 1) fNil))) (z01 (fN 1) fNil)))))))
def z35:FC:=cOf 1 5 true z40
def z3o:FS:=(sSeq (sSet [] 1 (fAt (fN 0) (fC (.int 0))))
 (sSeq (sSet [] 2 (z06 true z5I (z01 (fN 0) fNil)))
 (sSeq (sSet [] 3 (fBlt bLen (z01 (fN 2) fNil)))
 (sSeq (sSet [] 4 (z06 true z1p (z01 (z06 true z2K (z01 (fN 2) (z01 (fN 1) fNil))) (z01 (z0e 1 [1] (z0m (fN 1)) (Tg.one 0) fYes (z06 true z3k (z01 (fN 1) (z01 (fN 0) fNil)))) fNil))))
 (sSeq (sSet [] 5 (z0e 1 [3] (iSeq (fSl (fN 4) z0A (z1s (fN 3)))) (Tg.one 0) fYes (fSl (fN 0) z0A (z1s (fN 1)))))
 (sSeq (sSet [] 6 (z06 true z5H (z01 (z0e 2 [] (z3f (fN 5)) (Tg.many [0,1]) fYes (fAt (fN 1) (fN 0))) fNil)))
 (sSeq (sSet [] 7 (z06 false z5J (z01 (fN 5) (z01 (z0e 1 [3] (iSeq (fSl (fN 4) z0A (z1s (fN 3)))) (Tg.one 0) fYes (fSl (fN 0) (z1s (fN 1)) z0A)) (z01 (fN 6) fNil)))))
 (sRet (fOp z0x (z06 true z35 (z01 (fN 7) fNil)) (z0e 1 [] (iSeq (z06 true z0V (z01 (fN 4) (z01 (fN 3) fNil)))) (Tg.one 0) fYes (fTup (z01 (fN 0) (z01 (fC (.int 0)) fNil)))))))))))))
def z1X:FC:=cOf 1 8 false z3o
def z57:FS:=(sRet (z0e 2 [] (iSeq (z06 false z1X (z01 (fN 0) fNil))) (Tg.many [0,1]) (z0o (fOp opNe (fN 1) (fC (.int 1)))) (fTup (z01 (fN 0) (z01 (fN 1) fNil)))))
def z6E:FC:=cOf 1 1 false z57
def ze9:FS:=(sRet (z06 true z53 (z01 (z06 true z5E (z01 (fN 0) (z01 (fAt (fN 1) (fC (.int 0))) fNil))) (z01 (fAt (fN 1) (fC (.int 1))) fNil))))
def z58:FC:=cOf 2 2 true ze9
def zea:FS:=(sSeq (sSet [] 3 (fBlt bLen (z01 (fAt (fN 2) (fC (.int 0))) fNil)))
 (sSeq (z6q (z06 true z1o (z01 (fN 3) (z01 (fN 0) fNil))))
 (sSeq (z6q (z06 true z1o (z01 (fN 3) (z01 (fN 1) fNil))))
 (sRet (fOp opEq (z06 true z58 (z01 (z06 true z4s (z01 (fN 1) (z01 (fN 0) fNil))) (z01 (fN 2) fNil))) (fC (.int 0)))))))
def z59:FC:=cOf 3 4 true zea
def zeb:FS:=(sRet (fBlt bAll (z01 (z0e 1 [1] (iSeq (fAt (fN 0) (fC (.int 1)))) (Tg.one 0) fYes (fOp opEq (z06 true z58 (z01 (fN 0) (z01 (fN 1) fNil))) (fC (.int 0)))) fNil)))
def z5a:FC:=cOf 2 2 true zeb
def z5b:FS:=(sSeq (sIf (z0o (fOp opLt (fN 1) (fBlt bLen (z01 (fN 0) fNil)))) (sRet (fAt (fN 0) (fN 1))) z0y)
 (sSeq (sIf (z0o (fOp opEq (fN 0) (fLst fNil))) (sRet (fC (.int 0))) z0y)
 (sRet (fOp z0x (fOp z12 (fAt (fN 0) (fOp z1y (fN 1) (fBlt bLen (z01 (fN 0) fNil)))) (fC (.int 31))) (fN 1)))))
def z0s:FC:=cOf 2 2 true z5b
def z5K:FS:=(sRet (vAnd (fIsi "int" (fN 0)) (vNot (fIsi "bool" (fN 0)))))
def z1N:FC:=cOf 1 1 true z5K
def z6b:FS:=(sSeq (sIf (fOr (fNot (fTru (fIsi "list" (fN 0)))) (z0o (fOp opNe (fBlt bLen (z01 (fN 0) fNil)) (fN 1)))) (sRet (fC (.bl false))) z0y)
 (sSeq (sFor [] (iSeq (fN 0)) (Tg.one 2)
 (sIf (fNot (fTru (z06 true z1N (z01 (fN 2) fNil)))) (sRet (fC (.bl false))) z0y))
 (sRet (fC (.bl true)))))
def z4w:FC:=cOf 2 3 true z6b
def z3p:FS:=(sSeq (sIf (z0o (fOp opEq (fN 1) (fC (.int 2)))) (sSeq (sSet [] 2 (fOp z1y (fN 0) (fOp zap (fC (.int 10)) (fC (.int 30)))))
 (sSeq (sIf (z0o (fOp opEq (fOp z1y (fOp z3O (fN 0) (fOp zap (fC (.int 10)) (fC (.int 30)))) (fC (.int 2))) (fC (.int 1)))) (sRet (fNeg (fN 2))) z0y)
 (sRet (fN 2)))) z0y)
 (sSeq (sSet [] 3 (fAt (fLst (z01 (fC (.int 9)) (z01 (fC (.int 61)) fNil))) (fN 1)))
 (sSeq (sSet [] 2 (fOp z1y (fN 0) (fN 3)))
 (sSeq (sIf (z0o (fOp opGt (fN 2) (fOp z3O (fN 3) (fC (.int 2))))) (sRet (fOp z7S (fN 2) (fN 3))) z0y)
 (sRet (fN 2))))))
def z2x:FC:=cOf 2 4 true z3p
def zbW:FS:=(sRet (z0e 1 [0,1,3] (z0m (fN 2)) (Tg.one 0) fYes (z06 true z2x (z01 (z06 true z0s (z01 (fN 1) (z01 (fOp z0x (fN 2) (fN 0)) fNil))) (z01 (fN 3) fNil)))))
def z1T:FC:=cOf 4 4 true zbW
def zaK:FS:=(sSeq (sSet [] 1 (fAt (fLst (z01 (fC (.int 0)) (z01 (fC (.int 0)) (z01 (fC (.int 0)) (z01 (fC (.int 1)) (z01 (fC (.int 2)) fNil)))))) (fOp z1y (z06 true z0s (z01 (fN 0) (z01 (fC (.int 2)) fNil))) (fC (.int 5)))))
 (sSeq (sSet [] 2 (fOp z0x (fC (.int 1)) (fOp z1y (z06 true z0s (z01 (fN 0) (z01 (fC (.int 0)) fNil))) (fC (.int 4)))))
 (sSeq (sSet [] 3 (fOp z1y (z06 true z0s (z01 (fN 0) (z01 (fC (.int 1)) fNil))) (fC (.int 5))))
 (sSeq (sIf (z0o (fOp opEq (fOp z1y (z06 true z0s (z01 (fN 0) (z01 (fC (.int 3)) fNil))) (fC (.int 7))) (fC (.int 6)))) (sSeq (sSet [] 2 (fC (.int 6)))
 (sSeq (sSet [] 3 (fC (.int 8)))
 (sSet [] 1 (fC (.int 0))))) z0y)
 (sSeq (sIf (z0o (fOp opEq (fN 1) (fC (.int 2)))) (sSeq (sSet [] 2 (fOp z0x (fC (.int 1)) (fOp z1y (fN 2) (fC (.int 2)))))
 (sSet [] 3 (fOp z1y (fN 3) (fC (.int 4))))) z0y)
 (sRet (fTup (z01 (fN 2) (z01 (z0e 1 [0,2,1] (z0m (fN 3)) (Tg.one 0) fYes (z06 true z1T (z01 (fN 1) (z01 (fOp z0x (fC (.int 8)) (fOp z12 (fN 2) (fN 0))) (z01 (fN 2) (z01 (fN 3) fNil)))))) fNil)))))))))
def z7y:FC:=cOf 1 4 true zaK
def zbX:FS:=(sSeq (sSet [] 3 (z0e 1 [] (z0m (fN 0)) (Tg.one 0) fYes (fC (.int 0))))
 (sSeq (sFor [] (z0m (fBlt bLen (z01 (fN 1) fNil))) (Tg.one 4)
 (sSet [] 3 (z0e 1 [3,2,4,1] (z0m (fN 0)) (Tg.one 0) fYes (fOp z0x (fAt (fN 1) (fN 0)) (fOp z12 (fAt (fN 2) (fN 3)) (fAt (fAt (fN 4) (fN 3)) (fN 0)))))))
 (sRet (fN 3))))
def z6F:FC:=cOf 3 5 true zbX
def z9l:FS:=(sRet (z0e 1 [0,2,1] (z0m (fBlt bLen (z01 (fN 0) fNil))) (Tg.one 0) fYes (fOp z0x (fAt (fN 1) (fN 0)) (fOp z12 (fN 2) (fAt (fN 3) (fN 0))))))
def z41:FC:=cOf 3 3 true z9l
def z7z:FS:=(sSeq (sSet [] 2 (fC (.int 0)))
 (sSeq (sFor [] (z0m (fBlt bLen (z01 (fN 1) fNil))) (Tg.one 3)
 (sSet [] 2 (fOp z0x (fN 2) (fOp z12 (fAt (fN 0) (fN 3)) (fAt (fN 1) (fN 3))))))
 (sRet (fN 2))))
def z42:FC:=cOf 2 4 true z7z
def z2L:FS:=(sSeq (sSet [] 3 (z06 true z1T (z01 (fN 0) (z01 (fC (.int 40)) (z01 (fN 1) (z01 (fAt (fLst (z01 (fC (.int 0)) (z01 (fC (.int 1)) (z01 (fC (.int 2)) fNil)))) (fOp z1y (z06 true z0s (z01 (fN 0) (z01 (fC (.int 5)) fNil))) (fC (.int 3)))) fNil))))))
 (sSeq (sSet [] 4 (z06 true z1T (z01 (fN 0) (z01 (fC (.int 46)) (z01 (fN 1) (z01 (fAt (fLst (z01 (fC (.int 0)) (z01 (fC (.int 1)) (z01 (fC (.int 2)) fNil)))) (fOp z1y (z06 true z0s (z01 (fN 0) (z01 (fC (.int 6)) fNil))) (fC (.int 3)))) fNil))))))
 (sSeq (sIf (z0o (fOp opEq (fOp z1y (z06 true z0s (z01 (fN 0) (z01 (fC (.int 4)) fNil))) (fC (.int 2))) (fC (.int 1)))) (sSeq (sSet [] 5 (z06 true z1T (z01 (fN 0) (z01 (fC (.int 52)) (z01 (fBlt bLen (z01 (fN 2) fNil)) (z01 (fOp z1y (z06 true z0s (z01 (fN 0) (z01 (fC (.int 7)) fNil))) (fC (.int 2))) fNil))))))
 (sSet [] 4 (z06 true z41 (z01 (fN 3) (z01 (z06 true z6F (z01 (fN 1) (z01 (fN 2) (z01 (fN 5) fNil)))) (z01 (fC (.int 1)) fNil)))))) z0y)
 (sRet (fTup (z01 (fN 3) (z01 (fN 4) (z01 (fOp opEq (fOp z1y (z06 true z0s (z01 (fN 0) (z01 (fC (.int 4)) fNil))) (fC (.int 2))) (fC (.int 1))) fNil))))))))
def z5c:FC:=cOf 3 6 true z2L
def z9m:FS:=(sSeq (sSet [] 3 (z06 true z42 (z01 (fAt (fN 2) (fC (.int 0))) (z01 (z06 true z41 (z01 (fN 1) (z01 (fN 0) (z01 (fNeg (fC (.int 1))) fNil)))) fNil))))
 (sSeq (sIf (z0o (fOp opEq (fAt (fN 2) (fC (.int 1))) (fC (.int 0)))) (sRet (fOp opEq (fN 3) (fC (.int 0)))) z0y)
 (sRet (fOp opEq (fOp z1y (fN 3) (fAt (fN 2) (fC (.int 1)))) (fC (.int 0))))))
def z1F:FC:=cOf 3 4 true z9m
def z9n:FS:=(sSeq (sSet [] 3 (z0e 1 [] (z0m (fN 1)) (Tg.one 0) fYes (fC (.int 0))))
 (sSeq (sFor [] (iSeq (fN 0)) (Tg.one 4)
 (sIf (fNot (fTru (z06 true z1F (z01 (fN 3) (z01 (fN 4) (z01 (fN 2) fNil)))))) (sRet (fC (.bl false))) z0y))
 (sRet (fC (.bl true)))))
def z2M:FC:=cOf 3 5 true z9n
def z4x:FS:=(sSeq (sIf (fOr (fNot (fTru (fIsi "tuple" (fN 0)))) (z0o (fOp opNe (fBlt bLen (z01 (fN 0) fNil)) (fC (.int 2))))) (sRet (fC (.bl false))) z0y)
 (sRet (vAnd (z06 true z4w (z01 (fAt (fN 0) (fC (.int 0))) (z01 (fN 1) fNil))) (vAnd (z06 true z1N (z01 (fAt (fN 0) (fC (.int 1))) fNil)) (fOp opGe (fAt (fN 0) (fC (.int 1))) (fC (.int 0)))))))
def z2f:FC:=cOf 2 2 true z4x
def zkK:FS:=(sSeq (sSet [] 1 (z06 true z7y (z01 (fN 0) fNil)))
 (sSeq (sSet [] 2 (fAt (fN 1) (fC (.int 0))))
 (sSeq (sSet [] 3 (z06 true z3Y (z01 (fN 2) (z01 (z0e 1 [] (iSeq (fAt (fN 1) (fC (.int 1)))) (Tg.one 0) fYes (fBlt bLst (z01 (fN 0) fNil))) fNil))))
 (sSeq (sSet [] 4 (z06 true z5c (z01 (fN 0) (z01 (fN 2) (z01 (fAt (fN 1) (fC (.int 1))) fNil)))))
 (sSeq (sSet [] 5 (z06 false z6E (z01 (fN 3) fNil)))
 (sSeq (sIf (fNot (fTru (fIsi "list" (fN 5)))) (sRet (fC (.bl false))) z0y)
 (sSeq (sFor [] (iSeq (fN 5)) (Tg.one 6)
 (sSeq (sIf (fOr (fNot (fTru (z06 true z2f (z01 (fN 6) (z01 (fN 2) fNil))))) (fNot (fTru (z06 true z2M (z01 (fAt (fN 1) (fC (.int 1))) (z01 (fN 2) (z01 (fN 6) fNil))))))) (sRet (fC (.bl false))) z0y)
 (sSeq (sIf (z0o (fOp z8W (z06 true z5a (z01 (fN 3) (z01 (fN 6) fNil))) (fC (.bl true)))) (sRet (fC (.bl false))) z0y)
 (sSeq (sSet [] 7 (z06 true z59 (z01 (fBlt bLst (z01 (fAt (fN 4) (fC (.int 0))) fNil)) (z01 (fBlt bLst (z01 (fAt (fN 4) (fC (.int 1))) fNil)) (z01 (fN 6) fNil)))))
 (sIf (fOr (fNot (fTru (fIsi "bool" (fN 7)))) (z0o (fOp opNe (fN 7) (z06 true z1F (z01 (fAt (fN 4) (fC (.int 0))) (z01 (fAt (fN 4) (fC (.int 1))) (z01 (fN 6) fNil))))))) (sRet (fC (.bl false))) z0y)))))
 (sSeq (sOwn 8 (fLst (z01 (fTup (z01 (z06 true z1T (z01 (fN 0) (z01 (fC (.int 30)) (z01 (fN 2) (z01 (fC (.int 0)) fNil))))) (z01 (fOp z1y (z06 true z0s (z01 (fN 0) (z01 (fC (.int 37)) fNil))) (fC (.int 13))) fNil))) fNil)))
 (sSeq (sFor [] (iSeq (fSl (fN 5) z0A (z1s (fC (.int 2))))) (Tg.one 6)
 (sWr wExt 8 (fLst (z01 (fTup (z01 (fBlt bLst (z01 (fAt (fN 6) (fC (.int 0))) fNil)) (z01 (fOp z12 (fC (.int 2)) (fAt (fN 6) (fC (.int 1)))) fNil))) (z01 (fTup (z01 (fOp z0x (fLst (z01 (fOp z0x (fAt (fAt (fN 6) (fC (.int 0))) (fC (.int 0))) (fC (.int 1))) fNil)) (fSl (fAt (fN 6) (fC (.int 0))) (z1s (fC (.int 1))) z0A)) (z01 (fAt (fN 6) (fC (.int 1))) fNil))) fNil)))))
 (sSeq (sFor [8] (iSeq (fN 8)) (Tg.one 9)
 (sSeq (sSet [] 7 (z06 true z5a (z01 (fN 3) (z01 (fTup (z01 (fBlt bLst (z01 (fAt (fN 9) (fC (.int 0))) fNil)) (z01 (fAt (fN 9) (fC (.int 1))) fNil))) fNil))))
 (sSeq (sIf (fOr (fNot (fTru (fIsi "bool" (fN 7)))) (z0o (fOp opNe (fN 7) (z06 true z2M (z01 (fAt (fN 1) (fC (.int 1))) (z01 (fN 2) (z01 (fN 9) fNil))))))) (sRet (fC (.bl false))) z0y)
 (sIf (z0o (fOp opNe (z06 true z59 (z01 (fBlt bLst (z01 (fAt (fN 4) (fC (.int 0))) fNil)) (z01 (fBlt bLst (z01 (fAt (fN 4) (fC (.int 1))) fNil)) (z01 (fN 9) fNil)))) (z06 true z1F (z01 (fAt (fN 4) (fC (.int 0))) (z01 (fAt (fN 4) (fC (.int 1))) (z01 (fN 9) fNil)))))) (sRet (fC (.bl false))) z0y))))
 (sRet (fC (.bl true)))))))))))))
def zii:FC:=cOf 1 10 true zkK
theorem z0W(ns:List Int)(k:Int)(h0:0≤k):z0s [.scr ns,.int k]=some (.int (z0g ns k)):=by
 unfold z0s z5b z0g
 by_cases h:k<ns.length
 · have e:atI ns k=some (ns.getD k.toNat 0):=by
     rw[zi4 h0,List.getElem?_eq_getElem (by omega)];simp[List.getD,List.getElem?_eq_getElem (show k.toNat<ns.length by omega)]
   simp[cOf,h,e]
 · by_cases h2:ns=[]
   · subst h2
     simp[cOf,h,zcG [] [],show ¬k<0 by omega]
     rfl
   · have hp:0<ns.length:=List.length_pos_iff.mpr h2
     obtain⟨f1,f2⟩:=z0U k (show(0:Int)<ns.length by omega)
     have e:atI ns (k.fmod ns.length)=some (ns.getD (k.fmod ns.length).toNat 0):=by
      rw[zi4 f1,List.getElem?_eq_getElem (by omega)];simp[List.getD,List.getElem?_eq_getElem (show(k.fmod ns.length).toNat<ns.length by omega)]
     have e2:opEq (.scr ns) (.lst [])=some (.nw,.bl false):=by have:=zcG ns [];rw[decide_eq_false h2]at this;exact this
     simp[cOf,h,h2,e,e2,z80,z3a,show ¬((ns.length:Int)=0) by omega]
theorem zd5(c m:Int)(h0:0≤m)(h3:m<3):z2x [.int c,.int m]=some (.int (zay c m)):=by
 unfold z2x zay
 have hm:m=0∨m=1∨m=2:=by omega
 have d30:z26 c 1000000000000000000000000000000=true:=by unfold z26;decide
 have d9:z26 9 2=true:=by unfold z26;decide
 have d61:z26 61 2=true:=by unfold z26;decide
 have p30:z8L 10 30=true:=by unfold z8L;decide
 have two:∀(m w v:Int),m≠2→atI [Dt.int 9,Dt.int 61] m=some (.int w)→0<w→z26 w 2=true→w.fdiv 2=v→cOf 2 4 true z3p [.int c,.int m]=some (.int (if v<c.fmod w then c.fmod w-w else c.fmod w)):=fun m w v hm2 ha hw hd hv=>by
   refine z3x (f := .nw) rfl (run (ρ':=[.sh false (.int c),.sh false (.int m),.no,.no]) (by simp[cOf,z0C,hm2]) (run (ρ':=[.sh false (.int c),.sh false (.int m),.no,.sh true (.int w)]) (by simp[cOf,ha]) (run (ρ':=[.sh false (.int c),.sh false (.int m),.sh true (.int (c.fmod w)),.sh true (.int w)]) (by simp[cOf,z3a,show ¬w=0 by omega]) ?_))) rfl
   by_cases h:v<c.fmod w
   · simp[cOf,hd,hv,h]
   · simp[cOf,hd,hv,h]
 rcases hm with rfl|rfl|rfl
 · exact(two 0 9 4 (by decide) rfl (by decide) d9 rfl).trans (by simp)
 · exact(two 1 61 30 (by decide) rfl (by decide) d61 rfl).trans (by simp)
 · by_cases h:(c.fdiv 1000000000000000000000000000000).fmod 2=1
   · simp[cOf,z3p,z0C,z3a,p30,d30,h]
   · simp[cOf,z3p,z0C,z3a,p30,d30,h]
theorem z5d(ns:List Int)(a:Int)(n:Nat)(m:Int)(ha:0≤a)(hn:n≤1000)(h0:0≤m)(h3:m<3):z1T [.scr ns,.int a,.int n,.int m]=some (L (z3w ns a n m)):=by
 unfold z1T zbW
 have q:z0e 1 [0,1,3] (z0m (fN 2)) (Tg.one 0) fYes (z06 true z2x (z01 (z06 true z0s (z01 (fN 1) (z01 (fOp z0x (fN 2) (fN 0)) fNil))) (z01 (fN 3) fNil))) (rho0 4 [.scr ns,.int a,.int n,.int m])=some (.nw,L (z3w ns a n m)):=by
  have:=z0j (nt:=1) (js:=[0,1,3]) (Fi:=z0m (fN 2)) (g:=Tg.one 0) (Fe:=z06 true z2x (z01 (z06 true z0s (z01 (fN 1) (z01 (fOp z0x (fN 2) (fN 0)) fNil))) (z01 (fN 3) fNil))) (ρ:=rho0 4 [.scr ns,.int a,.int n,.int m]) (e:=fun(k:Nat) => .int (0+(k:Int))) (h:=fun(k:Nat) => .int (zay (z0g ns (a+(k:Int))) m)) (xs:=List.range n)
   (by simp[cOf,z0m,intD,z3c,z0M,show(n:Int)≤1000000 by omega,show -1000000≤(n:Int) by omega])
   (fun k hk=>by simp[cOf,Tg.put,sigD,z4M,z0W ns (a+(k:Int)) (by omega),zd5 _ m h0 h3])
  rw[this];simp[L,z3w]
 exact z3x rfl (f := .nw) (by unfold sRet;rw[q];rfl) rfl
theorem zbY(ns:List Int)(m:Int)(k n:Nat)(f1 f2 f3:Bool)(h0:0≤m)(h3:m<3)(hk:k≤100)(hn:n≤100):
    (z0e 1 [0,2,1] (z0m (fN 3)) (Tg.one 0) fYes (z06 true z1T (z01 (fN 1) (z01 (fOp z0x (fC (.int 8)) (fOp z12 (fN 2) (fN 0))) (z01 (fN 2) (z01 (fN 3) fNil)))))) [.sh false (.scr ns),.sh f1 (.int m),.sh f2 (.int k),.sh f3 (.int n)] =
      some (.nw,LL ((List.range n).map fun(j:Nat)=>z3w ns (8+(k:Int)*(j:Int)) k m)):=by
  have:=z0j (nt:=1) (js:=[0,2,1]) (Fi:=z0m (fN 3)) (g:=Tg.one 0) (Fe:=z06 true z1T (z01 (fN 1) (z01 (fOp z0x (fC (.int 8)) (fOp z12 (fN 2) (fN 0))) (z01 (fN 2) (z01 (fN 3) fNil))))) (ρ:=[.sh false (.scr ns),.sh f1 (.int m),.sh f2 (.int k),.sh f3 (.int n)]) (e:=fun(j:Nat) => .int (0+(j:Int))) (h:=fun(j:Nat)=>L (z3w ns (8+(k:Int)*(j:Int)) k m)) (xs:=List.range n)
    (by simp[cOf,z0m,intD,z3c,z0M,show(n:Int)≤1000000 by omega,show -1000000≤(n:Int) by omega])
    (fun j hj=>by
      have hj:=List.mem_range.mp hj
      have hm:z17 (k:Int) (j:Int)=true:=z80 (by                     have:(j:Int).natAbs=j:=by omega
                                                                    omega)
      have hp:(0:Int)≤8+(k:Int)*(j:Int):=by have:=Int.mul_nonneg (show(0:Int)≤k by omega) (show(0:Int)≤j by omega);omega
      have e:=z5d ns (8+(k:Int)*(j:Int)) k m hp (by omega) h0 h3
      simp[cOf,Tg.put,sigD,z4M,hm,e])
  rw[this]
  simp[LL]
theorem zec(ns:List Int):z7y [.scr ns]=some (.tup [.int (z1k ns),LL (z28 ns)]):=by
 have c0:=z0W ns 0 (by decide)
 have c1:=z0W ns 1 (by decide)
 have c2:=z0W ns 2 (by decide)
 have c3:=z0W ns 3 (by decide)
 have r0:=z0U (z0g ns 0) (show(0:Int)<4 by decide)
 have r1:=z0U (z0g ns 1) (show(0:Int)<5 by decide)
 have r2:=z0U (z0g ns 2) (show(0:Int)<5 by decide)
 have kl:=z65 ns
 have ml:=zaz ns
 have mc:=zbM ns
 have tl:=fun f1 f2 f3=>zbY ns (z16 ns) (z1k ns) (z3K ns) f1 f2 f3 (by omega) (by omega) (by omega) (by omega)
 have fin:∀(m k n:Int) (f1 f2 f3:Bool),m=z16 ns→k=z1k ns→n=z3K ns→sRet (fTup (z01 (fN 2) (z01 (z0e 1 [0,2,1] (z0m (fN 3)) (Tg.one 0) fYes (z06 true z1T (z01 (fN 1) (z01 (fOp z0x (fC (.int 8)) (fOp z12 (fN 2) (fN 0))) (z01 (fN 2) (z01 (fN 3) fNil)))))) fNil))) [.sh false (.scr ns),.sh f1 (.int m),.sh f2 (.int k),.sh f3 (.int n)]=some (.rt .nw (.tup [.int (z1k ns),LL (z28 ns)])):=by
   rintro m k n f1 f2 f3 rfl rfl rfl
   simp[sRet,fTup,z01,fNil,fN,zao,Cell.val,zo1,z0n,tl f1 f2 f3,z3Q,Fl.isNw,sndL,z28]
 have lk:∃ m0:Int,atI [Dt.int 0,Dt.int 0,Dt.int 0,Dt.int 1,Dt.int 2] ((z0g ns 2).fmod 5)=some (.int m0)∧(¬(z0g ns 3).fmod 7=6→m0=z16 ns)∧(m0=2↔(z0g ns 2).fmod 5=4):=by
   have hr2:(z0g ns 2).fmod 5=0∨(z0g ns 2).fmod 5=1∨(z0g ns 2).fmod 5=2∨(z0g ns 2).fmod 5=3∨(z0g ns 2).fmod 5=4:=by omega +splitDisjunctions
   rcases hr2 with h2|h2|h2|h2|h2<;>rw[h2]
   · exact⟨0,rfl,fun h=>by simp[z16,h,h2],by decide⟩
   · exact⟨0,rfl,fun h=>by simp[z16,h,h2],by decide⟩
   · exact⟨0,rfl,fun h=>by simp[z16,h,h2],by decide⟩
   · exact⟨1,rfl,fun h=>by simp[z16,h,h2],by decide⟩
   · exact⟨2,rfl,fun h=>by simp[z16,h,h2],by decide⟩
 obtain⟨m0,lk,lm,l2⟩:=lk
 have mo:∀(c:Int) (k:Nat),z3a c ((k+1:Nat):Int)=true:=fun c k=>by unfold z3a;exact decide_eq_true (by omega)
 have mo2:=fun c=>mo c 1
 have mo4:=fun c=>mo c 3
 have mo5:=fun c=>mo c 4
 have mo7:=fun c=>mo c 6
 simp only[Nat.reduceAdd,Int.cast_ofNat_Int]at mo2 mo4 mo5 mo7
 have t3:∀(m k n:Int),m=z16 ns→k=z1k ns→n=z3K ns→m≠2→_:=fun m k n a b c d=>run (F:=sIf (z0o (fOp opEq (fN 1) (fC (.int 2)))) (sSeq (sSet [] 2 (fOp z0x (fC (.int 1)) (fOp z1y (fN 2) (fC (.int 2))))) (sSet [] 3 (fOp z1y (fN 3) (fC (.int 4))))) z0y) (ρ:=[.sh false (.scr ns),.sh true (.int m),.sh true (.int k),.sh true (.int n)]) (ρ':=[.sh false (.scr ns),.sh true (.int m),.sh true (.int k),.sh true (.int n)]) (by simp[cOf,z0C,d]) (fin m k n true true true a b c)
 refine z3x (f := .nw) rfl (run (ρ':=[.sh false (.scr ns),.sh true (.int m0),.no,.no]) (by simp[cOf,c2,lk,mo5]) (run (ρ':=[.sh false (.scr ns),.sh true (.int m0),.sh true (.int (1+(z0g ns 0).fmod 4)),.no]) (by simp[cOf,c0,mo4]) (run (ρ':=[.sh false (.scr ns),.sh true (.int m0),.sh true (.int (1+(z0g ns 0).fmod 4)),.sh true (.int ((z0g ns 1).fmod 5))]) (by simp[cOf,c1,mo5]) ?_))) rfl
 by_cases h3:(z0g ns 3).fmod 7=6
 · exact run (ρ':=[.sh false (.scr ns),.sh true (.int 0),.sh true (.int 6),.sh true (.int 8)]) (by simp[cOf,c3,h3,z0C,mo7]) (t3 0 6 8 (by simp[z16,h3]) (by simp[z1k,z16,z64,h3]) (by simp[z3K,z16,z91,h3]) (by decide))
 · have lm:=lm h3
   refine run (ρ':=[.sh false (.scr ns),.sh true (.int m0),.sh true (.int (1+(z0g ns 0).fmod 4)),.sh true (.int ((z0g ns 1).fmod 5))]) (by simp[cOf,c3,h3,z0C,mo7]) ?_
   by_cases h2:m0=2
   · have h4:=l2.mp h2
     refine run (ρ':=[.sh false (.scr ns),.sh true (.int m0),.sh true (.int (1+(1+(z0g ns 0).fmod 4).fmod 2)),.sh true (.int (((z0g ns 1).fmod 5).fmod 4))]) (by simp[cOf,h2,z0C,mo2,mo4]) (fin m0 _ _ true true true lm ?_ ?_)
     · have:=z0U (1+(z0g ns 0).fmod 4) (show(0:Int)<2 by decide)
       simp[z1k,z16,z64,h3,h4];omega +splitDisjunctions
     · have:=z0U ((z0g ns 1).fmod 5) (show(0:Int)<4 by decide)
       simp[z3K,z16,z91,h3,h4];omega +splitDisjunctions
   · have h4:¬(z0g ns 2).fmod 5=4:=fun h=>h2 (l2.mpr h)
     exact t3 m0 _ _ lm (by simp[z1k,z16,z64,h3,h4];omega +splitDisjunctions) (by simp[z3K,z16,z91,h3,h4];omega +splitDisjunctions) h2
theorem z84(d:Dt):z2t [d]=some (.bl (isWh d)):=by
 unfold z2t z68
 cases d<;>simp[cOf,isWh,Dt.flat,nrm]
theorem zaL(a:List Int)(n:Int):z4Z [L a,.int n]=some (.bl (decide ((a.length:Int)=n))):=by
 unfold z4Z z9g
 have q:z0e 1 [] (iSeq (fN 0)) (Tg.one 0) fYes (z06 true z2t (z01 (fN 0) fNil)) [.sh false (L a),.sh false (.int n)]=some (.nw,.lst (a.map fun _ => .bl true)) :=
   z0j (e:=Dt.int) (h:=fun _ => .bl true) (xs:=a) (by simp[cOf]) (fun x _=>by simp[cOf,Tg.put,sigD,z84,isWh])
 by_cases h:(a.length:Int)=n
 · simp[cOf,z15,h,q,bAll,z3U (fun _=>true) a]
 · simp[cOf,z15,h]
theorem z9o(a b:List Int)(h:a.length=b.length):z5D [L a,L b]=some (L (addR a b)):=by
 unfold z5D zbR
 have q:z0e 2 [] (iZip (fN 0) (fN 1)) (Tg.many [0,1]) fYes (fOp z0x (fN 0) (fN 1)) [.sh false (L a),.sh false (L b)]=some (.nw,L (addR a b)):=by
  rw[z0j (e:=fun p:Int×Int => .tup [.int p.1,.int p.2]) (h:=fun p => .int (p.1+p.2)) (xs:=a.zip b) (by simp[cOf,iZip,h,z4Q]) (fun p _=>by simp[cOf,Tg.put,z2n,sigD]),zku]
 simp[cOf,q]
theorem z9p(a b:List Int)(h:a.length=b.length):z4s [L a,L b]=some (L (subR a b)):=by
 unfold z4s zbS
 have q:z0e 2 [] (iZip (fN 0) (fN 1)) (Tg.many [0,1]) fYes (fOp z7S (fN 0) (fN 1)) [.sh false (L a),.sh false (L b)]=some (.nw,L (subR a b)):=by
  rw[z0j (e:=fun p:Int×Int => .tup [.int p.1,.int p.2]) (h:=fun p => .int (p.1-p.2)) (xs:=a.zip b) (by simp[cOf,iZip,h,z4Q]) (fun p _=>by simp[cOf,Tg.put,z2n,sigD]),zjd]
 simp[cOf,q]
theorem z22(a:List Int)(k:Int)(h:∀ x∈a,z17 k x=true):z1B [L a,.int k]=some (L (sclR k a)):=by
 unfold z1B z9h
 have q:z0e 1 [1] (iSeq (fN 0)) (Tg.one 0) fYes (fOp z12 (fN 1) (fN 0)) [.sh false (L a),.sh false (.int k)]=some (.nw,L (sclR k a)):=by
  rw[z0j (e:=Dt.int) (h:=fun x => .int (k*x)) (xs:=a) (by simp[cOf]) (fun x hx=>by simp[cOf,Tg.put,sigD,z4M,h x hx])]
  simp[L,sclR]
 simp[cOf,q]
theorem zbZ(n:Nat)(h1:1≤n)(h2:n≤6):z3C [.int n]=some (.bl true):=by
 unfold z3C z50
 have e:=z84 (.int n)
 simp[cOf,e,isWh,z8M,show(1:Int)≤n by omega,show(n:Int)≤6 by omega]
theorem za9(n:Nat)(h1:1≤n)(h2:n≤6):z2Z [.int n]=some .non:=by
 unfold z2Z z4t
 simp[cOf,zbZ n h1 h2]
theorem zed(a:List Int)(n:Nat)(hl:a.length=n)(h:∀ x∈a,x.natAbs<10 ^ 30):z5F [L a,.int n]=some (.bl true):=by
 unfold z5F z7r
 have e:=zaL a n
 have p30:z8L 10 30=true:=by unfold z8L;decide
 have q:z0e 1 [] (iSeq (fN 0)) (Tg.one 0) fYes (fOp opLt (fBlt bAbs (z01 (fN 0) fNil)) (fOp zap (fC (.int 10)) (fC (.int 30)))) [.sh false (L a),.sh false (.int n)]=some (.nw,.lst (a.map fun _ => .bl true)) :=
  z0j (e:=Dt.int) (h:=fun _ => .bl true) (xs:=a) (by simp[cOf]) (fun x hx=>by
   have:=h x hx
   have:(if x<0 then -x else x)<1000000000000000000000000000000:=by split<;>omega
   simp[cOf,Tg.put,sigD,bAbs,p30,this])
 simp[cOf,e,hl,q,bAll,z3U (fun _=>true) a]
theorem zc0(a:List Int)(n:Nat)(hl:a.length=n)(h:∀ x∈a,x.natAbs<10 ^ 30):z20 [L a,.int n]=some .non:=by
 unfold z20 z51
 simp[cOf,zed a n hl h]
theorem zee(k:Int)(rows:List (List Int)):z5G [.int k,LL rows]=some (z0t k rows):=by
 unfold z5G z7s
 have q:z0e 1 [] (iSeq (fN 1)) (Tg.one 0) fYes (fBlt bTup (z01 (fN 0) fNil)) [.sh false (.int k),.sh false (LL rows)]=some (.nw,.lst (rows.map T)) :=
  z0j (e:=L) (h:=T) (xs:=rows) (by simp[cOf]) (fun x hx=>by simp[cOf,Tg.put,sigD,bTup,z3g])
 simp[cOf,q,bTup,zax]
theorem zef(n:Nat)(bills:List (List Int))(h1:1≤n)(h2:n≤6)(hm:bills.length≤8)(hw:Wide n bills)(hb:∀ r∈bills,∀ x∈r,x.natAbs<10 ^ 30):z3Y [.int n,LL bills]=some (z0t n bills):=by
 unfold z3Y z7t
 obtain⟨j,q⟩:=z3T (g:=Tg.one 2) (F:=z6q (z06 true z20 (z01 (fN 2) (z01 (fN 0) fNil)))) (e:=L) (R:=fun(_:Unit) (c:Cell)=>[.sh false (.int n),.sh false (LL bills),c]) (step:=fun _ _=>()) bills () .no
  (fun b x j hx=>⟨.sh false (L x),by simp[cOf,Tg.put,zc0 x n (hw x hx) (hb x hx)]⟩)
 have q:forF (Tg.one 2) (z6q (z06 true z20 (z01 (fN 2) (z01 (fN 0) fNil)))) (bills.map L) [.sh false (.int n),.sh false (LL bills),.no]=some (.nx [.sh false (.int n),.sh false (LL bills),j]):=q
 simp[cOf,za9 n h1 h2,show ¬(8<(bills.length:Int)) by omega,q,zee]
abbrev HF:FS:=sIf (z0o (fOp opNe (fN 2) (fC (.int 0)))) (sRet (fN 1)) z0y
theorem zaM(c0:Cell):∀(r:List Int) (j:Nat) (c1 c2:Cell),(St.z02 r<r.length→forF (Tg.many [1,2]) HF (z2V j (r.map .int)) [c0,c1,c2]=some (.rt .nw (.int ((j+St.z02 r:Nat):Int)))) ∧
  (¬St.z02 r<r.length→∃ c1' c2',forF (Tg.many [1,2]) HF (z2V j (r.map .int)) [c0,c1,c2]=some (.nx [c0,c1',c2']))
 | [],j,c1,c2=>⟨fun h=>by simp[St.z02]at h,fun _=>⟨c1,c2,rfl⟩⟩
 | x::r,j,c1,c2=>by
  obtain⟨i1,i2⟩:=zaM c0 r (j+1) (.sh false (.int j)) (.sh false (.int x))
  rw[List.map_cons,z2V,z1a]
  by_cases hx:x=0
  · have e:(Tg.put (Tg.many [1,2]) (.tup [.int j,.int x]) [c0,c1,c2]).bind HF=some (.nx [c0,.sh false (.int j),.sh false (.int x)]):=by simp[cOf,z15,hx]
    have eh:St.z02 (x::r)=St.z02 r+1:=by simp[St.z02,hx]
    rw[e,eh,List.length_cons]
    refine⟨fun h=>?_,fun h=>i2 (by omega)⟩
    have:=i1 (by omega)
    rw[show j+(St.z02 r+1)=j+1+St.z02 r by omega]
    exact this
  · have e:(Tg.put (Tg.many [1,2]) (.tup [.int j,.int x]) [c0,c1,c2]).bind HF=some (.rt .nw (.int j)):=by simp[cOf,z15,hx]
    have eh:St.z02 (x::r)=0:=by simp[St.z02,hx]
    rw[e,eh,List.length_cons]
    exact⟨fun _=>rfl,fun h=>absurd (Nat.succ_pos _) h⟩
theorem z0Z(r:List Int):z0h [L r]=some (.int (St.z02 r)):=by
 unfold z0h z7q
 obtain⟨h1,h2⟩:=zaM (.sh false (L r)) r 0 .no .no
 have hl:=St.z7e r
 by_cases h:St.z02 r<r.length
 · have h1:=h1 h
   simp only[Nat.zero_add]at h1
   simp[cOf,h1]
 · obtain⟨c1,c2,h2⟩:=h2 h
   simp[cOf,h2,show St.z02 r=r.length by omega]
theorem z9q{r:List Int}{k:Nat}(h:k<r.length):atI (r.map Dt.int) (k:Int)=some (.int (St.at0 r k)):=by
 rw[z3h,zkv h];simp[St.at0,List.getD,List.getElem?_eq_getElem h]
theorem zo9(a b:List Int)(q:Int):subR a (sclR q b)=St.sub a q b:=by
 unfold subR sclR St.sub
 rw[List.zipWith_map_right]
theorem zij{r:List Int}{x:Int}(h:x∈r):∃ k,St.at0 r k=x:=by
 obtain⟨k,hk,e⟩:=List.mem_iff_getElem.mp h
 exact⟨k,by simp[St.at0,List.getD,List.getElem?_eq_getElem hk,e]⟩
theorem zik{x:Int}{m:Nat}(h:x.natAbs<2 ^ m):Builtin.Int.intBits x≤m:=zbF h
theorem z43{i j:Int}{m k:Nat}(h1:i.natAbs<2 ^ m)(h2:j.natAbs<2 ^ k)(h:m+k≤134217728):z17 i j=true:=by
 unfold z17
 rw[decide_eq_true (show Builtin.Int.intBits i+Builtin.Int.intBits j≤134217728 from by have:=zik h1;have:=zik h2;omega)]
 rfl
theorem z44{i j:Int}(h0:0<j)(h:j<2 ^ 9000):z26 i j=true:=by
 unfold z26
 rw[decide_eq_true (show j≠0 by omega),decide_eq_true (show j.natAbs.log2<9000 from ?_)]
 · rfl
 · rw[Nat.log2_lt (by omega)]
   have:((2 ^ 9000:Nat):Int)=(2:Int) ^ 9000:=by norm_cast
   omega
abbrev LF:FS:=(sSeq (sSet [] 5 (z06 true z0h (z01 (fN 4) fNil)))
 (sSeq (sSet [] 6 (fOp z3O (fAt (fN 2) (fN 5)) (fAt (fN 4) (fN 5))))
 (sSeq (sIf (z0o (fOp opNe (fN 6) (fC (.int 0)))) (sSet [] 2 (z06 true z4s (z01 (fN 2) (z01 (z06 true z1B (z01 (fN 4) (z01 (fN 6) fNil))) fNil)))) z0y)
 (sWr wApp 3 (fN 6)))))
theorem z9r{n m:Nat}(hm:2*m≤134217728)(c0 c1:Cell):∀(S:List (List Int)) (left:List Int) (cs:List Int) (c4 c5 c6:Cell),(∀ r∈S,r.length=n∧St.z02 r<n∧0<St.hd r∧St.hd r<2 ^ 9000)→left.length=n→St.LowB m left S→cs.length+S.length≤1000 →
  ∃ c4' c5' c6',forF (Tg.one 4) LF (S.map L) [c0,c1,.sh true (L left),.ow true (cs.map .int),c4,c5,c6]=some (.nx [c0,c1,.sh true (L (St.z0i left S)),.ow true ((cs++St.z94 left S).map .int),c4',c5',c6'])
 | [],left,cs,c4,c5,c6,_,_,_,_=>⟨c4,c5,c6,by simp[zkq,St.z0i,St.z94]⟩
 | r::S,left,cs,c4,c5,c6,hr,hl,hb,hc=>by
  obtain⟨r1,r2,r3,r4⟩:=hr r List.mem_cons_self
  have hs:(St.sub left (St.z0Q left r) r).length=n:=by rw[St.z2X (by omega)];exact hl
  obtain⟨d4,d5,d6,ih⟩:=z9r hm c0 c1 S (St.sub left (St.z0Q left r) r) (cs++[St.z0Q left r]) (.sh false (L r)) (.sh true (.int (St.z02 r))) (.sh true (.int (St.z0Q left r))) (fun x hx=>hr x (List.mem_cons_of_mem _ hx)) hs hb.2 (by simp at hc ⊢;omega)
  refine⟨d4,d5,d6,?_⟩
  rw[List.map_cons,z1a]
  have a1:=z9q (r:=left) (k:=St.z02 r) (by omega)
  have a2:=z9q (r:=r) (k:=St.z02 r) (by omega)
  have dv:z26 (St.at0 left (St.z02 r)) (St.at0 r (St.z02 r))=true:=z44 r3 r4
  have ef:(St.at0 left (St.z02 r)).fdiv (St.at0 r (St.z02 r))=St.z0Q left r:=rfl
  have hcs:cs.length<1000000:=by simp at hc;omega
  have e:(Tg.put (Tg.one 4) (L r) [c0,c1,.sh true (L left),.ow true (cs.map .int),c4,c5,c6]).bind LF=some (.nx [c0,c1,.sh true (L (St.sub left (St.z0Q left r) r)),.ow true ((cs++[St.z0Q left r]).map .int),.sh false (L r),.sh true (.int (St.z02 r)),.sh true (.int (St.z0Q left r))]):=by
   refine(show LF [c0,c1,.sh true (L left),.ow true (cs.map .int),.sh false (L r),c5,c6]=_ from run (ρ':=[c0,c1,.sh true (L left),.ow true (cs.map .int),.sh false (L r),.sh true (.int (St.z02 r)),c6]) (by simp[cOf,z0Z]) (run (ρ':=[c0,c1,.sh true (L left),.ow true (cs.map .int),.sh false (L r),.sh true (.int (St.z02 r)),.sh true (.int (St.z0Q left r))]) (by simp[cOf,a1,a2,dv,ef]) (run (ρ':=[c0,c1,.sh true (L (St.sub left (St.z0Q left r) r)),.ow true (cs.map .int),.sh false (L r),.sh true (.int (St.z02 r)),.sh true (.int (St.z0Q left r))]) ?_ (by simp[cOf,hcs]))))
   by_cases ho:St.z0Q left r=0
   · have es:St.sub left (St.z0Q left r) r=left:=by rw[ho];exact St.sub_zero (by omega)
     rw[es]
     simp[cOf,ho,z15]
   · have mo:∀ x∈r,z17 (St.z0Q left r) x=true:=fun x hx=>by
      obtain⟨k,rfl⟩:=zij hx
      rcases hb.1 with h|⟨h1,h2⟩
      · exact absurd h ho
      · exact z43 h1 (h2 k) (by omega)
     have e1:=z22 r (St.z0Q left r) mo
     have e2:=z9p left (sclR (St.z0Q left r) r) (by rw[z0z];omega)
     rw[zo9]at e2
     simp[cOf,ho,z15,e1,e2]
  rw[e]
  show forF (Tg.one 4) LF (S.map L) _=_
  rw[ih,St.z0i,St.z94]
  simp
def RowD(d:Dt)(v:List Int):Prop:=d=L v∨d=T v
theorem zd6{n m:Nat}(d:Dt)(v:List Int)(S:List (List Int))(hd:RowD d v)(hm:2*m≤134217728)(hr:∀ r∈S,r.length=n∧St.z02 r<n∧0<St.hd r∧St.hd r<2 ^ 9000)(hl:v.length=n)(hb:St.LowB m v S)(hc:S.length≤1000):
   z4u [d,LL S]=some (.tup [L (St.z94 v S),L (St.z0i v S)]):=by
 unfold z4u z6a
 rcases hd with rfl|rfl
 · obtain⟨d4,d5,d6,q⟩:=z9r hm (.sh false (L v)) (.sh false (LL S)) S v [] .no .no .no hr hl hb (by simpa using hc)
   simp[cOf]at q ⊢;simp[q]
 · obtain⟨d4,d5,d6,q⟩:=z9r hm (.sh false (T v)) (.sh false (LL S)) S v [] .no .no .no hr hl hb (by simpa using hc)
   simp[cOf]at q ⊢;simp[q]
theorem z6c{n m:Nat}(d:Dt)(v:List Int)(S:List (List Int))(hd:RowD d v)(hm:2*m≤134217728)(hr:∀ r∈S,r.length=n∧St.z02 r<n∧0<St.hd r∧St.hd r<2 ^ 9000)(hl:v.length=n)(hb:St.LowB m v S)(hc:S.length≤1000):
  z13 [d,LL S]=some (L (St.z0i v S)):=by
 have e:=zd6 d v S hd hm hr hl hb hc
 have hn:nrm (flOf false) d=(if d.flat then .nw else .sh,d):=rfl
 unfold z13 z7v
 rcases hd with rfl|rfl<;>simp[cOf,e,zkw]
theorem zjo{i j:Int}(h0:j≠0)(h:j.natAbs<2 ^ 9000):z26 i j=true:=by
 unfold z26
 rw[decide_eq_true h0,decide_eq_true (show j.natAbs.log2<9000 from(Nat.log2_lt (by omega)).mpr h)]
 rfl
abbrev BC:FT:=z0o (fOp opNe (fAt (fN 3) (fC (.int 0))) (fC (.int 0)))
abbrev BF:FS:=(sSeq (sSet [] 4 (fOp z3O (fAt (fN 2) (fC (.int 0))) (fAt (fN 3) (fC (.int 0)))))
 (sSeq (sSet [] 5 (z0e 1 [2,4,3] (z0m (fC (.int 3))) (Tg.one 0) fYes (fOp z7S (fAt (fN 1) (fN 0)) (fOp z12 (fN 2) (fAt (fN 3) (fN 0))))))
 (sSeq (sSet [] 2 (fN 3))
 (sSet [] 3 (fN 5)))))
theorem zd7(c0 c1 c4 c5:Cell)(u0 u1 u2 l0 l1 l2:Int)(hl:l0≠0)(h:l0.natAbs<2 ^ 9000)(m0:z17 (u0.fdiv l0) l0=true)(m1:z17 (u0.fdiv l0) l1=true)(m2:z17 (u0.fdiv l0) l2=true):
  BF [c0,c1,.sh true (L [u0,u1,u2]),.sh true (L [l0,l1,l2]),c4,c5]=some (.nx [c0,c1,.sh true (L [l0,l1,l2]),.sh true (L [u0-u0.fdiv l0*l0,u1-u0.fdiv l0*l1,u2-u0.fdiv l0*l2]),.sh true (.int (u0.fdiv l0)),.sh true (L [u0-u0.fdiv l0*l0,u1-u0.fdiv l0*l1,u2-u0.fdiv l0*l2])]):=by
 have dv:=zjo (i:=u0) hl h
 have q:z0e 1 [2,4,3] (z0m (fC (.int 3))) (Tg.one 0) fYes (fOp z7S (fAt (fN 1) (fN 0)) (fOp z12 (fN 2) (fAt (fN 3) (fN 0)))) [z1d c0,z1d c1,.sh true (L [u0,u1,u2]),.sh true (L [l0,l1,l2]),.sh true (.int (u0.fdiv l0)),z1d c5]=some (.nw,L [u0-u0.fdiv l0*l0,u1-u0.fdiv l0*l1,u2-u0.fdiv l0*l2]):=by
  rw[z0j (e:=fun(k:Nat) => .int (0+(k:Int))) (h:=fun(k:Nat) => .int ([u0,u1,u2].getD k 0-u0.fdiv l0*[l0,l1,l2].getD k 0)) (xs:=List.range 3) (by simp[cOf,show z3c 3=true from z4p (n:=3) (by decide),z0M]) (fun k hk=>by
   have hk:k<3:=List.mem_range.mp hk
   have a1:=z1D (xs:=[u0,u1,u2]) (i:=k) 0 hk
   have a2:=z1D (xs:=[l0,l1,l2]) (i:=k) 0 hk
   have mk:z17 (u0.fdiv l0) ([l0,l1,l2].getD k 0)=true:=by
    have:k=0∨k=1∨k=2:=by omega
    rcases this with rfl|rfl|rfl
    · exact m0
    · exact m1
    · exact m2
   generalize [u0,u1,u2].getD k 0=uk at *
   generalize [l0,l1,l2].getD k 0=lk at *
   generalize [u0,u1,u2]=us at *
   generalize [l0,l1,l2]=ls at *
   simp[cOf,z3h,a1,a2,mk])]
  rfl
 exact run (ρ':=[c0,c1,.sh true (L [u0,u1,u2]),.sh true (L [l0,l1,l2]),.sh true (.int (u0.fdiv l0)),c5]) (by simp[cOf,dv]) (run (ρ':=[c0,c1,.sh true (L [u0,u1,u2]),.sh true (L [l0,l1,l2]),.sh true (.int (u0.fdiv l0)),.sh true (L [u0-u0.fdiv l0*l0,u1-u0.fdiv l0*l1,u2-u0.fdiv l0*l2])]) (by simp[cOf,q]) (run (ρ':=[c0,c1,.sh true (L [l0,l1,l2]),.sh true (L [l0,l1,l2]),.sh true (.int (u0.fdiv l0)),.sh true (L [u0-u0.fdiv l0*l0,u1-u0.fdiv l0*l1,u2-u0.fdiv l0*l2])]) (by simp[cOf]) (by simp[cOf])))
theorem zd8{a b:Int}{e:Nat}(he:e≤9000)(ha:a.natAbs<2 ^ e)(hb:b.natAbs<2 ^ e)(c0 c1:Cell):∀(k:Nat) (u0 u1 u2 l0 l1 l2:Int) (c4 c5:Cell),Br.BI a b u0 u1 u2 l0 l1 l2→l0.natAbs≤k →
 ∃ v0 v1 v2 w1 w2 d4 d5,z19 BC BF (k+1) [c0,c1,.sh true (L [u0,u1,u2]),.sh true (L [l0,l1,l2]),c4,c5]=some (.nx [c0,c1,.sh true (L [v0,v1,v2]),.sh true (L [0,w1,w2]),d4,d5])∧Br.BI a b v0 v1 v2 0 w1 w2:=by
 intro k
 induction k using Nat.strongRecOn with
 | _ k IH =>
 intro u0 u1 u2 l0 l1 l2 c4 c5 B hk
 have hc:BC [c0,c1,.sh true (L [u0,u1,u2]),.sh true (L [l0,l1,l2]),c4,c5]=some (!decide (l0=0)):=by simp[cOf,z15]
 rw[z19,hc,z0n]
 by_cases hl:l0=0
 · subst hl
   exact⟨u0,u1,u2,l1,l2,c4,c5,by simp,B⟩
 · have p3:2 ^ (e+3)=8*2 ^ e:=by rw[Nat.pow_add];omega
   obtain⟨z1,z2,z3,z4⟩:=Br.zi6 u0 l0 hl
   have c1':=B.c1
   have c2':=B.c2
   have b3:=B.b3
   have b4:=B.b4
   have hq:(u0.fdiv l0).natAbs<2 ^ (e+3):=by
    have:1*(u0.fdiv l0).natAbs≤l0.natAbs*(u0.fdiv l0).natAbs:=Nat.mul_le_mul_right _ (by omega)
    rw[Nat.mul_comm l0.natAbs]at this
    omega
   have h9:(2:Nat) ^ e≤2 ^ 9000:=Nat.pow_le_pow_right (by decide) he
   have st:=zd7 c0 c1 c4 c5 u0 u1 u2 l0 l1 l2 hl (by omega) (z43 hq (show l0.natAbs<2 ^ (e+3) by omega) (by omega)) (z43 hq (show l1.natAbs<2 ^ (e+3) by omega) (by omega)) (z43 hq (show l2.natAbs<2 ^ (e+3) by omega) (by omega))
   cases k with
   | zero=>omega
   | succ k =>
    obtain⟨v0,v1,v2,w1,w2,d4,d5,ih,B'⟩:=IH k (Nat.lt_succ_self k) _ _ _ _ _ _ (.sh true (.int (u0.fdiv l0))) (.sh true (L [u0-u0.fdiv l0*l0,u1-u0.fdiv l0*l1,u2-u0.fdiv l0*l2])) (B.turn hl) (by omega)
    refine⟨v0,v1,v2,w1,w2,d4,d5,?_,B'⟩
    rw[st]
    simp only[hl,decide_false,Bool.not_false,if_true,z0n]
    exact ih
theorem zaN(a b:Int)(e:Nat)(he:e≤9000)(ha:a.natAbs<2 ^ e)(hb:b.natAbs<2 ^ e):∃ x y,z52 [.int a,.int b]=some (T [(Int.gcd a b:Int),x,y])∧a*x+b*y=Int.gcd a b∧x.natAbs≤a.natAbs+2*b.natAbs+1∧y.natAbs≤a.natAbs+2*b.natAbs+1:=by
 obtain⟨v0,v1,v2,w1,w2,d4,d5,lp,B⟩:=zd8 he ha hb (.sh false (.int a)) (.sh false (.int b)) b.natAbs a 1 0 b 0 1 .no .no (Br.BI.start a b) (Nat.le_refl _)
 have lp:=z5w lp
 have fin:=B.fin
 have up:=B.up
 have b1:=B.b1
 have b2:=B.b2
 have pre:∀{r:Option Oc},(sSeq (sIf (z0o (fOp opLt (fAt (fN 2) (fC (.int 0))) (fC (.int 0)))) (sSet [] 2 (z0e 1 [] (iSeq (fN 2)) (Tg.one 0) fYes (fNeg (fN 0)))) z0y) (sRet (fBlt bTup (z01 (fN 2) fNil)))) [.sh false (.int a),.sh false (.int b),.sh true (L [v0,v1,v2]),.sh true (L [0,w1,w2]),d4,d5]=r→z9i (rho0 6 [.int a,.int b])=r:=fun h=>run (ρ':=[.sh false (.int a),.sh false (.int b),.sh true (L [a,1,0]),.no,.no,.no]) (by simp[cOf,L]) (run (ρ':=[.sh false (.int a),.sh false (.int b),.sh true (L [a,1,0]),.sh true (L [b,0,1]),.no,.no]) (by simp[cOf,L]) (run lp h))
 have at0:atI ([v0,v1,v2].map Dt.int) 0=some (.int v0):=rfl
 by_cases h0:v0<0
 · refine⟨-v1,-v2,?_,by rw[Int.mul_neg,Int.mul_neg];omega,by omega,by omega⟩
   have q:z0e 1 [] (iSeq (fN 2)) (Tg.one 0) fYes (fNeg (fN 0)) [.sh false (.int a),.sh false (.int b),.sh true (L [v0,v1,v2]),.sh true (L [0,w1,w2]),z1d d4,z1d d5]=some (.nw,L [-v0,-v1,-v2]):=by
    rw[z0j (e:=Dt.int) (h:=fun x => .int (-x)) (xs:=[v0,v1,v2]) (by simp[cOf,L]) (fun x hx=>by simp[cOf])]
    rfl
   have e0:(Int.gcd a b:Int) = -v0:=by omega
   rw[e0]
   refine z3x (f := .nw) rfl (pre (run (ρ':=[.sh false (.int a),.sh false (.int b),.sh true (L [-v0,-v1,-v2]),.sh true (L [0,w1,w2]),d4,d5]) ?_ (by simp[cOf,T]))) rfl
   generalize [v0,v1,v2]=vs at *
   simp[cOf,at0,h0,q]
 · refine⟨v1,v2,?_,by omega,by omega,by omega⟩
   have e0:(Int.gcd a b:Int)=v0:=by omega
   rw[e0]
   refine z3x (f := .nw) rfl (pre (run (ρ':=[.sh false (.int a),.sh false (.int b),.sh true (L [v0,v1,v2]),.sh true (L [0,w1,w2]),d4,d5]) ?_ (by simp[cOf,T]))) rfl
   generalize [v0,v1,v2]=vs at *
   simp[cOf,at0,h0]
theorem zoa(a b:List Int)(x y:Int):addR (sclR x a) (sclR y b)=St.lin x a y b:=by
 unfold addR sclR St.lin
 rw[List.zipWith_map]
theorem zkL(a b:List Int)(x y:Int):subR (sclR x a) (sclR y b)=St.lin x a (-y) b:=by
 unfold subR sclR St.lin
 rw[List.zipWith_map]
 congr 1
 funext p q
 rw[Int.neg_mul];omega
theorem z5L{q:Int}{r:List Int}{m k:Nat}(h1:q.natAbs<2 ^ m)(h2:St.Lt (2 ^ k) r)(h:m+k≤134217728):∀ x∈r,z17 q x=true:=fun x hx=>by
 obtain⟨i,rfl⟩:=zij hx
 exact z43 h1 (h2 i) h
theorem zeg{n e q:Nat}(r left:List Int)(hr:r.length=n)(hl:left.length=n)(hh:St.z02 r<n)(hp:0<St.hd r)(h1:St.hd r<2 ^ e)(h2:0≤St.at0 left (St.z02 r))(h3:St.at0 left (St.z02 r)<St.hd r)(he:e≤8990)(s1:St.Lt (2 ^ q) r)(s2:St.Lt (2 ^ q) left)(hq:q≤100000000):
  ∃ g x y,z34 [L r,L left]=some (.tup [L (St.z0J r left x y),L (St.z1j r left g)])∧0<g∧g∣St.hd r∧g∣St.at0 left (St.z02 r)∧St.hd r*x+St.at0 left (St.z02 r)*y=g∧x.natAbs<2 ^ (e+2)∧y.natAbs<2 ^ (e+2):=by
 have cast:((2 ^ e:Nat):Int)=(2:Int) ^ e:=by norm_cast
 have a1:(St.hd r).natAbs<2 ^ e:=by omega
 have a2:(St.at0 left (St.z02 r)).natAbs<2 ^ e:=by omega
 obtain⟨x,y,eb,exy,bx,bY⟩:=zaN (St.hd r) (St.at0 left (St.z02 r)) e (by omega) a1 a2
 have g0:0<Int.gcd (St.hd r) (St.at0 left (St.z02 r)):=Int.gcd_pos_of_ne_zero_left _ (by omega)
 have d1:(Int.gcd (St.hd r) (St.at0 left (St.z02 r)):Int)∣St.hd r:=Int.gcd_dvd_left _ _
 have d2:(Int.gcd (St.hd r) (St.at0 left (St.z02 r)):Int)∣St.at0 left (St.z02 r):=Int.gcd_dvd_right _ _
 generalize eg:(Int.gcd (St.hd r) (St.at0 left (St.z02 r)):Int)=g at *
 have g0:0<g:=by omega
 have p2:2 ^ (e+2)=4*2 ^ e:=by rw[Nat.pow_add];omega
 have x1:x.natAbs<2 ^ (e+2):=by omega
 have y1:y.natAbs<2 ^ (e+2):=by omega
 refine⟨g,x,y,?_,g0,d1,d2,exy,x1,y1⟩
 have gle:g≤St.hd r:=Int.le_of_dvd hp d1
 have g9:g<2 ^ 9000:=by
  have h9:(2:Nat) ^ e≤2 ^ 9000:=Nat.pow_le_pow_right (by decide) (by omega)
  have:((2 ^ 9000:Nat):Int)=(2:Int) ^ 9000:=by norm_cast
  omega
 have dv1:z26 (St.hd r) g=true:=z44 g0 g9
 have dv2:z26 (St.at0 left (St.z02 r)) g=true:=z44 g0 g9
 have k1:((St.hd r).fdiv g).natAbs<2 ^ (e+2):=by have:=St.z3W (St.hd r) g0;omega
 have k2:((St.at0 left (St.z02 r)).fdiv g).natAbs<2 ^ (e+2):=by have:=St.z3W (St.at0 left (St.z02 r)) g0;omega
 have t1:=z9q (r:=r) (k:=St.z02 r) (by omega)
 have t2:=z9q (r:=left) (k:=St.z02 r) (by omega)
 have t1:atI (r.map Dt.int) (St.z02 r:Int)=some (.int (St.hd r)):=t1
 have e1:=z22 r x (z5L x1 s1 (by omega))
 have e2:=z22 left y (z5L y1 s2 (by omega))
 have e3:=z22 left ((St.hd r).fdiv g) (z5L k1 s2 (by omega))
 have e4:=z22 r ((St.at0 left (St.z02 r)).fdiv g) (z5L k2 s1 (by omega))
 have e5:=z9o (sclR x r) (sclR y left) (by rw[z0z,z0z];omega)
 have e6:=z9p (sclR ((St.hd r).fdiv g) left) (sclR ((St.at0 left (St.z02 r)).fdiv g) r) (by rw[z0z,z0z];omega)
 rw[zoa]at e5
 rw[zkL]at e6
 have hT:T [g,x,y] = .tup [.int g,.int x,.int y]:=rfl
 have nT:∀ f,nrm f (.tup [.int g,.int x,.int y])=(.nw,.tup [.int g,.int x,.int y]):=fun f=>nrm_T f [g,x,y]
 rw[hT]at eb
 unfold z34 z7w
 have eL:St.z1j r left g=St.lin ((St.hd r).fdiv g) left (-((St.at0 left (St.z02 r)).fdiv g)) r:=rfl
 simp[cOf,z0Z,t1,t2,eb,nT,dv1,dv2,e1,e2,e3,e4,e5,e6,St.z0J,eL]
theorem zc1{n q:Nat}(left:List Int)(hl:left.length=n)(hh:St.z02 left<n):z1h [L left]=some (L (if St.at0 left (St.z02 left)<0 then sclR (-1) left else left)):=by
 have t2:=z9q (r:=left) (k:=St.z02 left) (by omega)
 have e1:=z22 left (-1) (fun x _=>z2W (by decide))
 unfold z1h z54
 by_cases h:St.at0 left (St.z02 left)<0
 · simp[cOf,z0Z,t2,h,e1]
 · simp[cOf,z0Z,t2,h,z2q]
def z1O(S:List (List Int)):List (List Int):=(z2G (S.map fun r=>((St.z02 r:Int),r))).map (·.2)
theorem z6G(S:List (List Int)):(z1O S).Perm S:=by
 have:=(z1U (S.map fun r=>((St.z02 r:Int),r))).map (·.2)
 rw[List.map_map]at this
 have e:S.map ((fun x:Int×List Int=>x.2)∘fun r=>((St.z02 r:Int),r))=S:=by
  have:((fun x:Int×List Int=>x.2)∘fun r:List Int=>((St.z02 r:Int),r))=id:=rfl
  rw[this,List.map_id]
 rw[e]at this
 exact this
theorem z9s(S:List (List Int))(hn:(S.map St.z02).Nodup):((z1O S).map St.z02).Pairwise (·<·):=by
 have h1:((z1O S).map St.z02).Pairwise (·≤·):=by
  have q:=z4n (S.map fun r=>((St.z02 r:Int),r))
  have mem:∀ p∈z2G (S.map fun r=>((St.z02 r:Int),r)),p.1=(St.z02 p.2:Int):=fun p hp=>by
   obtain⟨r,_,rfl⟩:=List.mem_map.mp ((z1U _).mem_iff.mp hp)
   rfl
  unfold z1O
  rw[List.map_map,List.pairwise_map]
  refine List.Pairwise.imp_of_mem (fun{a b} ha hb hab=>?_) q
  have e1:=mem a ha
  have e2:=mem b hb
  show St.z02 a.2≤St.z02 b.2
  have hab:a.1≤b.1:=hab
  omega
 have h2:((z1O S).map St.z02).Nodup:=((z6G S).map St.z02).nodup_iff.mpr hn
 exact(List.pairwise_and_iff.mpr ⟨h1,h2⟩).imp fun{a b} ⟨p,q⟩=>by omega
theorem z9t:∀ S:List (List Int),z2p z0h (S.map L)=some (S.map fun r=>(St.z02 r:Int))
 | []=>rfl
 | r::S=>by rw[List.map_cons,z2p,z0Z,z9t S];rfl
theorem zjp(S:List (List Int)):(z2G ((S.map fun r=>(St.z02 r:Int)).zip (S.map L))).map (·.2)=(z1O S).map L:=by
 have e:(S.map fun r=>(St.z02 r:Int)).zip (S.map L)=(S.map fun r=>((St.z02 r:Int),r)).map fun q=>(q.1,L q.2):=by
  rw[List.zip_map,List.map_map]
  have:S.zip S=S.map fun r=>(r,r):=by
   induction S with
   | nil=>rfl
   | cons r S ih=>rw[List.zip_cons_cons,ih];rfl
  rw[this,List.map_map]
  rfl
 rw[e,z5x]
 unfold z1O
 rw[List.map_map,List.map_map]
 rfl
def z1q:Nat→List (List Int)→List (Nat×List Int)
 | _,[]=>[]
 | j,r::S=>(j,r)::z1q (j+1) S
theorem z45:∀(j:Nat) (S:List (List Int)),z2V j (S.map L)=(z1q j S).map fun p => .tup [.int p.1,L p.2]
 | j,[]=>rfl
 | j,r::S=>by rw[List.map_cons,z2V,z1q,List.map_cons,z45 (j+1) S]
theorem z6d(h:Nat):∀(j:Nat) (S:List (List Int)),(∀ r∈S,St.z02 r≠h)→(z1q j S).filter (fun p=>decide (St.z02 p.2=h))=[]
 | j,[],_=>rfl
 | j,r::S,q=>by
  rw[z1q,List.filter_cons,z6d h (j+1) S fun x hx=>q x (List.mem_cons_of_mem _ hx)]
  simp[q r List.mem_cons_self]
theorem zaO(h:Nat):∀(j:Nat) (S1:List (List Int)) (r:List Int) (S2:List (List Int)),St.z02 r=h→((S1++r::S2).map St.z02).Pairwise (·<·)→(z1q j (S1++r::S2)).filter (fun p=>decide (St.z02 p.2=h))=[(j+S1.length,r)]
 | j,[],r,S2,hr,pw=>by
  rw[List.nil_append]at pw ⊢
  rw[List.map_cons,List.pairwise_cons]at pw
  rw[z1q,List.filter_cons,z6d h (j+1) S2 fun x hx=>by have:=pw.1 _ (List.mem_map.mpr ⟨x,hx,rfl⟩);omega]
  simp[hr]
 | j,x::S1,r,S2,hr,pw=>by
  rw[List.cons_append]at pw ⊢
  rw[List.map_cons,List.pairwise_cons]at pw
  have hx:=pw.1 (St.z02 r) (List.mem_map.mpr ⟨r,by simp,rfl⟩)
  rw[z1q,List.filter_cons,zaO h (j+1) S1 r S2 hr pw.2]
  simp[show St.z02 x≠h by omega]
  omega
theorem zaP(S:List (List Int))(left:List Int)(c0 c1 c4 c5:Cell)(f:Bool):z0e 2 [3] (z3f (fN 2)) (Tg.many [0,1]) (z0o (fOp opEq (z06 true z0h (z01 (fN 1) fNil)) (z06 true z0h (z01 (fN 2) fNil)))) (fN 0) [c0,c1,.ow f (S.map L),.sh true (L left),c4,c5] =
   some (.nw,.lst (((z1q 0 S).filter fun p=>decide (St.z02 p.2=St.z02 left)).map fun p => .int (p.1:Int))):=by
 refine z6s (e:=fun p:Nat×List Int => .tup [.int p.1,L p.2]) (h:=fun p => .int (p.1:Int)) (p:=fun p=>decide (St.z02 p.2=St.z02 left)) (xs:=z1q 0 S) ?_ (fun x hx=>?_) (fun x hx _=>?_)
 · cases f<;>simp[cOf,z45]
 · simp[cOf,z0Z,z0C]
   omega
 · simp[cOf]
abbrev WC:FT:=z0o (fOp opLt (z06 true z0h (z01 (fN 3) fNil)) (fBlt bLen (z01 (fN 3) fNil)))
abbrev WF:FS:=(sSeq (z2E 4 (z0e 2 [3] (z3f (fN 2)) (Tg.many [0,1]) (z0o (fOp opEq (z06 true z0h (z01 (fN 1) fNil)) (z06 true z0h (z01 (fN 2) fNil)))) (fN 0)))
 (sSeq (sIf (z0o (fOp opEq (fBlt bLen (z01 (fN 4) fNil)) (fC (.int 0)))) (sRet (z63 z0h (fOp z0x (fN 2) (fLst (z01 (z06 true z1h (z01 (fN 3) fNil)) fNil))))) z0y)
 (sSeq (z2E 5 (z06 true z34 (z01 (fAt (fN 2) (fAt (fN 4) (fC (.int 0)))) (z01 (fN 3) fNil))))
 (sSeq (sPut 2 (fAt (fN 4) (fC (.int 0))) (fAt (fN 5) (fC (.int 0))))
 (z2E 3 (z06 true z13 (z01 (fAt (fN 5) (fC (.int 1))) (z01 (fN 2) fNil))))))))
theorem zkM(S:List (List Int))(t:List Int)(h:S.length<60):z0x (.lst (S.map L)) (.lst [L t])=some (newL ((S++[t]).map L)):=by
 have:z0x (.lst (S.map L)) (.lst [L t])=z6o (.lst (S.map L)) (.lst [L t]):=rfl
 rw[this,z6o,if_pos (by simp;omega)]
 simp
theorem zkN(S:List (List Int))(left t:List Int)(c0 c1 c4 c5:Cell)(f:Bool)(hn:∀ r∈S,St.z02 r≠St.z02 left)(ht:z1h [L left]=some (L t))(hh:((S++[t]).map St.z02).Nodup)(h60:S.length<60):
  ∃ fl,WF [c0,c1,.ow f (S.map L),.sh true (L left),c4,c5]=some (.rt fl (LL (z1O (S++[t])))):=by
 have pl:=zaP S left c0 c1 c4 c5 f
 rw[z6d _ 0 S hn]at pl
 have st:z63 z0h (fOp z0x (fN 2) (fLst (z01 (z06 true z1h (z01 (fN 3) fNil)) fNil))) [c0,c1,.ow f (S.map L),.sh true (L left),.sh true (.lst []),c5]=some (newL ((z1O (S++[t])).map L)):=by
  have e1:fOp z0x (fN 2) (fLst (z01 (z06 true z1h (z01 (fN 3) fNil)) fNil)) [c0,c1,.ow f (S.map L),.sh true (L left),.sh true (.lst []),c5]=some (newL ((S++[t]).map L)):=by
   have:=zkM S t h60
   simp[cOf,ht,this]
  unfold z63
  rw[e1]
  have k1:=z9t (S++[t])
  have nd:((S++[t]).map fun r=>(St.z02 r:Int)).Nodup:=by
   have:((S++[t]).map fun r=>(St.z02 r:Int))=((S++[t]).map St.z02).map (fun n:Nat=>(n:Int)):=by rw[List.map_map];rfl
   rw[this]
   exact List.Pairwise.map _ (fun a b hab e=>hab (by omega)) hh
  show(z2p z0h ((S++[t]).map L)).bind _=_
  rw[k1,z0n,if_pos ⟨by simp;omega,nd⟩,zjp]
 refine⟨lfl ((z1O (S++[t])).map L),?_⟩
 have e1:z2E 4 (z0e 2 [3] (z3f (fN 2)) (Tg.many [0,1]) (z0o (fOp opEq (z06 true z0h (z01 (fN 1) fNil)) (z06 true z0h (z01 (fN 2) fNil)))) (fN 0)) [c0,c1,.ow f (S.map L),.sh true (L left),c4,c5]=some (.nx [c0,c1,.ow f (S.map L),.sh true (L left),.sh true (.lst []),c5]):=by
  unfold z2E
  rw[pl]
  rfl
 refine run e1 ?_
 have e2:sIf (z0o (fOp opEq (fBlt bLen (z01 (fN 4) fNil)) (fC (.int 0)))) (sRet (z63 z0h (fOp z0x (fN 2) (fLst (z01 (z06 true z1h (z01 (fN 3) fNil)) fNil))))) z0y [c0,c1,.ow f (S.map L),.sh true (L left),.sh true (.lst []),c5]=some (.rt (lfl ((z1O (S++[t])).map L)) (LL (z1O (S++[t])))):=by
  have c:z0o (fOp opEq (fBlt bLen (z01 (fN 4) fNil)) (fC (.int 0))) [c0,c1,.ow f (S.map L),.sh true (L left),.sh true (.lst []),c5]=some true:=by simp[cOf,z0C]
  unfold sIf
  rw[c,z0n,if_pos rfl,sRet,st]
  rfl
 unfold sSeq
 rw[e2]
 rfl
theorem zeh(S1 S2:List (List Int))(r left up lo:List Int)(c0 c1 c4 c5:Cell)(f:Bool)(hh:St.z02 r=St.z02 left)(pw:((S1++r::S2).map St.z02).Pairwise (·<·))(hc:z34 [L r,L left]=some (.tup [L up,L lo]))(res:List Int)(hl:z13 [L lo,LL (S1++up::S2)]=some (L res)):
   ∃ d4 d5,WF [c0,c1,.ow f ((S1++r::S2).map L),.sh true (L left),c4,c5]=some (.nx [c0,c1,.ow f ((S1++up::S2).map L),.sh true (L res),d4,d5]):=by
 have pl:=zaP (S1++r::S2) left c0 c1 c4 c5 f
 rw[zaO _ 0 S1 r S2 hh pw]at pl
 have pl:z0e 2 [3] (z3f (fN 2)) (Tg.many [0,1]) (z0o (fOp opEq (z06 true z0h (z01 (fN 1) fNil)) (z06 true z0h (z01 (fN 2) fNil)))) (fN 0) [c0,c1,.ow f ((S1++r::S2).map L),.sh true (L left),c4,c5]=some (.nw,.lst [.int (S1.length:Int)]):=by rw[pl];simp
 refine⟨.sh true (.lst [.int (S1.length:Int)]),.sh true (.tup [L up,L lo]),?_⟩
 have at1:atI ((S1++r::S2).map L) (S1.length:Int)=some (L r):=z4e (by simp)
 have ix:ixN ((S1++r::S2).map L).length (S1.length:Int)=some S1.length:=by
   unfold ixN
   rw[if_pos (by omega),if_pos (by simp;omega)];simp
 have set1:((S1++r::S2).map L).set S1.length (L up)=(S1++up::S2).map L:=by
   rw[List.map_append,List.map_append,List.set_append]
   simp
 have hl:z13 [L lo,.lst ((S1++up::S2).map L)]=some (L res):=hl
 generalize (S1++r::S2).map L=D at *
 generalize (S1++up::S2).map L=D' at *
 have e1:z2E 4 (z0e 2 [3] (z3f (fN 2)) (Tg.many [0,1]) (z0o (fOp opEq (z06 true z0h (z01 (fN 1) fNil)) (z06 true z0h (z01 (fN 2) fNil)))) (fN 0)) [c0,c1,.ow f D,.sh true (L left),c4,c5]=some (.nx [c0,c1,.ow f D,.sh true (L left),.sh true (.lst [.int (S1.length:Int)]),c5]):=by
   unfold z2E
   rw[pl]
   rfl
 refine run e1 (run (ρ':=[c0,c1,.ow f D,.sh true (L left),.sh true (.lst [.int (S1.length:Int)]),c5]) ?_ (run (ρ':=[c0,c1,.ow f D,.sh true (L left),.sh true (.lst [.int (S1.length:Int)]),.sh true (.tup [L up,L lo])]) ?_ (run (ρ':=[c0,c1,.ow f D',.sh true (L left),.sh true (.lst [.int (S1.length:Int)]),.sh true (.tup [L up,L lo])]) ?_ ?_)))
 · simp[cOf,z0C]
 · simp[cOf,at1,hc]
 · simp[cOf,ix,set1]
 · simp[cOf,hl]
theorem zjq(S:List (List Int))(h:Nat):(∀ r∈S,St.z02 r≠h)∨∃ S1 r S2,S=S1++r::S2∧St.z02 r=h:=by
 by_cases q:∃ r∈S,St.z02 r=h
 · obtain⟨r,hr,e⟩:=q
   obtain⟨S1,S2,rfl⟩:=List.append_of_mem hr
   exact .inr ⟨S1,r,S2,rfl,e⟩
 · exact .inl fun r hr e=>q ⟨r,hr,e⟩
theorem z9u{n e:Nat}{S:List (List Int)}(A:St.Asc n 0 S)(hd:∀ r∈S,St.hd r<2 ^ e)(he:e≤8990):∀ r∈S,r.length=n∧St.z02 r<n∧0<St.hd r∧St.hd r<2 ^ 9000:=fun r hr=>by
 have q:=A.mem hr
 refine⟨q.1,q.2.2.1,q.2.2.2,?_⟩
 have h1:=hd r hr
 have h9:(2:Nat) ^ e≤2 ^ 9000:=Nat.pow_le_pow_right (by decide) (by omega)
 have c1:((2 ^ 9000:Nat):Int)=(2:Int) ^ 9000:=by norm_cast
 have c2:((2 ^ e:Nat):Int)=(2:Int) ^ e:=by norm_cast
 omega
structure Sz(n e eh m0 kk:Nat):Prop where
 n20:n≤20
 e90:eh≤8990
 ehe:eh≤e
 e33:e≤33000
 m0e:m0=e+20*(e+1)
 kke:kk=2*e+3+20*(e+1)
theorem Sz.lim{n e eh m0 kk:Nat}(z:Sz n e eh m0 kk):m0+n*kk≤16000000:=by
 have h1:=z.n20
 have h2:=z.e33
 have h3:=z.m0e
 have h4:=z.kke
 have:n*kk≤20*kk:=Nat.mul_le_mul_right _ h1
 omega
theorem zob{n e eh m0 kk:Nat}(z:Sz n e eh m0 kk)(S0:List (List Int))(v:List Int)(h20:S0.length≤20)(c0 c1:Cell)(f:Bool):∀(k:Nat) (S:List (List Int)) (left:List Int) (c4 c5:Cell),St.Wi n e eh m0 kk S0 v S left→n-St.z02 left≤k →
 (∃ S' left' c4' c5',z19 WC WF (k+1) [c0,c1,.ow f (S.map L),.sh true (L left),c4,c5]=some (.nx [c0,c1,.ow f (S'.map L),.sh true (L left'),c4',c5'])∧St.Post n (e+3+(m0+n*kk)) S0 v S') ∨
 (∃ S' fl,z19 WC WF (k+1) [c0,c1,.ow f (S.map L),.sh true (L left),c4,c5]=some (.rt fl (LL S'))∧St.Post n (e+3+(m0+n*kk)) S0 v S'):=by
 intro k
 induction k using Nat.strongRecOn with
 | _ k IH =>
 intro S left c4 c5 I hk
 have lim:=z.lim
 have hlen:S.length=S0.length:=by have:=congrArg List.length I.heads;simpa using this
 have hc:WC [c0,c1,.ow f (S.map L),.sh true (L left),c4,c5]=some (decide (St.z02 left<n)):=by
   have:(decide ((St.z02 left:Int)<(left.length:Int)))=decide (St.z02 left<n):=by
     have:=I.len
     by_cases h:St.z02 left<n
     · rw[decide_eq_true h,decide_eq_true (by omega)]
     · rw[decide_eq_false h,decide_eq_false (by omega)]
   simp[cOf,z0Z,this]
   have:=I.len
   omega
 rw[z19,hc,z0n]
 by_cases hn:St.z02 left<n
 · rw[decide_eq_true hn,if_pos rfl]
   rcases zjq S (St.z02 left)with no|⟨S1,r,S2,rfl,hr⟩
   · right
     have ht:=zc1 (n:=n) (q:=0) left I.len hn
     generalize et:(if St.at0 left (St.z02 left)<0 then sclR (-1) left else left)=t at ht
     have hne:St.at0 left (St.z02 left)≠0:=St.z6u left (by rw[I.len];exact hn)
     have tc:∃ c:Int,(c=1∨c = -1)∧(∀ k,St.at0 t k=c*St.at0 left k)∧0<St.at0 t (St.z02 left)∧t.length=n:=by
       by_cases h:St.at0 left (St.z02 left)<0
       · rw[if_pos h]at et
         subst et
         have e1:∀ k,St.at0 (sclR (-1) left) k = -1*St.at0 left k:=fun k=>by
          simp only[St.at0,sclR,List.getD,List.getElem?_map]
          cases left[k]?<;>simp
         exact⟨-1,.inr rfl,e1,by rw[e1];omega,by rw[z0z];exact I.len⟩
       · rw[if_neg h]at et
         subst et
         exact⟨1,.inl rfl,fun k=>by omega,by omega,I.len⟩
     obtain⟨c,hc1,hc2,hc3,hc4⟩:=tc
     have th:St.z02 t=St.z02 left:=St.z2r _ _ (fun k hk=>by rw[hc2,St.z0p left k hk];simp) (by omega)
     have nd:((S++[t]).map St.z02).Nodup:=by
       rw[List.map_append,List.nodup_append]
       refine⟨(St.Asc.iff.mp I.asc).2.imp fun{a b} h=>by omega,by simp,fun a ha b hb=>?_⟩
       obtain⟨x,hx,rfl⟩:=List.mem_map.mp ha
       have:=no x hx
       have hb:b=St.z02 t:=by simpa using hb
       omega
     obtain⟨fl,ew⟩:=zkN S left t c0 c1 c4 c5 f no ht nd (by omega)
     refine⟨z1O (S++[t]),fl,by rw[ew];rfl,?_⟩
     refine I.new hn no hc4 c hc1 hc2 hc3 ?_ (z9s _ nd)
     exact(z6G _).trans (List.perm_append_comm)
   · have hm:r∈S1++r::S2:=by simp
     have q:=I.asc.mem hm
     have hcast:((2 ^ e:Nat):Int)=(2:Int) ^ e:=by norm_cast
     have hle:m0+St.z02 left*kk≤m0+n*kk:=by have:=Nat.mul_le_mul_right kk (Nat.le_of_lt hn);omega
     obtain⟨g,x,y,ec,hg,ga,gb,hxy,hx,hy⟩:=zeg (n:=n) (e:=eh) (q:=e+3+(m0+St.z02 left*kk)) r left q.1 I.len q.2.2.1 q.2.2.2 (I.hds r hm) (I.low r hm).1 (I.low r hm).2 z.e90 (I.all r hm) (I.size.mono (Nat.pow_le_pow_right (by decide) (by omega))) (by have:=z.e33;omega)
     have hl2:S1.length+S2.length+1≤20:=by simp at hlen;omega
     obtain⟨I',hlt,lb,hds'⟩:=I.step hr hn hg ga gb hxy (Nat.lt_of_lt_of_le hx (Nat.pow_le_pow_right (by decide) (by have:=z.ehe;omega))) (Nat.lt_of_lt_of_le hy (Nat.pow_le_pow_right (by decide) (by have:=z.ehe;omega))) (by have:=z.m0e;omega) (by
       have:=z.kke
       have:(S1.length+S2.length+1)*(e+1)≤20*(e+1):=Nat.mul_le_mul_right _ hl2
       omega)
     have el:=z6c (n:=n) (m:=m0+n*kk) (L (St.z1j r left g)) (St.z1j r left g) (S1++St.z0J r left x y::S2) (.inl rfl) (by omega) (z9u I'.asc hds' z.e90) (by
       unfold St.z1j;rw[St.z8q (by rw[I.len,q.1])];exact I.len) lb (by simp;omega)
     obtain⟨d4,d5,ew⟩:=zeh S1 S2 r left _ _ c0 c1 c4 c5 f hr (St.Asc.iff.mp I.asc).2 ec _ el
     cases k with
     | zero=>omega
     | succ k =>
       rcases IH k (Nat.lt_succ_self k) _ _ d4 d5 I' (by omega) with⟨S',l',d4',d5',h1,h2⟩|⟨S',fl,h1,h2⟩
       · exact .inl ⟨S',l',d4',d5',by rw[ew];exact h1,h2⟩
       · exact .inr ⟨S',fl,by rw[ew];exact h1,h2⟩
 · rw[decide_eq_false hn]
   exact .inl ⟨S,left,c4,c5,rfl,I.done hn⟩
theorem zd9{n e eh m0 kk:Nat}(z:Sz n e eh m0 kk)(S:List (List Int))(d:Dt)(v:List Int)(hd:RowD d v)(A:St.Asc n 0 S)(hv:v.length=n)(h0:∀ r∈S,St.Lt (2 ^ e) r)(hh:∀ r∈S,St.hd r<2 ^ eh)(hs:St.Lt (2 ^ e) v)(h20:S.length≤20):
   ∃ S',z2v [LL S,d]=some (LL S')∧St.Post n (e+3+(m0+n*kk)) S v S':=by
 have lim:=z.lim
 have hm0:=z.m0e
 have hml:e+S.length*(e+1)≤m0:=by have:S.length*(e+1)≤20*(e+1):=Nat.mul_le_mul_right _ h20;omega
 obtain⟨I,lb⟩:=St.Wi.start (n:=n) (e:=e) (eh:=eh) (s:=e) (m0:=m0) (kk:=kk) A hv h0 hh hs hml (by omega)
 have el:=z6c (n:=n) (m:=m0) d v S hd (by omega) (z9u A I.hds z.e90) hv lb (by omega)
 have el:z13 [d,.lst (S.map L)]=some (L (St.z0i v S)):=el
 have fl:∃ f:Bool,∀ d0:Dt,sOwn 2 (fBlt bLst (z01 (fN 0) fNil)) [.sh false (LL S),.sh false d0,.no,.no,.no,.no]=some (.nx [.sh false (LL S),.sh false d0,.ow f (S.map L),.no,.no,.no]):=by
   cases S with
   | nil=>exact⟨true,fun d0=>by simp[cOf]⟩
   | cons r S=>exact⟨false,fun d0=>by simp[cOf,newL,lfl]⟩
 obtain⟨f,hf⟩:=fl
 have hb:∀ o,z3J WC WF [.sh false (LL S),.sh false d,.ow f (S.map L),.sh true (L (St.z0i v S)),.no,.no]=some o→(∃ S' fl,seqO (sRet (fN 2)) o=some (.rt fl (LL S'))∧St.Post n (e+3+(m0+n*kk)) S v S')→∃ S',z2v [LL S,d]=some (LL S')∧St.Post n (e+3+(m0+n*kk)) S v S':=by
   rintro o ho ⟨S',fl,h1,h2⟩
   refine⟨S',?_,h2⟩
   have e2:z2E 3 (z06 true z13 (z01 (fN 1) (z01 (fN 2) fNil))) [.sh false (LL S),.sh false d,.ow f (S.map L),.no,.no,.no]=some (.nx [.sh false (LL S),.sh false d,.ow f (S.map L),.sh true (L (St.z0i v S)),.no,.no]):=by
    rcases hd with rfl|rfl<;>simp[cOf,el]
   have q:z3l [.sh false (LL S),.sh false d,.no,.no,.no,.no]=some (.rt fl (LL S')):=by
    unfold z3l
    refine run (hf d) (run e2 ?_)
    show(z3J WC WF _).bind (seqO (sRet (fN 2)))=_
    rw[ho]
    exact h1
   unfold z2v cOf
   rw[if_pos (show[LL S,d].length=2 from rfl)]
   show(z3l [.sh false (LL S),.sh false d,.no,.no,.no,.no]).bind _=_
   rw[q]
   rfl
 rcases zob z S v h20 (.sh false (LL S)) (.sh false d) f (n-St.z02 (St.z0i v S)) S (St.z0i v S) .no .no I (Nat.le_refl _) with⟨S',l',d4',d5',h1,h2⟩|⟨S',fl,h1,h2⟩
 · exact hb _ (z5w h1) ⟨S',flOf f,rfl,h2⟩
 · exact hb _ (z5w h1) ⟨S',fl,rfl,h2⟩
theorem z85:∀(A T:List (List Int)),∃ A',St.even (A++T)=A'++St.even T
 | [],T=>⟨[],rfl⟩
 | r::A,T=>by
  obtain⟨A',e⟩:=z85 A T
  exact⟨St.z0i r (St.even (A++T))::A',by rw[List.cons_append,St.even,e];rfl⟩
theorem z9v{n:Nat}:∀{f:Nat} {A T:List (List Int)},St.Asc n f (A++T)→St.Asc n 0 T
 | f,[],T,h=>h.weak (Nat.zero_le _)
 | f,r::A,T,h=>z9v (A:=A) h.2.2.2.2
abbrev EF:FS:=sWrA z8V 1 (z06 true z13 (z01 (fN 2) (z01 (fN 1) fNil)))
theorem zil{n e eh u:Nat}(he:eh≤8990)(he3:e≤33000)(hu:u≤17000000)(c0:Cell)(S:List (List Int))(A:St.Asc n 0 S)(hs:∀ r∈S,St.Lt (2 ^ u) r)(hE:∀ r∈St.even S,St.Lt (2 ^ e) r)(hH:∀ r∈St.even S,St.hd r<2 ^ eh)(h20:S.length≤21)(heu:e≤u):
  ∀(R T:List (List Int)) (c2:Cell),S=R.reverse++T→∃ c2',forF (Tg.one 2) EF (R.map L) [c0,.ow true ((St.even T).map L),c2]=some (.nx [c0,.ow true ((St.even S).map L),c2'])
 | [],T,c2,h=>⟨c2,by rw[h];rfl⟩
 | r::R,T,c2,h=>by
  have h':S=R.reverse++(r::T):=by rw[h];simp
  obtain⟨c2',ih⟩:=zil he he3 hu c0 S A hs hE hH h20 heu R (r::T) (.sh false (L r)) h'
  refine⟨c2',?_⟩
  rw[List.map_cons,z1a]
  have hlen:T.length+1≤21:=by have:=congrArg List.length h';simp at this;omega
  have rm:r∈S:=by rw[h'];simp
  have AT:St.Asc n 0 T:=z9v (A:=R.reverse++[r]) (by rw[List.append_assoc];show St.Asc n 0 (R.reverse++(r::T));rw[←h'];exact A)
  have AE:=(St.z32 AT).1
  obtain⟨A',ea⟩:=z85 (R.reverse++[r]) T
  have sub:∀ x∈St.even T,x∈St.even S:=fun x hx=>by
   rw[h',show R.reverse++(r::T)=(R.reverse++[r])++T by simp,ea]
   exact List.mem_append.mpr (.inr hx)
  have hE':∀ x∈St.even T,St.Lt (2 ^ e) x:=fun x hx=>hE x (sub x hx)
  have hel:(St.even T).length≤20:=by rw[St.z3i];omega
  have hmul:(St.even T).length*(e+1)≤20*(e+1):=Nat.mul_le_mul_right _ hel
  obtain⟨_,lb⟩:=St.z2I (n:=n) (t:=0) (s:=u) (e:=e) (m:=u+20*(e+1)) (S:=St.even T) (left:=r) (fun x hx=>⟨(AE.mem hx).1,(AE.mem hx).2.2.2⟩) (A.mem rm).1 (fun k hk=>by omega) (fun x hx _=>hE' x hx) (hs r rm) (by omega) (by omega)
  have el:=z6c (n:=n) (m:=u+20*(e+1)) (L r) r (St.even T) (.inl rfl) (by omega) (z9u AE (fun x hx=>hH x (sub x hx)) he) (A.mem rm).1 lb (by omega)
  have el:z13 [L r,.lst ((St.even T).map L)]=some (L (St.z0i r (St.even T))):=el
  have e1:(Tg.put (Tg.one 2) (L r) [c0,.ow true ((St.even T).map L),c2]).bind EF=some (.nx [c0,.ow true (L (St.z0i r (St.even T))::(St.even T).map L),.sh false (L r)]):=by
   simp[cOf,el,show(St.even T).length<1000000 by omega]
  rw[e1]
  exact ih
theorem zjr{n e eh u:Nat}(S:List (List Int))(he:eh≤8990)(he3:e≤33000)(hu:u≤17000000)(A:St.Asc n 0 S)(hs:∀ r∈S,St.Lt (2 ^ u) r)(hE:∀ r∈St.even S,St.Lt (2 ^ e) r)(hH:∀ r∈St.even S,St.hd r<2 ^ eh)(h20:S.length≤21)(heu:e≤u):z55 [LL S]=some (LL (St.even S)):=by
 obtain⟨c2,q⟩:=zil he he3 hu (.sh false (LL S)) S A hs hE hH h20 heu S.reverse [] .no (by simp)
 have q:forF (Tg.one 2) EF (S.map L).reverse [.sh false (LL S),.ow true [],.no]=some (.nx [.sh false (LL S),.ow true ((St.even S).map L),c2]):=by rw[←List.map_reverse];exact q
 unfold z55 z9j
 simp[cOf,q]
abbrev CF:FS:=sSet [] 1 (z06 true z55 (z01 (z06 false z2v (z01 (fN 1) (z01 (fN 2) fNil))) fNil))
theorem z9w{n e eh B:Nat}(ed:List Int→Dt)(hed:∀ r,RowD (ed r) r)(hn:n≤20)(he:eh≤8990)(hee:eh≤e)(he3:e≤33000)(all:List (List Int))(hl:∀ r∈all,r.length=n)(hb:∀ r∈all,St.Lt B r)(hB:0<B)(hBe:B≤2 ^ e)(hbn:∀ k,k≤all.length→St.bnd k B+1≤2 ^ e)(hH:∀ k S,k≤all.length→St.Good n B (all.take k) S→∀ r∈S,St.hd r<2 ^ eh)(h20:all.length≤20)(c0:Cell):
  ∀(todo done:List (List Int)) (S:List (List Int)) (c2:Cell),all=done++todo→St.Good n B done S→∃ S' c2',forF (Tg.one 2) CF (todo.map ed) [c0,.sh true (LL S),c2]=some (.nx [c0,.sh true (LL S'),c2'])∧St.Good n B all S'
 | [],done,S,c2,h,G=>⟨S,c2,rfl,by rw[h,List.append_nil];exact G⟩
 | v::todo,done,S,c2,h,G=>by
  have z:Sz n e eh (e+20*(e+1)) (2*e+3+20*(e+1)):=⟨hn,he,hee,he3,rfl,rfl⟩
  have hdn:all.take done.length=done:=by rw[h];simp
  have hdv:all.take (done.length+1)=done++[v]:=by rw[h,List.take_append,List.take_of_length_le (by omega)];simp
  have hld:done.length+1+todo.length=all.length:=by rw[h];simp;omega
  have hv:v∈all:=by rw[h];simp
  have sub:∀ r∈done,r∈all:=fun r hr=>by rw[h];exact List.mem_append.mpr (.inl hr)
  have small:=G.small (fun r hr=>hb r (sub r hr)) hB
  have len:=G.len
  have small:∀ r∈S,St.Lt (2 ^ e) r:=fun r hr=>(small r hr).mono (hbn _ (by omega))
  obtain⟨S1,e1,P⟩:=zd9 z S (ed v) v (hed v) G.asc (hl v hv) small (hH done.length S (by omega) (by rw[hdn];exact G)) ((hb v hv).mono hBe) (by omega)
  have G':=G.step P
  have small':=G'.small (fun r hr=>by
   rcases List.mem_append.mp hr with hr|hr
   · exact hb r (sub r hr)
   · rw[List.mem_singleton.mp hr];exact hb v hv) hB
  have len':=G'.len
  have len2:(done++[v]).length=done.length+1:=by simp
  have small':∀ r∈St.even S1,St.Lt (2 ^ e) r:=fun r hr=>(small' r hr).mono (hbn _ (by omega))
  have lim:=z.lim
  have e2:=zjr (n:=n) (e:=e) (u:=e+3+(e+20*(e+1)+n*(2*e+3+20*(e+1)))) S1 he he3 (by omega) P.asc P.size small' (hH (done.length+1) _ (by omega) (by rw[hdv];exact G')) (by rw[←St.z3i];omega) (by omega)
  obtain⟨S',c2',ih,GG⟩:=z9w ed hed hn he hee he3 all hl hb hB hBe hbn hH h20 c0 todo (done++[v]) (St.even S1) (.sh false (ed v)) (by rw[h];simp) G'
  refine⟨S',c2',?_,GG⟩
  rw[List.map_cons,z1a]
  have st:(Tg.put (Tg.one 2) (ed v) [c0,.sh true (LL S),c2]).bind CF=some (.nx [c0,.sh true (LL (St.even S1)),.sh false (ed v)]):=by
   have sn:∀ f,(nrm f (ed v)).2=ed v:=fun f=>rfl
   simp[cOf,sn,e1,e2]
  rw[st]
  exact ih
theorem z5e{n e eh B:Nat}(ed:List Int→Dt)(hed:∀ r,RowD (ed r) r)(hn:n≤20)(he:eh≤8990)(hee:eh≤e)(he3:e≤33000)(rows:List (List Int))(d:Dt)(hd:d = .lst (rows.map ed)∨d = .tup (rows.map ed))(hl:∀ r∈rows,r.length=n)(hb:∀ r∈rows,St.Lt B r)(hB:0<B)(hBe:B≤2 ^ e)(hbn:∀ k,k≤rows.length→St.bnd k B+1≤2 ^ e)(hH:∀ k S,k≤rows.length→St.Good n B (rows.take k) S→∀ r∈S,St.hd r<2 ^ eh)(h20:rows.length≤20):
   ∃ S,z21 [d]=some (LL S)∧St.Good n B rows S:=by
 obtain⟨S,c2,q,G⟩:=z9w ed hed hn he hee he3 rows hl hb hB hBe hbn hH h20 (.sh false d) rows [] [] .no rfl St.Good.nil
 refine⟨S,?_,G⟩
 have q:forF (Tg.one 2) CF (rows.map ed) [.sh false d,.sh true (.lst []),.no]=some (.nx [.sh false d,.sh true (LL S),c2]):=q
 unfold z21 z7x
 rcases hd with rfl|rfl
 · simp[cOf,q]
 · simp[cOf,q]
theorem zei{n e B:Nat}(ed:List Int→Dt)(hed:∀ r,RowD (ed r) r)(hn:n≤20)(he:e≤8990)(rows:List (List Int))(d:Dt)(hd:d = .lst (rows.map ed)∨d = .tup (rows.map ed))(hl:∀ r∈rows,r.length=n)(hb:∀ r∈rows,St.Lt B r)(hB:0<B)(hBe:B≤2 ^ e)(hbn:∀ k,k≤rows.length→St.bnd k B+1≤2 ^ e)(h20:rows.length≤20):
 ∃ S,z21 [d]=some (LL S)∧St.Good n B rows S:=z5e (eh:=e) ed hed hn he (Nat.le_refl _) (by omega) rows d hd hl hb hB hBe hbn (fun k S hk G r hr=>by
 have q:=G.small (fun r hr=>hb r (List.mem_of_mem_take hr)) hB r hr (St.z02 r)
 have l:=G.len
 have b:=hbn S.length (by rw[List.length_take]at l;omega)
 have q:(St.hd r).natAbs<St.bnd S.length B+1:=q
 have c2:((2 ^ e:Nat):Int)=(2:Int) ^ e:=by norm_cast
 omega) h20
theorem zkO{n e B:Nat}(k:Int)(bills:List (List Int))(hn:n≤20)(he:e≤8990)(hl:∀ r∈bills,r.length=n)(hb:∀ r∈bills,St.Lt B r)(hB:0<B)(hBe:B≤2 ^ e)(hbn:∀ k,k≤bills.length→St.bnd k B+1≤2 ^ e)(h20:bills.length≤20):
  ∃ S,z5I [z0t k bills]=some (LL S)∧St.Good n B bills S:=by
 obtain⟨S,q,G⟩:=zei (n:=n) (e:=e) (B:=B) T (fun r => .inr rfl) hn he bills (TTu bills) (.inr rfl) hl hb hB hBe hbn h20
 refine⟨S,?_,G⟩
 unfold z5I zbU
 simp[cOf,q]
theorem zej(d:Dt):z1N [d]=some (.bl (isWh d)):=by
 unfold z1N z5K
 cases d<;>simp[cOf,isWh,Dt.flat,nrm]
theorem zda(a:List Int)(n:Int):z4w [L a,.int n]=some (.bl (decide ((a.length:Int)=n))):=by
 unfold z4w z6b
 obtain⟨j,q⟩:=z3T (g:=Tg.one 2) (F:=sIf (fNot (fTru (z06 true z1N (z01 (fN 2) fNil)))) (sRet (fC (.bl false))) z0y) (e:=Dt.int) (R:=fun(_:Unit) (c:Cell)=>[.sh false (L a),.sh false (.int n),c]) (step:=fun _ _=>()) a () .no
   (fun b x j hx=>⟨.sh false (.int x),by simp[cOf,Tg.put,zej,isWh]⟩)
 have q:forF (Tg.one 2) (sIf (fNot (fTru (z06 true z1N (z01 (fN 2) fNil)))) (sRet (fC (.bl false))) z0y) (a.map Dt.int) [.sh false (L a),.sh false (.int n),.no]=some (.nx [.sh false (L a),.sh false (.int n),j]):=q
 by_cases h:(a.length:Int)=n
 · simp[cOf,z15,h,q]
 · simp[cOf,z15,h]
theorem zaQ(a b:List Int)(k:Int)(hl:a.length=b.length)(hs:a.length≤1000)(h:∀ x∈b,z17 k x=true):z41 [L a,L b,.int k]=some (L (addR a (sclR k b))):=by
 unfold z41 z9l
 have q:z0e 1 [0,2,1] (z0m (fBlt bLen (z01 (fN 0) fNil))) (Tg.one 0) fYes (fOp z0x (fAt (fN 1) (fN 0)) (fOp z12 (fN 2) (fAt (fN 3) (fN 0)))) [.sh false (L a),.sh false (L b),.sh false (.int k)]=some (.nw,L (addR a (sclR k b))):=by
  rw[z0j (e:=fun(j:Nat) => .int (0+(j:Int))) (h:=fun(j:Nat) => .int (a.getD j 0+k*b.getD j 0)) (xs:=List.range a.length) (by simp[cOf,z0m,intD,z4p (show a.length≤1000000 by omega),z0M]) (fun j hj=>by
   have hj:=List.mem_range.mp hj
   have e1:=z1D (xs:=a) 0 hj
   have e2:=z1D (xs:=b) (i:=j) 0 (by omega)
   have e3:=h _ (z6t 0 (show j<b.length by omega))
   simp[cOf,Tg.put,sigD,z4M,z3h,e1,e2,e3,-List.getD_eq_getElem?_getD]),zky (fun j=>a.getD j 0+k*b.getD j 0),zkx a b k hl]
 simp[cOf,q]
theorem zkP(n:Nat)(rows:List (List Int))(cs:List Int)(hn:n≤1000)(hm:rows.length≤1000)(hw:Wide n rows)(hl:rows.length=cs.length)(h:∀ r∈rows,∀ c∈cs,∀ x∈r,z17 c x=true):z6F [.int n,LL rows,L cs]=some (L (mixR n rows cs)):=by
 unfold z6F zbX
 have z:z0e 1 [] (z0m (fN 0)) (Tg.one 0) fYes (fC (.int 0)) [.sh false (.int n),.sh false (LL rows),.sh false (L cs),.no,.no]=some (.nw,L (z29 n)):=by
  rw[z0j (e:=fun(k:Nat) => .int (0+(k:Int))) (h:=fun _ => .int 0) (xs:=List.range n) (by simp[cOf,z0m,intD,z4p (show n≤1000000 by omega),z0M]) (fun x _=>by simp[cOf,Tg.put])]
  simp[L,z29,List.map_const']
 obtain⟨hl2,j,q⟩:=z90 (g:=Tg.one 4) (F:=sSet [] 3 (z0e 1 [3,2,4,1] (z0m (fN 0)) (Tg.one 0) fYes (fOp z0x (fAt (fN 1) (fN 0)) (fOp z12 (fAt (fN 2) (fN 3)) (fAt (fAt (fN 4) (fN 3)) (fN 0))))))
  (e:=fun(j:Nat) => .int (0+(j:Int))) (R:=fun(t:List Int) (c:Cell)=>[.sh false (.int n),.sh false (LL rows),.sh false (L cs),.sh true (L t),c]) (step:=fun t j=>addR t (sclR (cs.getD j 0) (rows.getD j []))) (P:=fun t=>t.length=n) (List.range rows.length) (z29 n) .no z1M
  (fun t j c hj ht=>by
   have hj:=List.mem_range.mp hj
   have hr:=z6t [] hj
   have hlr:=hw _ hr
   refine⟨by rw[z1R (by rw[z0z,ht,hlr])];exact ht,.sh false (.int (0+(j:Int))),?_⟩
   have q:z0e 1 [3,2,4,1] (z0m (fN 0)) (Tg.one 0) fYes (fOp z0x (fAt (fN 1) (fN 0)) (fOp z12 (fAt (fN 2) (fN 3)) (fAt (fAt (fN 4) (fN 3)) (fN 0)))) [.sh false (.int n),.sh false (LL rows),.sh false (L cs),.sh true (L t),.sh false (.int (0+(j:Int)))]=some (.nw,L (addR t (sclR (cs.getD j 0) (rows.getD j [])))):=by
    rw[z0j (e:=fun(k:Nat) => .int (0+(k:Int))) (h:=fun(k:Nat) => .int (t.getD k 0+cs.getD j 0*(rows.getD j []).getD k 0)) (xs:=List.range n) (by simp[cOf,z0m,intD,z4p (show n≤1000000 by omega),z0M]) (fun k hk=>by
     have hk:=List.mem_range.mp hk
     have e1:=z1D (xs:=t) (i:=k) 0 (by omega)
     have e2:=z1D (xs:=cs) (i:=j) 0 (by omega)
     have e3:=z1D (xs:=rows) (i:=j) [] hj
     have e4:=z1D (xs:=rows.getD j []) (i:=k) 0 (by omega)
     have e5:=h _ hr _ (z6t 0 (show j<cs.length by omega)) _ (z6t 0 (show k<(rows.getD j []).length by omega))
     simp only[Int.zero_add]at *
     simp[cOf,Tg.put,sigD,z4M,z3h,e1,e2,e3,e4,e5,-List.getD_eq_getElem?_getD]),zky (fun k=>t.getD k 0+cs.getD j 0*(rows.getD j []).getD k 0),←ht,zkx t _ _ (by rw[ht,hlr])]
   simp only[Int.zero_add]at *
   simp[cOf,Tg.put,q,-List.getD_eq_getElem?_getD])
 have q:forF (Tg.one 4) (sSet [] 3 (z0e 1 [3,2,4,1] (z0m (fN 0)) (Tg.one 0) fYes (fOp z0x (fAt (fN 1) (fN 0)) (fOp z12 (fAt (fN 2) (fN 3)) (fAt (fAt (fN 4) (fN 3)) (fN 0)))))) (z1Q 0 rows.length) [.sh false (.int n),.sh false (LL rows),.sh false (L cs),.sh true (L (z29 n)),.no]=some (.nx [.sh false (.int n),.sh false (LL rows),.sh false (L cs),.sh true (L (mixR n rows cs)),j]):=by
  rw[z0M,←ze1 n rows cs hl];exact q
 simp[cOf,z,z0m,intD,z4p (show rows.length≤1000000 by omega),q]
theorem zdb(m j:Nat)(hm:m≤1000):z3k [.int m,.int j]=some (L (St.z3j m j)):=by
 unfold z3k z69
 have q:z0e 1 [1] (z0m (fN 0)) (Tg.one 0) fYes (fIf (z0o (fOp opEq (fN 0) (fN 1))) (fC (.int 1)) (fC (.int 0))) [.sh false (.int m),.sh false (.int j)]=some (.nw,L (St.z3j m j)):=by
  rw[z0j (e:=fun(k:Nat) => .int (0+(k:Int))) (h:=fun k => .int (if k=j then 1 else 0)) (xs:=List.range m) (by simp[cOf,y13 m (by omega),z0M]) (fun k _=>by
   by_cases h:k=j
   · simp[cOf,z0C,h]
   · simp[cOf,z0C,h,show ¬(k:Int)=(j:Int) by omega])]
  rw[zky (fun k=>if k=j then 1 else 0)]
  rfl
 simp[cOf,q]
theorem zim(m:Nat):∀(s:Nat) (bs:List (List Int)),(bs.zip ((List.range' s bs.length).map (St.z3j m))).map (fun p=>p.1++p.2)=St.tagF m s bs
 | s,[]=>rfl
 | s,b::bs=>by rw[List.length_cons,List.range'_succ,List.map_cons,List.zip_cons_cons,List.map_cons,zim m (s+1) bs,St.tagF]
theorem z6H(S:List (List Int))(n:Nat):z0V [LL S,.int n]=some (LL (St.bots n S)):=by
 have q:z0e 1 [1] (iSeq (fN 0)) (Tg.one 0) (z0o (fOp opGe (z06 true z0h (z01 (fN 0) fNil)) (fN 1))) (fSl (fN 0) (z1s (fN 1)) z0A) [.sh false (LL S),.sh false (.int n)]=some (.nw,.lst ((S.filter fun r=>!decide (St.z02 r<n)).map fun r=>L (r.drop n))) :=
  z6s (e:=L) (h:=fun r=>L (r.drop n)) (p:=fun r=>!decide (St.z02 r<n)) (xs:=S) (by simp[cOf]) (fun r hr=>by
   by_cases h:St.z02 r<n
   · simp[cOf,z0Z,h]
   · simp[cOf,z0Z,h];omega) (fun r hr _=>by
   simp[cOf,z4S,z2a])
 unfold z0V z2w
 simp[cOf,q,St.bots]
structure Hall(n:Nat)(bills:List (List Int)):Prop where
 n1:1≤n
 n6:n≤6
 m8:bills.length≤8
 wide:∀ r∈bills,r.length=n
 small:∀ r∈bills,∀ x∈r,x.natAbs<10 ^ 30
theorem Hall.lt{n:Nat}{bills:List (List Int)}(H:Hall n bills):∀ r∈bills,St.Lt (10 ^ 30) r:=fun r hr=>St.z3X (by decide) (H.small r hr)
theorem zek{n:Nat}{bills:List (List Int)}(H:Hall n bills):∃ S,z5I [z0t n bills]=some (LL S)∧St.Good n (10 ^ 30) bills S∧∀ r∈S,St.Lt (2 ^ 900) r:=by
 have m8:=H.m8
 have n6:=H.n6
 obtain⟨S,es,G⟩:=zkO (n:=n) (e:=900) (B:=10 ^ 30) n bills (by omega) (by omega) H.wide H.lt (by decide) (by decide) (fun k hk=>St.bnd30 k (by omega)) (by omega)
 have:=G.len
 exact⟨S,es,G,fun r hr=>(G.small H.lt (by decide) r hr).mono (St.bnd30 _ (by omega))⟩
theorem hd_lt{n e:Nat}{S:List (List Int)}(A:St.Asc n 0 S)(h:∀ r∈S,St.Lt (2 ^ e) r):∀ r∈S,St.hd r<2 ^ e:=fun r hr=>by
 have h1:=h r hr (St.z02 r)
 have h3:(St.hd r).natAbs<2 ^ e:=h1
 have:((2 ^ e:Nat):Int)=(2:Int) ^ e:=by norm_cast
 omega
theorem copies(bills:List (List Int))(ρ:Rho)(F:FE)(f:Fl)(h:F ρ=some (f,LL bills)):z0e 1 [] (iSeq F) (Tg.one 0) fYes (fBlt bLst (z01 (fN 0) fNil)) ρ=some (.nw,LL bills) :=
 z0j (e:=L) (h:=L) (xs:=bills) (by unfold iSeq;rw[h];rfl) (fun x hx=>by simp[cOf])
theorem zel(ns:List Int):Hall (z1k ns) (z28 ns):=⟨(z65 ns).1,(z65 ns).2,by rw[zcK];exact zaz ns,zbN ns,ze2 ns⟩
theorem Hall.made{n:Nat}{bills:List (List Int)}(H:Hall n bills):z3Y [.int n,LL bills]=some (z0t n bills):=zef n bills H.n1 H.n6 H.m8 H.wide H.small
structure Bask(n:Nat)(bills:List (List Int))(one other:List Int)(b:Bool):Prop where
 l1:one.length=n
 l2:other.length=n
 s1:St.Lt (2 ^ 100) one
 s2:St.Lt (2 ^ 210) other
 sp:b=true→∃ uses:List Int,uses.length=bills.length∧(∀ x∈uses,x.natAbs<10 ^ 30)∧other=addR one (mixR n bills uses)
theorem zkQ{a b:List Int}{s:Nat}(h:a.length=b.length)(ha:St.Lt (2 ^ s) a)(hb:St.Lt (2 ^ s) b):St.Lt (2 ^ (s+1)) (addR a b):=fun k=>by
 rw[z3B h,Nat.pow_succ]
 have:=ha k
 have:=hb k
 omega +splitDisjunctions
theorem mix_lt{n:Nat}{bills:List (List Int)}{uses:List Int}(H:Hall n bills)(hu:∀ x∈uses,x.natAbs<10 ^ 30):St.Lt (2 ^ 205) (mixR n bills uses):=fun k=>by
 rw[zd3 H.wide]
 have q:=St.z8s (N:=10 ^ 30) (B:=10 ^ 30) (R:=bills) (cs:=uses) H.lt (fun c hc=>Nat.le_of_lt (hu c hc)) k
 have m8:=H.m8
 have:bills.length*(10 ^ 30*10 ^ 30)≤8*(10 ^ 30*10 ^ 30):=Nat.mul_le_mul_right _ m8
 have:8*(10 ^ 30*10 ^ 30)<2 ^ 205:=by decide
 omega
theorem zkR{k:Int}(h0:0≤k)(h3:k<3):atI [Dt.int 0,Dt.int 1,Dt.int 2] k=some (.int k):=by
 have:k=0∨k=1∨k=2:=by omega
 rcases this with rfl|rfl|rfl<;>rfl
abbrev BkT:FT:=z0o (fOp opEq (fOp z1y (z06 true z0s (z01 (fN 0) (z01 (fC (.int 4)) fNil))) (fC (.int 2))) (fC (.int 1)))
abbrev BkI:FS:=(sSeq (sSet [] 5 (z06 true z1T (z01 (fN 0) (z01 (fC (.int 52)) (z01 (fBlt bLen (z01 (fN 2) fNil)) (z01 (fOp z1y (z06 true z0s (z01 (fN 0) (z01 (fC (.int 7)) fNil))) (fC (.int 2))) fNil))))))
 (sSet [] 4 (z06 true z41 (z01 (fN 3) (z01 (z06 true z6F (z01 (fN 1) (z01 (fN 2) (z01 (fN 5) fNil)))) (z01 (fC (.int 1)) fNil))))))
abbrev BkR:FS:=(sRet (fTup (z01 (fN 3) (z01 (fN 4) (z01 (fOp opEq (fOp z1y (z06 true z0s (z01 (fN 0) (z01 (fC (.int 4)) fNil))) (fC (.int 2))) (fC (.int 1))) fNil)))))
theorem zc2(ns:List Int){n:Nat}{bills:List (List Int)}(H:Hall n bills):∃ one other b,z5c [.scr ns,.int n,LL bills]=some (.tup [L one,L other,.bl b])∧Bask n bills one other b:=by
 have n6:=H.n6
 have m8:=H.m8
 have c4:=z0W ns 4 (by decide)
 have c5:=z0W ns 5 (by decide)
 have c6:=z0W ns 6 (by decide)
 have c7:=z0W ns 7 (by decide)
 have r5:=z0U (z0g ns 5) (show(0:Int)<3 by decide)
 have r6:=z0U (z0g ns 6) (show(0:Int)<3 by decide)
 have r7:=z0U (z0g ns 7) (show(0:Int)<2 by decide)
 have e1:=z5d ns 40 n ((z0g ns 5).fmod 3) (by decide) (by omega) r5.1 r5.2
 have e2:=z5d ns 46 n ((z0g ns 6).fmod 3) (by decide) (by omega) r6.1 r6.2
 have e3:=z5d ns 52 bills.length ((z0g ns 7).fmod 2) (by decide) (by omega) (by omega) (by omega)
 have l1:=z3V ns 40 n ((z0g ns 5).fmod 3)
 have l2:=z3V ns 46 n ((z0g ns 6).fmod 3)
 have l3:=z3V ns 52 bills.length ((z0g ns 7).fmod 2)
 have b1:=z4R ns 40 n ((z0g ns 5).fmod 3)
 have b2:=z4R ns 46 n ((z0g ns 6).fmod 3)
 have b3:=z4R ns 52 bills.length ((z0g ns 7).fmod 2)
 generalize z3w ns 40 n ((z0g ns 5).fmod 3)=one at *
 generalize z3w ns 46 n ((z0g ns 6).fmod 3)=other at *
 generalize z3w ns 52 bills.length ((z0g ns 7).fmod 2)=uses at *
 have a5:=zkR r5.1 r5.2
 have a6:=zkR r6.1 r6.2
 have m5:z3a (z0g ns 5) 3=true:=z33 (by decide)
 have m6:z3a (z0g ns 6) 3=true:=z33 (by decide)
 have m7:z3a (z0g ns 7) 2=true:=z33 (by decide)
 have m4:z3a (z0g ns 4) 2=true:=z33 (by decide)
 have s1:St.Lt (2 ^ 100) one:=(St.z3X (by decide) b1).mono (by decide)
 have s2:St.Lt (2 ^ 210) other:=(St.z3X (by decide) b2).mono (by decide)
 have pre:∀{r:Option Oc},sSeq (sIf BkT BkI z0y) BkR [.sh false (.scr ns),.sh false (.int n),.sh false (LL bills),.sh true (L one),.sh true (L other),.no]=r→z2L (rho0 6 [.scr ns,.int n,LL bills])=r:=fun h=>run (ρ':=[.sh false (.scr ns),.sh false (.int n),.sh false (LL bills),.sh true (L one),.no,.no]) (by simp[cOf,c5,m5,a5,e1]) (run (ρ':=[.sh false (.scr ns),.sh false (.int n),.sh false (LL bills),.sh true (L one),.sh true (L other),.no]) (by simp[cOf,c6,m6,a6,e2]) h)
 have tst:BkT [.sh false (.scr ns),.sh false (.int n),.sh false (LL bills),.sh true (L one),.sh true (L other),.no]=some (decide ((z0g ns 4).fmod 2=1)):=by simp[cOf,c4,m4,z0C]
 by_cases h4:(z0g ns 4).fmod 2=1
 · have sm:=zkP n bills uses (by omega) (by omega) H.wide (by omega) (fun r hr c hc x hx=>mul30 (b3 c hc) (H.small r hr x hx))
   have hml:(mixR n bills uses).length=n:=zcJ H.wide
   have pl:=zaQ one (mixR n bills uses) 1 (by omega) (by omega) (fun x _=>z2W (by decide))
   rw[zo8]at pl
   rw[decide_eq_true h4]at tst
   refine⟨one,addR one (mixR n bills uses),true,?_,l1,by rw[z1R (by omega)];exact l1,s1,?_,fun _=>⟨uses,l3,b3,rfl⟩⟩
   · have st:sIf BkT BkI z0y [.sh false (.scr ns),.sh false (.int n),.sh false (LL bills),.sh true (L one),.sh true (L other),.no]=some (.nx [.sh false (.scr ns),.sh false (.int n),.sh false (LL bills),.sh true (L one),.sh true (L (addR one (mixR n bills uses))),.sh true (L uses)]):=by
      unfold sIf
      rw[tst]
      exact run (ρ':=[.sh false (.scr ns),.sh false (.int n),.sh false (LL bills),.sh true (L one),.sh true (L other),.sh true (L uses)]) (by simp[cOf,c7,m7,e3]) (by simp[cOf,sm,pl])
     have q:∃ f,z2L (rho0 6 [.scr ns,.int n,LL bills])=some (.rt f (.tup [L one,L (addR one (mixR n bills uses)),.bl true]))∧(f.isFr||(Dt.tup [L one,L (addR one (mixR n bills uses)),.bl true]).flat)=true:=⟨.fr,pre (run st (by simp[cOf,c4,m4,z0C,h4])),rfl⟩
     obtain⟨f,q1,q2⟩:=q
     exact z3x rfl q1 q2
   · exact(zkQ (by omega) (s1.mono (by decide:2 ^ 100≤2 ^ 205)) (mix_lt H b3)).mono (by decide)
 · rw[decide_eq_false h4]at tst
   refine⟨one,other,false,?_,l1,l2,s1,s2,fun h=>(nomatch h)⟩
   have st:sIf BkT BkI z0y [.sh false (.scr ns),.sh false (.int n),.sh false (LL bills),.sh true (L one),.sh true (L other),.no]=some (.nx [.sh false (.scr ns),.sh false (.int n),.sh false (LL bills),.sh true (L one),.sh true (L other),.no]):=by
     unfold sIf
     rw[tst]
     rfl
   have q:∃ f,z2L (rho0 6 [.scr ns,.int n,LL bills])=some (.rt f (.tup [L one,L other,.bl false]))∧(f.isFr||(Dt.tup [L one,L other,.bl false]).flat)=true:=⟨.fr,pre (run st (by simp[cOf,c4,m4,z0C,h4])),rfl⟩
   obtain⟨f,q1,q2⟩:=q
   exact z3x rfl q1 q2
theorem Bask.span{n:Nat}{bills:List (List Int)}{one other:List Int}{b:Bool}(q:Bask n bills one other b)(H:Hall n bills)(hb:b=true):Lat.Span (St.vecs bills) (fun k=>St.at0 other k-St.at0 one k):=by
 obtain⟨uses,h1,_,h2⟩:=q.sp hb
 refine Lat.Span.congr (fun k=>?_) (St.ze6 (R:=bills) uses)
 have hml:(mixR n bills uses).length=n:=zcJ H.wide
 rw[h2,z3B (by rw[hml];exact q.l1),zd3 H.wide]
 omega
theorem zin(a p:Int)(hp:0<p):z53 [.int a,.int p]=some (.int (a.fmod p)):=by
 unfold z53 zbT
 simp[cOf,z0C,show ¬p=0 by omega,z33 hp]
def rstR(p:Int)(r:List Int):List Int:=r.map (·.fmod p)
theorem z6I(p:Int)(r:List Int):(rstR p r).length=r.length:=by simp[rstR]
theorem z8w(p:Int)(r:List Int)(k:Nat):St.at0 (rstR p r) k=St.at0 r k-p*(St.at0 r k).fdiv p:=by
 have e:St.at0 (rstR p r) k=(St.at0 r k).fmod p:=by
  unfold St.at0 rstR
  by_cases h:k<r.length
  · simp[List.getD,List.getElem?_eq_getElem h]
  · simp[List.getD,List.getElem?_eq_none (Nat.le_of_not_lt h)]
 rw[e,Int.fmod_def]
theorem zem{p:Int}(hp:0<p){r:List Int}:∀ x∈rstR p r,0≤x∧x<p:=fun x hx=>by
 obtain⟨y,_,rfl⟩:=List.mem_map.mp hx
 exact⟨Int.fmod_nonneg_of_pos y hp,Int.fmod_lt_of_pos y hp⟩
theorem z6J(r:List Int)(p:Int)(hp:0<p):z2D [L r,.int p]=some (L (rstR p r)):=by
 unfold z2D zbV
 have q:z0e 1 [1] (iSeq (fN 0)) (Tg.one 0) fYes (z06 true z53 (z01 (fN 0) (z01 (fN 1) fNil))) [.sh false (L r),.sh false (.int p)]=some (.nw,L (rstR p r)):=by
  rw[z0j (e:=Dt.int) (h:=fun x => .int (x.fmod p)) (xs:=r) (by simp[cOf]) (fun x _=>by
   have:=zin x p hp
   simp[cOf,this])]
  simp[rstR,L]
 simp[cOf,q]
theorem z7A(A:List (List Int))(m:Nat)(h:∀ r∈A,r.length=m)(hm:m≤1000):z2K [LL A,.int m]=some (LL (St.trn m A)):=by
 unfold z2K z9k
 have q:z0e 1 [0] (z0m (fN 1)) (Tg.one 0) fYes (z0e 1 [0] (iSeq (fN 1)) (Tg.one 0) fYes (fAt (fN 0) (fN 1))) [.sh false (LL A),.sh false (.int m)]=some (.nw,LL (St.trn m A)):=by
  rw[z0j (e:=fun(k:Nat) => .int (0+(k:Int))) (h:=fun k=>L (A.map fun r=>St.at0 r k)) (xs:=List.range m) (by simp[cOf,y13 m (by omega),z0M]) (fun k hk=>by
   have hk:=List.mem_range.mp hk
   have i:z0e 1 [0] (iSeq (fN 1)) (Tg.one 0) fYes (fAt (fN 0) (fN 1)) [.sh false (.int (k:Int)),.sh false (LL A)]=some (.nw,L (A.map fun r=>St.at0 r k)):=by
    rw[z0j (e:=L) (h:=fun r => .int (St.at0 r k)) (xs:=A) (by simp[cOf]) (fun r hr=>by
     have e:atI (r.map Dt.int) ((k:Nat):Int)=some (.int (St.at0 r k)):=by
      rw[z3h,z1D 0 (by rw[h r hr];exact hk)];rfl
     simp[cOf,e])]
    simp[L]
   simp[cOf,i])]
  simp[St.trn,LL]
 simp[cOf,q]
abbrev SF:FS:=(sIf (fOr (z0o (fOp opNe (z06 true z0h (z01 (fN 2) fNil)) (fN 1))) (fTru (fBlt bAny (z01 (z0e 1 [] (iSeq (fSl (fN 2) (z1s (fOp z0x (fN 1) (fC (.int 1)))) z0A)) (Tg.one 0) fYes (fOp opNe (fN 0) (fC (.int 0)))) fNil)))) (sRet (fC (.bl false))) z0y)
def z5W(p:Nat×List Int):Prop:=St.z02 p.2=p.1∧∀ x∈p.2.drop (p.1+1),x=0
theorem cut1{α:Type}(xs:List α)(j:Nat):cutD xs (some ((j:Int)+1)) none=xs.drop (j+1):=by
 have:=z4S xs (j+1)
 rwa [show(((j+1:Nat)):Int)=(j:Int)+1 by omega]at this
theorem z9x(c0 c1 c2:Cell)(p:Nat×List Int):(¬z5W p→(Tg.put (Tg.many [1,2]) (.tup [.int p.1,L p.2]) [c0,c1,c2]).bind SF=some (.rt .nw (.bl false)))∧(z5W p→(Tg.put (Tg.many [1,2]) (.tup [.int p.1,L p.2]) [c0,c1,c2]).bind SF=some (.nx [c0,.sh false (.int p.1),.sh false (L p.2)])):=by
 obtain⟨j,r⟩:=p
 have cm:z0e 1 [] (iSeq (fSl (fN 2) (z1s (fOp z0x (fN 1) (fC (.int 1)))) z0A)) (Tg.one 0) fYes (fOp opNe (fN 0) (fC (.int 0))) [c0,.sh false (.int j),.sh false (L r)]=some (.nw,.lst ((r.drop (j+1)).map fun x => .bl (!decide (x=0)))):=by
   rw[z0j (e:=Dt.int) (h:=fun x => .bl (!decide (x=0))) (xs:=r.drop (j+1)) (by
    simp[cOf,cut1,z2a,List.map_drop]) (fun x _=>by simp[cOf,z15])]
 have e:=z3U (fun x:Int=>!decide (x=0)) (r.drop (j+1))
 have q:z5W (j,r)↔St.z02 r=j∧((r.drop (j+1)).map fun x=>!decide (x=0)).any id=false:=by
   unfold z5W
   refine and_congr_right fun _=>?_
   rw[List.any_map,List.any_eq_false]
   simp
 generalize (r.drop (j+1)).map (fun x=>Dt.bl (!decide (x=0)))=D at cm e
 generalize (r.drop (j+1)).map (fun x=>!decide (x=0))=bs at e q
 rw[q]
 by_cases hh:St.z02 r=j
 · cases hb:bs.any id with
   | true=>exact⟨fun _=>by simp[cOf,z0Z,z15,hh,cm,bAny,e,hb],fun h=>by cases h.2⟩
   | false=>exact⟨fun h=>absurd ⟨hh,rfl⟩ h,fun _=>by simp[cOf,z0Z,z15,hh,cm,bAny,e,hb]⟩
 · exact⟨fun _=>by simp[cOf,z0Z,z15,show ¬((St.z02 r:Int)=(j:Int)) by omega],fun h=>absurd h.1 hh⟩
theorem z5f(A:List (List Int)):((∀ p∈z1q 0 A,z5W p)→z1W [LL A]=some (.bl true))∧((∃ p∈z1q 0 A,¬z5W p)→z1W [LL A]=some (.bl false)):=by
 have key:=z7o (g:=Tg.many [1,2]) (F:=SF) (fun p:Nat×List Int => .tup [.int p.1,L p.2]) (fun p=>¬z5W p) (fun j:Cell×Cell=>[.sh false (LL A),j.1,j.2]) .nw (.bl false) (z1q 0 A) (.no,.no)
   (fun p _ j hb=>(z9x _ _ _ p).1 hb) (fun p _ j hb=>⟨(.sh false (.int p.1),.sh false (L p.2)),(z9x _ _ _ p).2 (Classical.not_not.mp hb)⟩)
 rw[←z45]at key
 constructor
 · intro h
   obtain⟨j,e⟩:=key.2 fun p hp (k:¬z5W p)=>k (h p hp)
   unfold z1W z4v
   simp[cOf,e]
 · intro h
   have e:=key.1 h
   unfold z1W z4v
   simp[cOf,e]
theorem z9y(A W:List (List Int)):St.pair A W=(A.zip W).map fun p=>p.1++p.2:=by
 unfold St.pair
 induction A generalizing W with
 | nil=>rfl
 | cons a A ih =>
  cases W with
  | nil=>rfl
  | cons b W=>rw[List.zipWith_cons_cons,List.zip_cons_cons,List.map_cons,ih]
theorem z9z{n e eh B:Nat}(hn:n≤20)(he:eh≤8990)(hee:eh≤e)(he3:e≤33000)(A W:List (List Int))(hlt:A.length=W.length)(hl:∀ x∈St.pair A W,x.length=n)(hb:∀ x∈St.pair A W,St.Lt B x)(hB:0<B)(hBe:B≤2 ^ e)(hbn:∀ k,k≤A.length→St.bnd k B+1≤2 ^ e)
  (hH:∀ k S,k≤A.length→St.Good n B ((St.pair A W).take k) S→∀ r∈S,St.hd r<2 ^ eh) (h20:A.length≤20):∃ S,z1p [LL A,LL W]=some (LL S)∧St.Good n B (St.pair A W) S:=by
 have hlz:(St.pair A W).length=A.length:=St.z2e hlt
 obtain⟨S,q,G⟩:=z5e (n:=n) (e:=e) (eh:=eh) (B:=B) L (fun r => .inl rfl) hn he hee he3 (St.pair A W) (LL (St.pair A W)) (.inl rfl) hl hb hB hBe (fun k hk=>hbn k (by omega)) (fun k S hk=>hH k S (by omega)) (by omega)
 refine⟨S,?_,G⟩
 unfold z1p z3m
 have z:z0e 2 [] (iZip (fN 0) (fN 1)) (Tg.many [0,1]) fYes (fOp z0x (fBlt bLst (z01 (fN 0) fNil)) (fBlt bLst (z01 (fN 1) fNil))) [.sh false (LL A),.sh false (LL W)]=some (.nw,LL (St.pair A W)):=by
  rw[z0j (e:=fun p:List Int×List Int => .tup [L p.1,L p.2]) (h:=fun p=>L (p.1++p.2)) (xs:=A.zip W) (by simp[cOf,hlt,z4Q]) (fun p hp=>by
   have h1:=hl (p.1++p.2) (by rw[z9y];exact List.mem_map.mpr ⟨p,hp,rfl⟩)
   have c:=zcL p.1 p.2 (by simp at h1;omega)
   simp[cOf,c])]
  rw[z9y]
  simp[LL]
 simp[cOf,z,q]
theorem z36:∀{j:Nat} {A:List (List Int)} {p:Nat×List Int},p∈z1q j A↔∃ i,i<A.length∧p=(j+i,A.getD i [])
 | j,[],p=>by simp[z1q]
 | j,r::A,p=>by
  rw[z1q,List.mem_cons,z36]
  constructor
  · rintro(rfl|⟨i,hi,rfl⟩)
    · exact⟨0,by simp,rfl⟩
    · exact⟨i+1,by simpa using hi,by rw[show j+1+i=j+(i+1) by omega];rfl⟩
  · rintro⟨i,hi,rfl⟩
    cases i with
    | zero=>exact .inl rfl
    | succ i=>exact .inr ⟨i,by simpa using hi,by rw[show j+1+i=j+(i+1) by omega];rfl⟩
theorem z7B{r:Nat}{A:List (List Int)}(q:St.Sq r A):(∀ p∈z1q 0 A,z5W p)↔St.Clean r A:=by
 constructor
 · intro h i hi k hn
   have:=(h (0+i,A.getD i []) (z36.mpr ⟨i,by rw[q.len];exact hi,rfl⟩)).2
   rcases Nat.lt_or_gt_of_ne hn with x|x
   · exact q.low x
   · by_cases hk:k<r
     · have hl:(A.getD i []).length=r:=q.rows _ (St.z1f (by rw[q.len];exact hi))
       refine this (St.ent A i k) (List.mem_of_getElem? (i:=k-(0+i+1)) ?_)
       show((A.getD i []).drop (0+i+1))[k-(0+i+1)]?=_
       rw[List.getElem?_drop,show 0+i+1+(k-(0+i+1))=k by omega,List.getElem?_eq_getElem (show k<(A.getD i []).length by rw[hl];exact hk)]
       have e:St.ent A i k=(A.getD i []).getD k 0:=rfl
       rw[e]
       simp[List.getD,List.getElem?_eq_getElem (show k<((A[i]?).getD []).length by have:=hl;simp only[List.getD]at this;rw[this];exact hk)]
     · exact q.far (by omega)
 · intro c p hp
   obtain⟨i,hi,rfl⟩:=z36.mp hp
   rw[q.len]at hi
   refine⟨by show St.z02 (A.getD i [])=0+i;rw[q.head hi];omega,fun x hx=>?_⟩
   obtain⟨j,hj,rfl⟩:=List.getElem_of_mem hx
   rw[List.getElem_drop]
   have:=c i hi (0+i+1+j) (by omega)
   unfold St.ent St.at0 at this
   rw[List.length_drop]at hj
   have hj:0+i+1+j<(A.getD i []).length:=by have hj:j<(A.getD i []).length-(0+i+1):=hj;omega
   rw[List.getD,List.getElem?_eq_getElem hj]at this
   exact this
theorem bnd6(k:Nat)(h:k≤6):St.bnd k (2 ^ 5461)+1≤2 ^ 32900:=by
 have h1:=St.z6x (r:=k) (s:=6) (B:=2 ^ 5461) h (Nat.two_pow_pos _) (by decide)
 have h2:St.bnd 6 (2 ^ 5461)≤2 ^ 32826:=by
  unfold St.bnd
  have a:2*6*2 ^ 5461≤2 ^ 5465:=by
   rw[show(5465:Nat)=4+5461 from rfl,Nat.pow_add]
   exact Nat.mul_le_mul_right _ (by decide)
  have b:=Nat.pow_le_pow_left a 6
  rw[←Nat.pow_mul]at b
  have c:(2:Nat) ^ 32826=2 ^ (5465*6)*2 ^ (6*6):=by rw[←Nat.pow_add]
  rw[c]
  exact Nat.mul_le_mul_right _ b
 have h3:(2:Nat) ^ 32826<2 ^ 32900:=Nat.pow_lt_pow_right (by decide) (by decide)
 omega
structure Mb(r n:Nat)(w:Int):Prop where
 r6:r≤6
 n6:n≤6
 wp:0<w
 wb:w<2 ^ 5400
theorem Mb.lt{r n:Nat}{w x:Int}(b:Mb r n w)(h0:0≤x)(h1:x≤w):x.natAbs<2 ^ 5461:=by
 have:=b.wb
 have h:(2:Nat) ^ 5400≤2 ^ 5461:=Nat.pow_le_pow_right (by decide) (by decide)
 have c:((2 ^ 5400:Nat):Int)=(2:Int) ^ 5400:=by norm_cast
 omega
theorem Mb.hd{r n:Nat}{w x:Int}(b:Mb r n w)(h:x∣w):x<2 ^ 5400:=by
 have:=Int.le_of_dvd b.wp h
 have:=b.wb
 omega
abbrev GC:FT:=fNot (fTru (z06 true z1W (z01 (fN 4) fNil)))
abbrev GF:FS:=(sSeq (sSet [] 6 (z06 true z2K (z01 (z06 true z21 (z01 (z06 true z2K (z01 (fN 4) (z01 (fN 3) fNil))) fNil)) (z01 (fN 3) fNil))))
 (sSeq (sSet [] 7 (z06 true z1p (z01 (fN 6) (z01 (fN 5) fNil))))
 (sSeq (sSet [] 4 (z0e 1 [3] (iSeq (fN 7)) (Tg.one 0) fYes (fSl (fN 0) z0A (z1s (fN 1)))))
 (sSet [] 5 (z0e 1 [3,2] (iSeq (fN 7)) (Tg.one 0) fYes (z06 true z2D (z01 (fSl (fN 0) (z1s (fN 1)) z0A) (z01 (fN 2) fNil))))))))
structure Mw(r n:Nat)(w:Int)(G K A W:List (List Int)):Prop where
 m:St.Mst r n w G K A W
 wb:∀ x∈W,St.Lt (2 ^ 5461) x
theorem zen{r n:Nat}{w:Int}{G K A W:List (List Int)}(b:Mb r n w)(I:Mw r n w G K A W)(c0 c1 c6 c7:Cell)(f2 f3 f4 f5:Bool):
   ∃ T A' W' f4' f5' c6' c7',GF [c0,c1,.sh f2 (.int w),.sh f3 (.int r),.sh f4 (LL A),.sh f5 (LL W),c6,c7]=some (.nx [c0,c1,.sh f2 (.int w),.sh f3 (.int r),.sh f4' (LL A'),.sh f5' (LL W'),c6',c7'])∧Mw r n w G K A' W'∧St.Sq r T∧Lat.SameSpan (St.vecs T) (St.vecs (St.trn r A))∧Lat.SameSpan (St.vecs A') (St.vecs (St.trn r T)):=by
 have r6:=b.r6
 have n6:=b.n6
 have q:=I.m.sq
 have wC:=I.m.whole
 have eA:=fun i k=>q.entryC wC b.wp i k
 have tl:(St.trn r A).length=r:=St.z0X _ _
 have tr:∀ x∈St.trn r A,x.length=r:=fun x hx=>by rw[St.z2Y hx,q.len]
 have B1:=q.below wC
 have mem_lt:∀{P:List (List Int)} {E:Nat},(∀ i k,(St.ent P i k).natAbs<E)→∀ x∈P,St.Lt E x:=fun{P E} h x hx k=>by
   obtain⟨i,hi,rfl⟩:=List.getElem_of_mem hx
   have:=h i k
   unfold St.ent at this
   rwa [show P.getD i []=P[i] by simp[List.getD,List.getElem?_eq_getElem hi]]at this
 have t1:=z7A A r q.rows (by omega)
 obtain⟨T,e1,G1⟩:=z5e (n:=r) (e:=32900) (eh:=5400) (B:=2 ^ 5461) L (fun r => .inl rfl) (by omega) (by decide) (by decide) (by decide) (St.trn r A) (LL (St.trn r A)) (.inl rfl) tr
   (mem_lt fun i k=>by rw[St.z1u q.rows];exact b.lt (eA k i).1 (eA k i).2) (Nat.two_pow_pos _) (Nat.pow_le_pow_right (by decide) (by decide)) (fun k hk=>bnd6 k (by omega))
   (fun k S hk G x hx=>b.hd (B1.heads (by omega) G.asc G.span hx).2) (by omega)
 obtain⟨l1,_⟩:=G1.sq B1
 have sT:St.Sq r T:=⟨G1.asc,G1.form,l1⟩
 have wT:St.z2d r w T:=fun i hi=>G1.span.iff.mpr (wC i hi)
 have eT:=fun i k=>sT.entry wT b.wp i k
 have t2:=z7A T r sT.rows (by omega)
 have wT2:=sT.comm wT
 have B2:=sT.below_pair wT2 I.m.wl I.m.wr
 obtain⟨S,e2,G2⟩:=z9z (n:=r+n) (e:=32900) (eh:=5400) (B:=2 ^ 5461) (by omega) (by decide) (by decide) (by decide) (St.trn r T) W (by rw[St.z0X,I.m.wl]) B2.rows
   (fun x hx k=>by
     obtain⟨i,hi,rfl⟩:=List.getElem_of_mem hx
     have hi':i<r:=by rw[B2.len]at hi;exact hi
     have e:St.at0 ((St.pair (St.trn r T) W)[i]) k=St.ent (St.pair (St.trn r T) W) i k:=by unfold St.ent;simp[List.getD,List.getElem?_eq_getElem hi]
     rw[e,St.z4X (n:=n) (r:=r) (fun x hx=>by rw[St.z2Y hx,sT.len]) (by rw[St.z0X];exact hi') (by rw[I.m.wl];exact hi')]
     split
     · rw[St.z1u sT.rows];exact b.lt (eT k i).1 (eT k i).2
     · exact I.wb _ (St.z1f (by rw[I.m.wl];exact hi')) _)
   (Nat.two_pow_pos _) (Nat.pow_le_pow_right (by decide) (by decide)) (fun k hk=>bnd6 k (by rw[St.z0X]at hk;omega))
   (fun k S hk G x hx=>b.hd (B2.heads (by rw[St.z0X]at hk;omega) G.asc G.span hx).2) (by rw[St.z0X];omega)
 obtain⟨l2,h2⟩:=G2.sq B2
 have M':=I.m.step sT G1.span G2.asc G2.form l2 h2 G2.span
 have hs:=St.z5z (r:=r) G2.span
 rw[St.z5A (fun x hx=>by rw[St.z2Y hx,sT.len]) (by rw[St.z0X,I.m.wl])]at hs
 have len:∀ x∈S,x.length=r+n:=fun x hx=>(G2.asc.mem hx).1
 have k3:∀ d0 d1:Cell,z0e 1 [3] (iSeq (fN 7)) (Tg.one 0) fYes (fSl (fN 0) z0A (z1s (fN 1))) [d0,d1,.sh f2 (.int w),.sh f3 (.int r),.sh f4 (LL A),.sh f5 (LL W),.sh true (LL (St.trn r T)),.sh true (LL S)]=some (.nw,LL (S.map (·.take r))):=fun d0 d1=>by
   rw[z0j (e:=L) (h:=fun x=>L (x.take r)) (xs:=S) (by simp[cOf]) (fun x hx=>by simp[cOf,z92,z4T])]
   simp[LL]
 have k4:∀ d0 d1:Cell,z0e 1 [3,2] (iSeq (fN 7)) (Tg.one 0) fYes (z06 true z2D (z01 (fSl (fN 0) (z1s (fN 1)) z0A) (z01 (fN 2) fNil))) [d0,d1,.sh f2 (.int w),.sh f3 (.int r),.sh true (LL (S.map (·.take r))),.sh f5 (LL W),.sh true (LL (St.trn r T)),.sh true (LL S)]=some (.nw,LL (S.map fun x=>rstR w (x.drop r))):=fun d0 d1=>by
   rw[z0j (e:=L) (h:=fun x=>L (rstR w (x.drop r))) (xs:=S) (by simp[cOf]) (fun x hx=>by
     have:=z6J (x.drop r) w b.wp
     simp[cOf,z4S,z2a,this])]
   simp[LL]
 refine⟨T,S.map (·.take r),S.map fun x=>rstR w (x.drop r),true,true,.sh true (LL (St.trn r T)),.sh true (LL S),?_,⟨?_,?_⟩,sT,G1.span,hs⟩
 · refine run (ρ':=[c0,c1,.sh f2 (.int w),.sh f3 (.int r),.sh f4 (LL A),.sh f5 (LL W),.sh true (LL (St.trn r T)),c7]) ?_ (run (ρ':=[c0,c1,.sh f2 (.int w),.sh f3 (.int r),.sh f4 (LL A),.sh f5 (LL W),.sh true (LL (St.trn r T)),.sh true (LL S)]) ?_ (run (ρ':=[c0,c1,.sh f2 (.int w),.sh f3 (.int r),.sh true (LL (S.map (·.take r))),.sh f5 (LL W),.sh true (LL (St.trn r T)),.sh true (LL S)]) ?_ ?_))
   · simp[cOf,t1,e1,t2]
   · simp[cOf,e2]
   · simp[cOf,k3]
   · simp[cOf,k4]
 · refine M'.rest (W':=S.map fun x=>rstR w (x.drop r)) (by rw[List.length_map,l2]) (fun x hx=>?_) (fun i k=>(St.ent (S.map (·.drop r)) i k).fdiv w) fun i k hi=>?_
   · obtain⟨y,hy,rfl⟩:=List.mem_map.mp hx
     rw[z6I,List.length_drop,len y hy];omega
   · have hi:i<S.length:=by omega
     have x1:St.ent (S.map fun x=>rstR w (x.drop r)) i k=St.at0 (rstR w ((S.getD i []).drop r)) k:=by unfold St.ent;simp[List.getD,List.getElem?_eq_getElem hi]
     have x2:St.ent (S.map (·.drop r)) i k=St.at0 ((S.getD i []).drop r) k:=by unfold St.ent;simp[List.getD,List.getElem?_eq_getElem hi]
     rw[x1,x2,z8w]
 · intro x hx k
   obtain⟨y,hy,rfl⟩:=List.mem_map.mp hx
   by_cases hk:k<(rstR w (y.drop r)).length
   · have:=zem b.wp (r:=y.drop r) (St.at0 (rstR w (y.drop r)) k) (by unfold St.at0;rw[List.getD,List.getElem?_eq_getElem hk];exact List.getElem_mem _)
     exact b.lt this.1 (by omega)
   · rw[St.z1l (by omega)];exact Nat.two_pow_pos _
theorem zeo{r n:Nat}{w:Int}{G K:List (List Int)}(b:Mb r n w)(c0 c1:Cell)(f2 f3:Bool):∀(d t:Nat),t+d=r→∀(a:Nat) (A W:List (List Int)) (f4 f5:Bool) (c6 c7:Cell),Mw r n w G K A W→St.Clean t A→(t<r→St.ent A t t=(a:Int)) →
  ∃ k A' W' f4' f5' c6' c7',z19 GC GF k [c0,c1,.sh f2 (.int w),.sh f3 (.int r),.sh f4 (LL A),.sh f5 (LL W),c6,c7]=some (.nx [c0,c1,.sh f2 (.int w),.sh f3 (.int r),.sh f4' (LL A'),.sh f5' (LL W'),c6',c7'])∧Mw r n w G K A' W'∧St.Clean r A':=by
 intro d
 induction d with
 | zero =>
  intro t ht a A W f4 f5 c6 c7 I c _
  have hc:St.Clean r A:=by rw[←ht];exact c
  have:=(z5f A).1 ((z7B I.m.sq).mpr hc)
  refine⟨1,A,W,f4,f5,c6,c7,?_,I,hc⟩
  have hc:GC [c0,c1,.sh f2 (.int w),.sh f3 (.int r),.sh f4 (LL A),.sh f5 (LL W),c6,c7]=some false:=by simp[cOf,this]
  rw[z19,hc];rfl
 | succ d ihd =>
  intro t ht a
  induction a using Nat.strongRecOn with
  | ind a iha =>
   intro A W f4 f5 c6 c7 I c ha
   have htr:t<r:=by omega
   by_cases hc:St.Clean r A
   · have:=(z5f A).1 ((z7B I.m.sq).mpr hc)
     refine⟨1,A,W,f4,f5,c6,c7,?_,I,hc⟩
     have hc:GC [c0,c1,.sh f2 (.int w),.sh f3 (.int r),.sh f4 (LL A),.sh f5 (LL W),c6,c7]=some false:=by simp[cOf,this]
     rw[z19,hc];rfl
   · have no:∃ p∈z1q 0 A,¬z5W p:=Classical.byContradiction fun k=>hc ((z7B I.m.sq).mp fun p hp=>Classical.byContradiction fun q=>k ⟨p,hp,q⟩)
     have:=(z5f A).2 no
     have hl:GC [c0,c1,.sh f2 (.int w),.sh f3 (.int r),.sh f4 (LL A),.sh f5 (LL W),c6,c7]=some true:=by simp[cOf,this]
     obtain⟨T,A',W',f4',f5',c6',c7',e,I',sT,s1,s2⟩:=zen b I c0 c1 c6 c7 f2 f3 f4 f5
     obtain⟨cl,alt⟩:=St.zcU I.m.sq sT I'.m.sq s1 s2 c htr
     have fin:(∃ k A'' W'' f4'' f5'' c6'' c7'',z19 GC GF k [c0,c1,.sh f2 (.int w),.sh f3 (.int r),.sh f4' (LL A'),.sh f5' (LL W'),c6',c7']=some (.nx [c0,c1,.sh f2 (.int w),.sh f3 (.int r),.sh f4'' (LL A''),.sh f5'' (LL W''),c6'',c7''])∧Mw r n w G K A'' W''∧St.Clean r A''):=by
      rcases alt with h|h
      · by_cases ht2:t+1<r
        · have p:=I'.m.sq.pos ht2
          exact ihd (t+1) (by omega) (St.ent A' (t+1) (t+1)).toNat A' W' f4' f5' c6' c7' I' h fun _=>by omega
        · exact ihd (t+1) (by omega) 0 A' W' f4' f5' c6' c7' I' h fun h=>absurd h ht2
      · have p:=I'.m.sq.pos htr
        have ha:=ha htr
        exact iha (St.ent A' t t).toNat (by omega) A' W' f4' f5' c6' c7' I' cl fun _=>by omega
     obtain⟨k,A2,W2,f42,f52,c62,c72,e2,I2,h2⟩:=fin
     refine⟨k+1,A2,W2,f42,f52,c62,c72,?_,I2,h2⟩
     rw[z19,hl,z0n,if_pos rfl,e]
     exact e2
def MD(M:St.Meas):Dt := .lst (M.map fun x => .tup [L x.1,.int x.2])
def z1S(A W:List (List Int)):St.Meas:=(z1q 0 W).map fun p=>(p.2,St.ent A p.1 p.1)
theorem z7C:∀(j:Nat) (A:List (List Int)),(z1q j A).length=A.length
 | j,[]=>rfl
 | j,r::A=>by rw[z1q,List.length_cons,List.length_cons,z7C]
theorem z7D:∀(j:Nat) (A:List (List Int)) (i:Nat),i<A.length→(z1q j A)[i]?=some (j+i,A.getD i [])
 | j,r::A,0,_=>rfl
 | j,r::A,i+1,h=>by
  rw[z1q,List.getElem?_cons_succ,z7D (j+1) A i (by simpa using h),show j+1+i=j+(i+1) by omega];rfl
theorem z9A(A W:List (List Int)){i:Nat}(h:i<W.length):St.mw (z1S A W) i=W.getD i []∧St.mp (z1S A W) i=St.ent A i i:=by
 unfold St.mw St.mp z1S
 rw[List.getD,List.getElem?_map,z7D 0 W i h,Nat.zero_add]
 exact⟨rfl,rfl⟩
theorem zc3{r:List Int}{k:Nat}(h:k<r.length):atI (r.map Dt.int) (k:Int)=some (.int (St.at0 r k)):=by
 rw[z3h,z1D 0 h];rfl
theorem zep{r n:Nat}{w:Int}{G K A W:List (List Int)}(b:Mb r n w)(I:Mw r n w G K A W):∃ A' W',z5J [LL A,LL W,.int w]=some (MD (z1S A' W'))∧Mw r n w G K A' W'∧St.Clean r A':=by
 have al:=I.m.sq.len
 obtain⟨k,A',W',f4,f5,c6,c7,e,I',hc⟩:=zeo b (.sh false (LL A)) (.sh false (LL W)) false true r 0 (by omega) (St.ent A 0 0).toNat A W false false .no .no I (fun i hi=>by omega) fun h=>by have:=I.m.sq.pos h;omega
 have e:=z5w e
 refine⟨A',W',?_,I',hc⟩
 have cm:∀ d0 d1 d2 d3 d6 d7:Cell,∃ f,z0e 2 [4] (z3f (fN 5)) (Tg.many [0,1]) fYes (fTup (z01 (fN 1) (z01 (fAt (fAt (fN 2) (fN 0)) (fN 0)) fNil))) [d0,d1,d2,d3,.sh f4 (LL A'),.sh f5 (LL W'),d6,d7]=some (f,MD (z1S A' W')):=fun d0 d1 d2 d3 d6 d7=>by
  have key:=z9 (nt:=2) (js:=[4]) (Fi:=z3f (fN 5)) (g:=Tg.many [0,1]) (Fe:=fTup (z01 (fN 1) (z01 (fAt (fAt (fN 2) (fN 0)) (fN 0)) fNil))) (ρ:=[d0,d1,d2,d3,.sh f4 (LL A'),.sh f5 (LL W'),d6,d7]) (e:=fun p:Nat×List Int => .tup [.int p.1,L p.2]) (h:=fun p=>(.sh,.tup [L p.2,.int (St.ent A' p.1 p.1)])) (xs:=z1q 0 W') (by simp[cOf,z45]) (fun p hp=>by
   obtain⟨i,hi,rfl⟩:=z36.mp hp
   rw[I'.m.wl]at hi
   rw[Nat.zero_add]
   have h1:=getD_L A' (k:=i) (by rw[I'.m.sq.len];omega)
   have h2:=zc3 (r:=A'.getD i []) (k:=i) (by rw[I'.m.sq.rows _ (St.z1f (by rw[I'.m.sq.len];omega))];omega)
   have x:St.ent A' i i=St.at0 (A'.getD i []) i:=rfl
   rw[x]
   generalize A'.getD i []=ra at h1 h2 ⊢
   generalize W'.getD i []=rb
   simp[cOf,h1,h2]
   rfl)
  have x:MD (z1S A' W') = .lst ((z1q 0 W').map fun p => .tup [L p.2,.int (St.ent A' p.1 p.1)]):=by
   unfold MD z1S
   rw[List.map_map]
   rfl
  rw[x]
  exact⟨_,key⟩
 obtain⟨f,cm⟩:=cm (.sh false (LL A)) (.sh false (LL W)) (.sh false (.int w)) (.sh true (.int r)) c6 c7
 have q:z3Z [.sh false (LL A),.sh false (LL W),.sh false (.int w),.no,.no,.no,.no,.no]=some (.rt f (MD (z1S A' W'))):=by
  unfold z3Z
  refine run (ρ':=[.sh false (LL A),.sh false (LL W),.sh false (.int w),.sh true (.int r),.no,.no,.no,.no]) (by simp[cOf,al]) (run (ρ':=[.sh false (LL A),.sh false (LL W),.sh false (.int w),.sh true (.int r),.sh false (LL A),.no,.no,.no]) (by simp[cOf];rfl) (run (ρ':=[.sh false (LL A),.sh false (LL W),.sh false (.int w),.sh true (.int r),.sh false (LL A),.sh false (LL W),.no,.no]) (by simp[cOf];rfl) (run e ?_)))
  unfold sRet
  rw[cm]
  rfl
 unfold z5J cOf
 rw[if_pos (show[LL A,LL W,Dt.int w].length=3 from rfl)]
 show(z3Z [.sh false (LL A),.sh false (LL W),.sh false (.int w),.no,.no,.no,.no,.no]).bind _=_
 rw[q]
 rfl
theorem zjs{n:Nat}(w1 w2:List Int)(a b:Int)(h1:w1.length=n)(h2:w2.length=n)(ha:0<a)(hb:0<b)(ba:a<2 ^ 5400)(bb:b<2 ^ 5400)(l1:St.Lt (2 ^ 5461) w1)(l2:St.Lt (2 ^ 5461) w2):
  ∃ g x y a' b' lc,z3n [.tup [L w1,.int a],.tup [L w2,.int b]]=some (.tup [.tup [L (rstR g (addR w1 w2)),.int g],.tup [L (rstR lc (addR (sclR (-y*b') w1) (sclR (x*a') w2))),.int lc]])∧St.Bz g x y a b a' b'∧lc=a'*b∧0<lc∧g∣a:=by
 have cast:((2 ^ 5400:Nat):Int)=(2:Int) ^ 5400:=by norm_cast
 have a1:a.natAbs<2 ^ 5400:=by omega
 have a2:b.natAbs<2 ^ 5400:=by omega
 obtain⟨x,y,eb,exy,bx,bY⟩:=zaN a b 5400 (by decide) a1 a2
 have g0:0<Int.gcd a b:=Int.gcd_pos_of_ne_zero_left _ (by omega)
 have d1:(Int.gcd a b:Int)∣a:=Int.gcd_dvd_left _ _
 have d2:(Int.gcd a b:Int)∣b:=Int.gcd_dvd_right _ _
 generalize eg:(Int.gcd a b:Int)=g at *
 have g0:0<g:=by omega
 have z:=St.Bz.of (f1:=x) (f2:=y) g0 d1 d2 (by rw[Int.mul_comm x,Int.mul_comm y];exact exy)
 have p2:2 ^ 5403=8*2 ^ 5400:=by rw[show(5403:Nat)=3+5400 from rfl,Nat.pow_add]
 have x1:x.natAbs<2 ^ 5403:=by omega
 have y1:y.natAbs<2 ^ 5403:=by omega
 have gle:g≤a:=Int.le_of_dvd ha d1
 have g9:g<2 ^ 9000:=by
  have h9:(2:Nat) ^ 5400≤2 ^ 9000:=Nat.pow_le_pow_right (by decide) (by decide)
  have:((2 ^ 9000:Nat):Int)=(2:Int) ^ 9000:=by norm_cast
  omega
 have dv1:z26 a g=true:=z44 g0 g9
 have dv2:z26 b g=true:=z44 g0 g9
 have f1:a.fdiv g=a / g:=Int.fdiv_eq_ediv_of_nonneg _ (by omega)
 have f2:b.fdiv g=b / g:=Int.fdiv_eq_ediv_of_nonneg _ (by omega)
 have k1:(a / g).natAbs<2 ^ 5400:=by rw[←f1];have:=St.z3W a g0;omega
 have k2:(b / g).natAbs<2 ^ 5400:=by rw[←f2];have:=St.z3W b g0;omega
 have ap:0<a / g:=Int.ediv_pos_of_pos_of_dvd ha (by omega) d1
 have lp:0<a / g*b:=Int.mul_pos ap hb
 refine⟨g,x,y,a / g,b / g,a / g*b,?_,z,rfl,lp,d1⟩
 have m1:z17 (a / g) b=true:=z1V k1 a2 (by decide)
 have m2:z17 (-y) (b / g)=true:=z1V (by rw[Int.natAbs_neg];exact y1) k2 (by decide)
 have m3:z17 x (a / g)=true:=z1V x1 k1 (by decide)
 have s1:(-y*(b / g)).natAbs<2 ^ (5403+5400):=by
  rw[Int.natAbs_mul,Nat.pow_add,Int.natAbs_neg]
  exact Nat.mul_lt_mul'' y1 k2
 have s2:(x*(a / g)).natAbs<2 ^ (5403+5400):=by
  rw[Int.natAbs_mul,Nat.pow_add]
  exact Nat.mul_lt_mul'' x1 k1
 have e1:=z22 w1 (-y*(b / g)) (z5L s1 l1 (by decide))
 have e2:=z22 w2 (x*(a / g)) (z5L s2 l2 (by decide))
 have e3:=z9o (sclR (-y*(b / g)) w1) (sclR (x*(a / g)) w2) (by rw[z0z,z0z,h1,h2])
 have e4:=z9o w1 w2 (by rw[h1,h2])
 have e5:=z6J (addR w1 w2) g g0
 have e6:=z6J (addR (sclR (-y*(b / g)) w1) (sclR (x*(a / g)) w2)) (a / g*b) lp
 have eb:z52 [.int a,.int b]=some (.tup [.int g,.int x,.int y]):=eb
 generalize addR (sclR (-y*(b / g)) w1) (sclR (x*(a / g)) w2)=u at *
 generalize sclR (-y*(b / g)) w1=u1 at *
 generalize sclR (x*(a / g)) w2=u2 at *
 generalize addR w1 w2=u3 at *
 have q:z56 [.sh false (.tup [L w1,.int a]),.sh false (.tup [L w2,.int b]),.no,.no,.no,.no,.no]=some (.rt .nw (.tup [.tup [L (rstR g u3),.int g],.tup [L (rstR (a / g*b) u),.int (a / g*b)]])):=by
  unfold z56
  refine run (ρ':=[.sh false (.tup [L w1,.int a]),.sh false (.tup [L w2,.int b]),.sh true (.tup [.int g,.int x,.int y]),.no,.no,.no,.no]) (by simp[cOf,eb]) ?_
  refine run (ρ':=[.sh false (.tup [L w1,.int a]),.sh false (.tup [L w2,.int b]),.sh true (.tup [.int g,.int x,.int y]),.sh true (.int g),.no,.no,.no]) (by simp[cOf]) ?_
  refine run (ρ':=[.sh false (.tup [L w1,.int a]),.sh false (.tup [L w2,.int b]),.sh true (.tup [.int g,.int x,.int y]),.sh true (.int g),.sh true (.int (a / g*b)),.no,.no]) (by simp[cOf,dv1,f1,m1]) ?_
  refine run (ρ':=[.sh false (.tup [L w1,.int a]),.sh false (.tup [L w2,.int b]),.sh true (.tup [.int g,.int x,.int y]),.sh true (.int g),.sh true (.int (a / g*b)),.sh true (L u3),.no]) (by simp[cOf,e4]) ?_
  refine run (ρ':=[.sh false (.tup [L w1,.int a]),.sh false (.tup [L w2,.int b]),.sh true (.tup [.int g,.int x,.int y]),.sh true (.int g),.sh true (.int (a / g*b)),.sh true (L u3),.sh true (L u)]) (by simp[cOf,dv1,dv2,f1,f2,m2,m3,e1,e2,e3]) ?_
  simp[cOf,e5,e6]
 unfold z3n cOf
 rw[if_pos (show[Dt.tup [L w1,.int a],.tup [L w2,.int b]].length=2 from rfl)]
 show(z56 [.sh false (.tup [L w1,.int a]),.sh false (.tup [L w2,.int b]),.no,.no,.no,.no,.no]).bind _=_
 rw[q]
 rfl
theorem z5g{γ:Type}{g:Tg}{F:FS}(R:γ→Rho)(P:Nat→γ→Prop):∀(n k:Nat) (j:γ),P k j→(∀ i j,k≤i→i<k+n→P i j→∃ j',(g.put (.int (i:Int)) (R j)).bind F=some (.nx (R j'))∧P (i+1) j')→∃ j',forF g F (z1Q (k:Int) n) (R j)=some (.nx (R j'))∧P (k+n) j'
 | 0,k,j,p,_=>⟨j,rfl,p⟩
 | n+1,k,j,p,h=>by
  obtain⟨j1,h1,p1⟩:=h k j (Nat.le_refl _) (by omega) p
  obtain⟨j2,h2,p2⟩:=z5g R P n (k+1) j1 p1 fun i j hi hl=>h i j (by omega) (by omega)
  refine⟨j2,?_,by rw[show k+(n+1)=k+1+n by omega];exact p2⟩
  rw[z0M,List.range_succ_eq_map,List.map_cons,z1a,show Dt.int ((k:Int)+((0:Nat):Int)) = .int (k:Int) by simp,h1,List.map_map]
  rw[←h2,z0M]
  show forF g F _ (R j1)=forF g F _ (R j1)
  congr 1
  apply List.map_congr_left
  intro i _
  show Dt.int ((k:Int)+((i+1:Nat):Int))=Dt.int (((k+1:Nat):Int)+(i:Int))
  congr 1
  omega
structure Cs(n r:Nat)(w:Int)(G:List (List Int))(K0:St.Meas)(t s:Nat)(M:St.Meas):Prop where
 ms:St.Ms n G (M++K0)
 ch:St.Chn w t s M
 len:M.length=r
 lt:∀ x∈M,St.Lt (2 ^ 5461) x.1
theorem zeq{p:Int}(hp:0<p)(hb:p<2 ^ 5400)(r:List Int):St.Lt (2 ^ 5461) (rstR p r):=fun k=>by
 have c:((2 ^ 5400:Nat):Int)=(2:Int) ^ 5400:=by norm_cast
 have h:(2:Nat) ^ 5400≤2 ^ 5461:=Nat.pow_le_pow_right (by decide) (by decide)
 by_cases hk:k<(rstR p r).length
 · have:=zem hp (r:=r) (St.at0 (rstR p r) k) (by unfold St.at0;rw[List.getD,List.getElem?_eq_getElem hk];exact List.getElem_mem _)
   omega
 · rw[St.z1l (by omega)];exact Nat.two_pow_pos _
abbrev KF:FS:=(sSeq (z2E 4 (z06 true z3n (z01 (fAt (fN 1) (fN 2)) (z01 (fAt (fN 1) (fN 3)) fNil))))
 (sSeq (sPut 1 (fN 2) (fAt (fN 4) (fC (.int 0))))
 (sPut 1 (fN 3) (fAt (fN 4) (fC (.int 1))))))
abbrev tD(x:List Int×Int):Dt := .tup [L x.1,.int x.2]
theorem zjt{n r:Nat}{w:Int}{G:List (List Int)}{K0:St.Meas}{t s:Nat}{M:St.Meas}(b:Mb r n w)(I:Cs n r w G K0 t s M)(hts:t<s)(hs:s<r)(c0 c4:Cell)(f:Bool):
   ∃ M' c4' f',KF [c0,.ow f (M.map tD),.sh false (.int t),.sh false (.int s),c4]=some (.nx [c0,.ow f' (M'.map tD),.sh false (.int t),.sh false (.int s),c4'])∧Cs n r w G K0 t (s+1) M':=by
 have lM:=I.len
 have get:∀ i,i<r→M[i]?=some (St.mw M i,St.mp M i):=fun i hi=>by
   unfold St.mw St.mp
   rw[List.getD,List.getElem?_eq_getElem (show i<M.length by omega)];rfl
 have mem:∀ i,i<r→(St.mw M i,St.mp M i)∈M:=fun i hi=>List.mem_of_getElem? (get i hi)
 have rows:∀ i,i<r→(St.mw M i).length=n:=fun i hi=>I.ms.rows _ (List.mem_append.mpr (.inl (mem i hi)))
 have bd:∀ i,i<r→St.mp M i<2 ^ 5400:=fun i hi=>b.hd (I.ch.whole i (by omega))
 obtain⟨g,x,y,a',b',lc,e,z,hlc,lp,gd⟩:=zjs (n:=n) (St.mw M t) (St.mw M s) (St.mp M t) (St.mp M s) (rows t (by omega)) (rows s hs) (I.ch.pos t (by omega)) (I.ch.pos s (by omega)) (bd t (by omega)) (bd s hs) (I.lt _ (mem t (by omega))) (I.lt _ (mem s hs))
 have ch':=I.ch.link (u:=rstR g (addR (St.mw M t) (St.mw M s))) (l:=rstR lc (addR (sclR (-y*b') (St.mw M t)) (sclR (x*a') (St.mw M s)))) hts (by omega) z hlc
 have lu:(rstR g (addR (St.mw M t) (St.mw M s))).length=n:=by rw[z6I,z1R (by rw[rows t (by omega),rows s hs]),rows t (by omega)]
 have ll:(rstR lc (addR (sclR (-y*b') (St.mw M t)) (sclR (x*a') (St.mw M s)))).length=n:=by rw[z6I,z1R (by rw[z0z,z0z,rows t (by omega),rows s hs]),z0z,rows t (by omega)]
 have ms':=St.zo7 (u:=rstR g (addR (St.mw M t) (St.mw M s))) (l:=rstR lc (addR (sclR (-y*b') (St.mw M t)) (sclR (x*a') (St.mw M s)))) I.ms hlc (by omega) (by omega) (by omega) z lu ll
   (fun k=>by rw[z8w,z3B (by rw[rows t (by omega),rows s hs])]) (fun k=>by rw[z8w,z3B (by rw[z0z,z0z,rows t (by omega),rows s hs]),z5C,z5C,Int.neg_mul])
 have gb:g<2 ^ 5400:=by have:=Int.le_of_dvd (I.ch.pos t (by omega)) gd;have:=bd t (by omega);omega
 have lb:lc<2 ^ 5400:=b.hd (by
   have:=ch'.whole s (by simp;omega)
   unfold St.mp at this
   rw[St.z9f (by omega) (by omega) (by omega),if_pos rfl]at this
   exact this)
 have u2:=zeq z.gp gb (addR (St.mw M t) (St.mw M s))
 have l2:=zeq lp lb (addR (sclR (-y*b') (St.mw M t)) (sclR (x*a') (St.mw M s)))
 generalize rstR g (addR (St.mw M t) (St.mw M s))=u at *
 generalize rstR lc (addR (sclR (-y*b') (St.mw M t)) (sclR (x*a') (St.mw M s)))=l at *
 have at1:atI (M.map tD) (t:Int)=some (tD (St.mw M t,St.mp M t)):=z4e (by rw[List.getElem?_map,get t (by omega)];rfl)
 have at2:atI (M.map tD) (s:Int)=some (tD (St.mw M s,St.mp M s)):=z4e (by rw[List.getElem?_map,get s hs];rfl)
 have mlen:(M.map tD).length=r:=by rw[List.length_map,lM]
 have st:((M.set t (u,g)).set s (l,lc)).map tD=((M.map tD).set t (tD (u,g))).set s (tD (l,lc)):=by rw[List.map_set,List.map_set]
 generalize M.map tD=D at *
 have x1:ixN D.length (t:Int)=some t:=zih (by omega)
 have x2:ixN D.length (s:Int)=some s:=zih (by omega)
 have e1:z2E 4 (z06 true z3n (z01 (fAt (fN 1) (fN 2)) (z01 (fAt (fN 1) (fN 3)) fNil))) [c0,.ow f D,.sh false (.int t),.sh false (.int s),c4]=some (.nx [c0,.ow f D,.sh false (.int t),.sh false (.int s),.sh true (.tup [tD (u,g),tD (l,lc)])]):=by
   have e:z3n [tD (St.mw M t,St.mp M t),tD (St.mw M s,St.mp M s)]=some (.tup [tD (u,g),tD (l,lc)]):=e
   generalize tD (St.mw M t,St.mp M t)=y1 at *
   generalize tD (St.mw M s,St.mp M s)=y2 at *
   have sn:∀(f:Fl) (d:Dt),(nrm f d).2=d:=fun _ _=>rfl
   simp[cOf,at1,at2,sn,e]
 have e2:∃ f1,sPut 1 (fN 2) (fAt (fN 4) (fC (.int 0))) [c0,.ow f D,.sh false (.int t),.sh false (.int s),.sh true (.tup [tD (u,g),tD (l,lc)])]=some (.nx [c0,.ow f1 (D.set t (tD (u,g))),.sh false (.int t),.sh false (.int s),.sh true (.tup [tD (u,g),tD (l,lc)])]):=by
   generalize tD (u,g)=y1
   generalize tD (l,lc)=y2
   have sn:∀(f:Fl) (d:Dt),(nrm f d).2=d:=fun _ _=>rfl
   refine⟨f&&(nrm (if y1.flat=true∧y2.flat=true then Fl.nw else Fl.fr).item y1).1.isFr,?_⟩
   simp[cOf,x1,sn]
 obtain⟨f1,e2⟩:=e2
 have e3:∃ f2,sPut 1 (fN 3) (fAt (fN 4) (fC (.int 1))) [c0,.ow f1 (D.set t (tD (u,g))),.sh false (.int t),.sh false (.int s),.sh true (.tup [tD (u,g),tD (l,lc)])]=some (.nx [c0,.ow f2 ((D.set t (tD (u,g))).set s (tD (l,lc))),.sh false (.int t),.sh false (.int s),.sh true (.tup [tD (u,g),tD (l,lc)])]):=by
   have x2:ixN (D.set t (tD (u,g))).length (s:Int)=some s:=by rw[List.length_set];exact x2
   generalize D.set t (tD (u,g))=E at *
   generalize tD (u,g)=y1
   generalize tD (l,lc)=y2
   have sn:∀(f:Fl) (d:Dt),(nrm f d).2=d:=fun _ _=>rfl
   refine⟨f1&&(nrm (if y1.flat=true∧y2.flat=true then Fl.nw else Fl.fr).item y2).1.isFr,?_⟩
   simp[cOf,x2,sn]
 obtain⟨f2,e3⟩:=e3
 refine⟨(M.set t (u,g)).set s (l,lc),.sh true (.tup [tD (u,g),tD (l,lc)]),f2,run e1 (run e2 (by rw[st];exact e3)),⟨ms',ch',by simp[lM],fun x hx=>?_⟩⟩
 rcases List.mem_or_eq_of_mem_set hx with hx|rfl
 · rcases List.mem_or_eq_of_mem_set hx with hx|rfl
   · exact I.lt x hx
   · exact u2
 · exact l2
theorem zer{n r:Nat}{w:Int}{G:List (List Int)}{K0:St.Meas}{t:Nat}{M:St.Meas}(b:Mb r n w)(I:Cs n r w G K0 t (t+1) M)(ht:t<r)(c0 c3 c4:Cell)(f:Bool):
  ∃ M' c3' c4' f',forF (Tg.one 3) KF (z1Q ((t+1:Nat):Int) (r-(t+1))) [c0,.ow f (M.map tD),.sh false (.int t),c3,c4]=some (.nx [c0,.ow f' (M'.map tD),.sh false (.int t),c3',c4'])∧Cs n r w G K0 (t+1) (t+2) M':=by
 obtain⟨j,e,p⟩:=z5g (g:=Tg.one 3) (F:=KF) (fun j:St.Meas×Cell×Cell×Bool=>[c0,.ow j.2.2.2 (j.1.map tD),.sh false (.int t),j.2.1,j.2.2.1]) (fun s j=>Cs n r w G K0 t s j.1) (r-(t+1)) (t+1) (M,c3,c4,f) I fun s j h1 h2 p=>by
  obtain⟨M',c4',f',e,p'⟩:=zjt b p (by omega) (by omega) c0 j.2.2.1 j.2.2.2
  exact⟨(M',.sh false (.int s),c4',f'),e,p'⟩
 exact⟨j.1,j.2.1,j.2.2.1,j.2.2.2,e,⟨p.ms,p.ch.next (by rw[p.len];omega),p.len,p.lt⟩⟩
theorem ch_own(M:St.Meas):∃ f,sOwn 1 (fBlt bLst (z01 (fN 0) fNil)) [.sh false (MD M),.no,.no,.no,.no]=some (.nx [.sh false (MD M),.ow f (M.map tD),.no,.no,.no]):=by
 cases M with
 | nil=>exact⟨true,by simp[cOf,MD]⟩
 | cons x M=>exact⟨false,by simp[cOf,MD,newL,lfl,Dt.flat,z1x]⟩
abbrev RA:FI:=z0m (fBlt bLen (z01 (fN 1) fNil))
abbrev RB:FI:=z8o (fOp z0x (fN 2) (fC (.int 1))) (fBlt bLen (z01 (fN 1) fNil))
theorem ch_ra(c0:Cell)(D:List Dt)(f:Bool)(h:D.length≤1000):RA [c0,.ow f D,.no,.no,.no]=some (z1Q 0 D.length):=by
 have ok2:z3c (D.length:Int)=true:=z4p (by omega)
 cases f<;>simp[cOf,ok2]
theorem ch_rb(c0 d3 d4:Cell)(D:List Dt)(f:Bool)(t:Nat)(h:D.length≤1000)(ht:t≤1000):RB [c0,.ow f D,.sh false (.int t),d3,d4]=some (z1Q ((t+1:Nat):Int) (D.length-(t+1))):=by
 have ok1:z3c ((t:Int)+1)=true:=by have:=z4p (n:=t+1) (by omega);rwa [show((t+1:Nat):Int)=(t:Int)+1 by omega]at this
 have ok2:z3c (D.length:Int)=true:=z4p (by omega)
 have rg:((D.length:Int)-((t:Int)+1)).toNat=D.length-(t+1):=by omega
 have h1:fOp z0x (fN 2) (fC (.int 1)) [c0,.ow f D,.sh false (.int t),d3,d4]=some (.nw,.int ((t:Int)+1)):=by simp[cOf]
 have h2:fBlt bLen (z01 (fN 1) fNil) [c0,.ow f D,.sh false (.int t),d3,d4]=some (.nw,.int (D.length:Int)):=by cases f<;>simp[cOf]
 rw[show((t+1:Nat):Int)=(t:Int)+1 by omega]
 unfold RB z8o
 rw[h1,z0n,h2,z0n]
 have i1:intD ((Fl.nw,Dt.int ((t:Int)+1)):Dv).2=some ((t:Int)+1):=rfl
 have i2:intD ((Fl.nw,Dt.int (D.length:Int)):Dv).2=some (D.length:Int):=rfl
 rw[i1,z0n,i2,z0n,ok1,ok2,rg]
 rfl
theorem zoc{n r:Nat}{w:Int}{G:List (List Int)}{K0:St.Meas}{M:St.Meas}{t:Nat}(b:Mb r n w)(I:Cs n r w G K0 t (t+1) M)(ht:t<r)(c0 d2 d3 d4:Cell)(f:Bool):
  ∃ M' c3' c4' f',(Tg.put (Tg.one 2) (.int t) [c0,.ow f (M.map tD),d2,d3,d4]).bind (z7X RB (Tg.one 3) KF)=some (.nx [c0,.ow f' (M'.map tD),.sh false (.int t),c3',c4'])∧Cs n r w G K0 (t+1) (t+2) M':=by
 have r6:=b.r6
 obtain⟨M',c3',c4',f',e,p'⟩:=zer b I ht c0 d3 d4 f
 refine⟨M',c3',c4',f',?_,p'⟩
 have pl:(M.map tD).length=r:=by rw[List.length_map,I.len]
 have it:=ch_rb c0 d3 d4 (M.map tD) f t (by omega) (by omega)
 rw[pl]at it
 have pt:Tg.put (Tg.one 2) (.int t) [c0,.ow f (M.map tD),d2,d3,d4]=some [c0,.ow f (M.map tD),.sh false (.int t),d3,d4]:=rfl
 rw[pt,z0n,zko,it,z0n]
 exact e
theorem zod{n r:Nat}{w:Int}{G:List (List Int)}{K0:St.Meas}{M:St.Meas}(b:Mb r n w)(I:Cs n r w G K0 0 1 M)(c0:Cell)(f:Bool):∃ M' f' c2 c3 c4,z7X RA (Tg.one 2) (z7X RB (Tg.one 3) KF) [c0,.ow f (M.map tD),.no,.no,.no]=some (.nx [c0,.ow f' (M'.map tD),c2,c3,c4])∧Cs n r w G K0 r (r+1) M':=by
 have r6:=b.r6
 generalize hF:z7X RB (Tg.one 3) KF=F
 obtain⟨j,e,p⟩:=z5g (g:=Tg.one 2) (F:=F) (fun j:St.Meas×Cell×Cell×Cell×Bool=>[c0,.ow j.2.2.2.2 (j.1.map tD),j.2.1,j.2.2.1,j.2.2.2.1]) (fun s j=>Cs n r w G K0 s (s+1) j.1) r 0 (M,.no,.no,.no,f) I fun t j h1 h2 p=>by
  obtain⟨M',c3',c4',f',e,p'⟩:=zoc b p (by omega) c0 j.2.1 j.2.2.1 j.2.2.2.1 j.2.2.2.2
  rw[hF]at e
  exact⟨(M',.sh false (.int t),c3',c4',f'),e,p'⟩
 have pl:(M.map tD).length=r:=by rw[List.length_map,I.len]
 have it:=ch_ra c0 (M.map tD) f (by omega)
 rw[pl]at it
 refine⟨j.1,j.2.2.2.2,j.2.1,j.2.2.1,j.2.2.2.1,?_,by rw[Nat.zero_add]at p;exact p⟩
 rw[zko,it,z0n]
 exact e
theorem zoe(M1:St.Meas)(pos:∀ x∈M1,0<x.2)(c0 c2 c3 c4:Cell)(f1:Bool):z0e 2 [] (iSeq (fN 1)) (Tg.many [0,1]) fYes (fTup (z01 (z06 true z2D (z01 (fN 0) (z01 (fN 1) fNil))) (z01 (fN 1) fNil))) [c0,.ow f1 (M1.map tD),c2,c3,c4]=some (.nw,MD (M1.map fun x=>(rstR x.2 x.1,x.2))):=by
 rw[z0j (e:=tD) (h:=fun x=>tD (rstR x.2 x.1,x.2)) (xs:=M1) (by cases f1<;>simp[cOf]) (fun x hx=>by
  have:=z6J x.1 x.2 (pos x hx)
  simp[cOf,tD,this])]
 unfold MD
 rw[List.map_map];rfl
theorem zof{n r:Nat}{w:Int}{G:List (List Int)}{K0 M1:St.Meas}(b:Mb r n w)(p:Cs n r w G K0 r (r+1) M1)(pos:∀ x∈M1,0<x.2):Cs n r w G K0 r (r+1) (M1.map fun x=>(rstR x.2 x.1,x.2)):=by
 have get:∀ i,i<r→M1[i]?=some (St.mw M1 i,St.mp M1 i):=fun i hi=>by
   have hi:i<M1.length:=by rw[p.len];exact hi
   unfold St.mw St.mp
   rw[List.getD,List.getElem?_eq_getElem hi];rfl
 have gm:∀ i,i<r→St.mp (M1.map fun x=>(rstR x.2 x.1,x.2)) i=St.mp M1 i∧St.mw (M1.map fun x=>(rstR x.2 x.1,x.2)) i=rstR (St.mp M1 i) (St.mw M1 i):=fun i hi=>by
   have e:=get i hi
   unfold St.mp St.mw at e ⊢
   rw[List.getD,List.getElem?_map,e]
   exact⟨rfl,rfl⟩
 have lm:(M1.map fun x=>(rstR x.2 x.1,x.2)).length=r:=by rw[List.length_map,p.len]
 have pl:=p.len
 refine⟨p.ms.rest (fun x hx=>?_) (by rw[List.length_append,List.length_append,lm,pl]) (fun i hi=>?_) (fun i hi v=>?_),⟨fun i hi=>?_,fun i hi=>?_,fun i j h1 h2 h3=>?_,fun j h1 h2 h3=>?_⟩,lm,fun x hx=>?_⟩
 · rcases List.mem_append.mp hx with hx|hx
   · obtain⟨y,hy,rfl⟩:=List.mem_map.mp hx
     show(rstR y.2 y.1).length=n
     rw[z6I];exact p.ms.rows y (List.mem_append.mpr (.inl hy))
   · exact p.ms.rows x (List.mem_append.mpr (.inr hx))
 · by_cases h:i<r
   · rw[(St.z2P (by omega)).1,(St.z2P (by omega)).1,(gm i h).1]
   · unfold St.mp
     rw[St.z3A,St.z3A,lm,pl,if_neg h,if_neg h]
 · by_cases h:i<r
   · rw[(St.z2P (by omega)).1,(St.z2P (by omega)).2,(St.z2P (by omega)).2,(gm i h).2]
     exact St.zo6 (q:=fun k=>(St.at0 (St.mw M1 i) k).fdiv (St.mp M1 i)) (fun k=>z8w _ _ k) v
   · unfold St.mw
     rw[St.z3A,St.z3A,lm,pl,if_neg h,if_neg h]
     exact⟨0,by omega⟩
 · rw[(gm i (by omega)).1];exact p.ch.pos i (by omega)
 · rw[(gm i (by omega)).1];exact p.ch.whole i (by omega)
 · rw[(gm i (by omega)).1,(gm j (by omega)).1];exact p.ch.all i j h1 h2 (by omega)
 · omega
 · obtain⟨y,hy,rfl⟩:=List.mem_map.mp hx
   obtain⟨i,hi,rfl⟩:=List.getElem_of_mem hy
   have w1:=p.ch.whole i hi
   unfold St.mp at w1
   rw[List.getD,List.getElem?_eq_getElem hi]at w1
   exact zeq (pos _ hy) (b.hd w1) _
theorem zes{n r:Nat}{w:Int}{G:List (List Int)}{K0:St.Meas}{M:St.Meas}(b:Mb r n w)(I:Cs n r w G K0 0 1 M):
   ∃ M',z35 [MD M]=some (MD M')∧Cs n r w G K0 r (r+1) M'∧∀ x∈M',∀ y∈x.1,0≤y∧y<x.2:=by
 obtain⟨f,own⟩:=ch_own M
 obtain⟨M1,f1,c2,c3,c4,e1,p⟩:=zod b I (.sh false (MD M)) f
 have pos:∀ x∈M1,0<x.2:=fun x hx=>by
   obtain⟨i,hi,rfl⟩:=List.getElem_of_mem hx
   have:=p.ch.pos i hi
   unfold St.mp at this
   rw[List.getD,List.getElem?_eq_getElem hi]at this
   exact this
 have cm:=zoe M1 pos (.sh false (MD M)) c2 c3 c4 f1
 have cr:=zof b p pos
 refine⟨M1.map fun x=>(rstR x.2 x.1,x.2),?_,cr,fun x hx=>?_⟩
 · generalize M1.map (fun x=>(rstR x.2 x.1,x.2))=M2 at *
   generalize M1.map tD=D1 at *
   generalize M.map tD=D at *
   have q:z40 [.sh false (MD M),.no,.no,.no,.no]=some (.rt .nw (MD M2)):=by
    unfold z40
    refine run own (run e1 ?_)
    unfold sRet
    rw[cm]
    rfl
   unfold z35 cOf
   rw[if_pos (show[MD M].length=1 from rfl)]
   show(z40 [.sh false (MD M),.no,.no,.no,.no]).bind _=_
   rw[q]
   rfl
 · obtain⟨y,hy,rfl⟩:=List.mem_map.mp hx
   exact zem (pos y hy)
theorem bnd899(k:Nat)(h:k≤8):St.bnd k (10 ^ 30)+1≤2 ^ 899:=by
 have:=St.z6x (B:=10 ^ 30) h (by decide) (by decide)
 have e:St.bnd 8 (10 ^ 30)+1≤2 ^ 899:=by unfold St.bnd;decide
 omega
theorem zc4(k:Nat)(h:k≤6):St.bnd k (2 ^ 900)+1≤2 ^ 5461:=by
 have h1:=St.z6x (r:=k) (s:=6) (B:=2 ^ 900) h (Nat.two_pow_pos _) (by decide)
 have h2:St.bnd 6 (2 ^ 900)≤2 ^ 5460:=by
  unfold St.bnd
  have a:2*6*2 ^ 900≤2 ^ 904:=by
   rw[show(904:Nat)=4+900 from rfl,Nat.pow_add]
   exact Nat.mul_le_mul_right _ (by decide)
  have b:=Nat.pow_le_pow_left a 6
  rw[←Nat.pow_mul]at b
  have c:(2:Nat) ^ 5460=2 ^ (904*6)*2 ^ (6*6):=by rw[←Nat.pow_add]
  rw[c]
  exact Nat.mul_le_mul_right _ b
 have h3:(2:Nat) ^ 5460<2 ^ 5461:=Nat.pow_lt_pow_right (by decide) (by decide)
 omega
def zio(xs:List Int):Int:=xs.foldl (fun t x=>t*x) 1
theorem zet{e:Nat}(xs:List Int)(h:∀ x∈xs,x.natAbs<2 ^ e)(he:e*(xs.length+1)≤1000000):z5H [L xs]=some (.int (zio xs)):=by
 have key:∀(ys:List Int) (t:Int) (k:Nat) (c0 c2:Cell) (f:Bool),(∀ x∈ys,x.natAbs<2 ^ e)→t.natAbs<2 ^ k→k+e*(ys.length+1)≤2000000→∃ f' c2',forF (Tg.one 2) (sSet [] 1 (fOp z12 (fN 1) (fN 2))) (ys.map Dt.int) [c0,.sh f (.int t),c2]=some (.nx [c0,.sh f' (.int (ys.foldl (fun t x=>t*x) t)),c2']):=by
  intro ys
  induction ys with
  | nil=>intro t k c0 c2 f _ _ _;exact⟨f,c2,rfl⟩
  | cons y ys ih =>
   intro t k c0 c2 f hy ht hk
   have e1:e*(ys.length+1+1)=e*(ys.length+1)+e:=Nat.mul_succ _ _
   rw[List.length_cons,e1]at hk
   have m:z17 t y=true:=z1V ht (hy y List.mem_cons_self) (by omega)
   have b:(t*y).natAbs<2 ^ (k+e):=by rw[Int.natAbs_mul,Nat.pow_add];exact Nat.mul_lt_mul'' ht (hy y List.mem_cons_self)
   obtain⟨f',c2',q⟩:=ih (t*y) (k+e) c0 (.sh false (.int y)) true (fun x hx=>hy x (List.mem_cons_of_mem _ hx)) b (by omega)
   refine⟨f',c2',?_⟩
   rw[List.map_cons,z1a,List.foldl_cons,←q]
   have s:(Tg.put (Tg.one 2) (.int y) [c0,.sh f (.int t),c2]).bind (sSet [] 1 (fOp z12 (fN 1) (fN 2)))=some (.nx [c0,.sh true (.int (t*y)),.sh false (.int y)]):=by
    simp[cOf,m]
   rw[s];rfl
 obtain⟨f',c2',q⟩:=key xs 1 1 (.sh false (L xs)) .no true h (by decide) (by omega)
 unfold z5H z7u
 have q:forF (Tg.one 2) (sSet [] 1 (fOp z12 (fN 1) (fN 2))) (xs.map Dt.int) [.sh false (L xs),.sh true (.int 1),.no]=some (.nx [.sh false (L xs),.sh f' (.int (zio xs)),c2']):=q
 simp[cOf,q]
theorem zkS(A:List (List Int))(r:Nat):zio ((List.range r).map fun i=>St.ent A i i)=St.pr A r:=by
 unfold zio
 induction r with
 | zero=>rfl
 | succ r ih=>rw[List.range_succ,List.map_append,List.foldl_append,ih];rfl
theorem zeu(P:List (List Int)){n:Nat}(h:P.length=n):St.pair P (St.units n)=St.z7h P:=by
 have e0:=zim P.length 0 P
 rw[←List.range_eq_range']at e0
 rw[z9y]
 unfold St.units
 rw[←h]
 exact e0
structure Mz(n r:Nat)(G:List (List Int))(M:St.Meas):Prop where
 ms:St.Ms n G M
 len:M.length=n
 rn:r≤n
 pos:∀ i,i<r→0<St.mp M i
 dvd:∀ i j,i<j→j<r→St.mp M i∣St.mp M j
 zero:∀ i,r≤i→i<n→St.mp M i=0
 big:∀ x∈M,x.2<2 ^ 5400∧∀ y∈x.1,y.natAbs<2 ^ 5461
theorem zdc{n:Nat}{bills G:List (List Int)}(H:Hall n bills)(es:z5I [z0t n bills]=some (LL G))(Gd:St.Good n (10 ^ 30) bills G):∃ M,z1X [z0t n bills]=some (MD M)∧Mz n G.length G M:=by
 have n6:=H.n6
 have gl:=St.z6y Gd.asc (Nat.zero_le _)
 generalize hr:G.length=r at *
 have rn:r≤n:=by omega
 have g899:∀ x∈G,St.Lt (2 ^ 899) x:=fun x hx=>(Gd.small H.lt (by decide) x hx).mono (bnd899 _ (by omega))
 have gr:∀ x∈G,x.length=n:=fun x hx=>(Gd.asc.mem hx).1
 have t1:=z7A G n gr (by omega)
 have pl:(St.trn n G).length=n:=St.z0X _ _
 have tr:∀ x∈St.trn n G,x.length=r:=fun x hx=>by rw[St.z2Y hx,hr]
 have ent_lt:∀ i k,(St.ent G i k).natAbs<2 ^ 899:=fun i k=>by
   by_cases hi:i<G.length
   · exact g899 _ (St.z1f hi) k
   · rw[St.z0T (by omega)];exact Nat.two_pow_pos _
 have p899:(2:Nat) ^ 899≤2 ^ 900:=Nat.pow_le_pow_right (by decide) (by decide)
 have plt:∀ x∈St.pair (St.trn n G) (St.units n),St.Lt (2 ^ 900) x:=fun x hx k=>by
   obtain⟨i,hi,rfl⟩:=List.getElem_of_mem hx
   have hi':i<n:=by rw[St.z2e (by rw[pl,St.z1Z]),pl]at hi;exact hi
   have e:St.at0 ((St.pair (St.trn n G) (St.units n))[i]) k=St.ent (St.pair (St.trn n G) (St.units n)) i k:=by unfold St.ent;simp[List.getD,List.getElem?_eq_getElem hi]
   rw[e,St.z4X (n:=n) (r:=r) tr (by rw[pl];exact hi') (by rw[St.z1Z];exact hi')]
   split
   · rw[St.z1u gr];have:=ent_lt k i;omega
   · rw[St.z7m hi']
     have:(1:Nat)<2 ^ 900:=Nat.one_lt_two_pow (by decide)
     split<;>simp<;>omega
 obtain⟨S,e2,G2⟩:=z9z (n:=r+n) (e:=5461) (eh:=5461) (B:=2 ^ 900) (by omega) (by decide) (Nat.le_refl _) (by decide) (St.trn n G) (St.units n) (by rw[pl,St.z1Z]) (St.zaJ tr (St.zjl n)) plt (Nat.two_pow_pos _) (Nat.pow_le_pow_right (by decide) (by decide)) (fun k hk=>zc4 k (by omega))
   (fun k S hk G0 x hx=>by
     have q:=G0.small (fun r hr=>plt r (List.mem_of_mem_take hr)) (Nat.two_pow_pos _) x hx (St.z02 x)
     have l:=G0.len
     have b:=zc4 S.length (by rw[List.length_take]at l;omega)
     have q:(St.hd x).natAbs<St.bnd S.length (2 ^ 900)+1:=q
     have c2:((2 ^ 5461:Nat):Int)=(2:Int) ^ 5461:=by norm_cast
     omega) (by omega)
 have sl:S.length=n:=by
   have:=G2.full (by rw[zeu _ pl];exact St.z9b tr)
   rw[this,St.z2e (by rw[pl,St.z1Z]),pl]
 have s5461:∀ x∈S,St.Lt (2 ^ 5461) x:=fun x hx=>(G2.small plt (Nat.two_pow_pos _) x hx).mono (zc4 _ (by omega))
 obtain⟨W,tk,eW,bl,m0,te,_⟩:=St.start Gd.asc hr G2.asc G2.form sl G2.span
 have sq:=m0.sq
 have wp:0<St.pr (St.tops r S) r:=St.ze8 fun i hi=>sq.pos hi
 have hs:=St.z5z (r:=r) G2.span
 rw[St.z5A tr (by rw[pl,St.z1Z])]at hs
 have wb:St.pr (St.tops r S) r≤2 ^ (899*r):=St.zd0 Gd.asc hr sq (fun x hx=>by
   have:=hs.iff.mpr (St.z0f hx)
   refine Lat.Span.trans (fun v hv=>?_) this
   obtain⟨y,hy,rfl⟩:=List.mem_map.mp hv
   obtain⟨z,hz,rfl⟩:=List.mem_map.mp hy
   exact Lat.Span.congr (fun k=>by simp only[St.vec];rw[St.z1E]) (St.z7k (n:=r) G2.asc (St.z0f hz))) (hd_lt Gd.asc g899)
 have b:Mb r n (St.pr (St.tops r S) r):=⟨by omega,n6,wp,by
   have h1:(2:Nat) ^ (899*r)≤2 ^ 5394:=Nat.pow_le_pow_right (by decide) (by omega)
   have h2:(2:Nat) ^ 5394<2 ^ 5400:=Nat.pow_lt_pow_right (by decide) (by decide)
   have c1:((2 ^ (899*r):Nat):Int)=(2:Int) ^ (899*r):=by norm_cast
   have c2:((2 ^ 5400:Nat):Int)=(2:Int) ^ 5400:=by norm_cast
   omega⟩
 generalize hw:St.pr (St.tops r S) r=w at *
 have wl:=m0.wl
 have mw0:Mw r n w G (St.bots r S) (St.tops r S) W:=⟨m0,fun x hx k=>by
   rw[eW]at hx
   obtain⟨y,hy,rfl⟩:=List.mem_map.mp hx
   rw[St.z4V]
   exact s5461 y (List.mem_of_mem_take hy) _⟩
 obtain⟨A',W',e3,I',hc⟩:=zep b mw0
 have br:∀ x∈St.bots r S,x.length=n:=fun x hx=>by
   unfold St.bots at hx
   obtain⟨y,hy,rfl⟩:=List.mem_map.mp hx
   rw[List.length_drop,(G2.asc.mem (List.mem_filter.mp hy).1).1];omega
 have dl:(z1S A' W').length=r:=by unfold z1S;rw[List.length_map,z7C,I'.m.wl]
 have kl:((St.bots r S).map fun x=>(x,(0:Int))).length=n-r:=by rw[List.length_map,bl]
 have k0:∀ j,j<n-r→((St.bots r S).map fun x=>(x,(0:Int))).getD j ([],0)=((St.bots r S).getD j [],0):=fun j hj=>by
   simp[List.getD,List.getElem?_map,List.getElem?_eq_getElem (show j<(St.bots r S).length by omega)]
 have ms0:St.Ms n G (z1S A' W'++(St.bots r S).map fun x=>(x,(0:Int))):=I'.m.meas hc br _ (by rw[List.length_append,dl,kl,bl])
   (fun i hi=>by
     have:=z9A A' W' (i:=i) (by rw[I'.m.wl];exact hi)
     rw[(St.z2P (by omega)).1,(St.z2P (by omega)).2]
     exact this)
   (fun j hj=>by
     unfold St.mw St.mp
     rw[St.z3A,dl,if_neg (by omega),show r+j-r=j by omega,k0 j (by omega)]
     exact⟨rfl,rfl⟩)
 have cs:Cs n r w G ((St.bots r S).map fun x=>(x,(0:Int))) 0 1 (z1S A' W'):=⟨ms0,St.Chn.first (fun i hi=>by
     rw[(z9A A' W' (i:=i) (by rw[I'.m.wl];omega)).2];exact I'.m.sq.pos (by omega)) (fun i hi=>by
     rw[(z9A A' W' (i:=i) (by rw[I'.m.wl];omega)).2];exact I'.m.sq.whole_col I'.m.whole (by omega)),dl,fun x hx=>by
     unfold z1S at hx
     obtain⟨q,hq,rfl⟩:=List.mem_map.mp hx
     obtain⟨i,hi,rfl⟩:=z36.mp hq
     exact I'.wb _ (St.z1f hi)⟩
 obtain⟨M',e4,c',lt'⟩:=zes b cs
 have e5:=z6H S r
 refine⟨M'++(St.bots r S).map fun x=>(x,(0:Int)),?_,⟨c'.ms,by rw[List.length_append,c'.len,kl];omega,rn,fun i hi=>?_,fun i j h1 h2=>?_,fun i h1 h2=>?_,fun x hx=>?_⟩⟩
 · have u1:∀ d0 d2 d3 d4 d5 d6 d7:Cell,∀ f1,z0e 1 [1] (z0m (fN 1)) (Tg.one 0) fYes (z06 true z3k (z01 (fN 1) (z01 (fN 0) fNil))) [d0,.sh f1 (.int n),d2,d3,d4,d5,d6,d7]=some (.nw,LL (St.units n)):=fun d0 d2 d3 d4 d5 d6 d7 f1=>by
     rw[z0j (e:=fun(k:Nat) => .int (0+(k:Int))) (h:=fun k=>L (St.z3j n k)) (xs:=List.range n) (by simp[cOf,y13 n (by omega),z0M]) (fun j _=>by
      have u:=zdb n j (by omega)
      simp[cOf,u])]
     simp[LL,St.units]
   have ntk:newL ((S.map L).take r)=newL ((S.take r).map L):=by rw[List.map_take]
   have c1:∀ d0 d1 d2 d5 d6 d7:Cell,∀ f3 f4,z0e 1 [3] (iSeq (fSl (fN 4) z0A (z1s (fN 3)))) (Tg.one 0) fYes (fSl (fN 0) z0A (z1s (fN 1))) [d0,d1,d2,.sh f3 (.int r),.sh f4 (LL S),d5,d6,d7]=some (.nw,LL (St.tops r S)):=fun d0 d1 d2 d5 d6 d7 f3 f4=>by
     rw[te,z0j (e:=L) (h:=fun x=>L (x.take r)) (xs:=S.take r) (by cases f4<;>simp[cOf,z92,newL,List.map_take]) (fun x hx=>by simp[cOf,z92,z4T])]
     unfold LL;rw[List.map_map];rfl
   have c2:∀ d0 d1 d2 d5 d6 d7:Cell,∀ f3 f4,z0e 1 [3] (iSeq (fSl (fN 4) z0A (z1s (fN 3)))) (Tg.one 0) fYes (fSl (fN 0) (z1s (fN 1)) z0A) [d0,d1,d2,.sh f3 (.int r),.sh f4 (LL S),d5,d6,d7]=some (.nw,LL W):=fun d0 d1 d2 d5 d6 d7 f3 f4=>by
     rw[eW,z0j (e:=L) (h:=fun x=>L (x.drop r)) (xs:=S.take r) (by cases f4<;>simp[cOf,z92,newL,List.map_take]) (fun x hx=>by simp[cOf,z4S,z2a])]
     unfold LL;rw[List.map_map];rfl
   have tl:=sq.len
   have c3:∀ d0 d1 d2 d3 d4 d6 d7:Cell,∀ f5,z0e 2 [] (z3f (fN 5)) (Tg.many [0,1]) fYes (fAt (fN 1) (fN 0)) [d0,d1,d2,d3,d4,.sh f5 (LL (St.tops r S)),d6,d7]=some (.nw,L ((List.range r).map fun i=>St.ent (St.tops r S) i i)):=fun d0 d1 d2 d3 d4 d6 d7 f5=>by
     rw[z0j (e:=fun p:Nat×List Int => .tup [.int p.1,L p.2]) (h:=fun p => .int (St.ent (St.tops r S) p.1 p.1)) (xs:=z1q 0 (St.tops r S)) (by simp[cOf,z45]) (fun p hp=>by
      obtain⟨i,hi,rfl⟩:=z36.mp hp
      rw[Nat.zero_add]
      have h2:=zc3 (r:=(St.tops r S).getD i []) (k:=i) (by rw[sq.rows _ (St.z1f hi)];omega)
      have x:St.ent (St.tops r S) i i=St.at0 ((St.tops r S).getD i []) i:=rfl
      rw[x]
      generalize (St.tops r S).getD i []=ra at h2 ⊢
      simp[cOf,h2])]
     have x:(z1q 0 (St.tops r S)).map (fun p=>Dt.int (St.ent (St.tops r S) p.1 p.1))=((List.range r).map fun i=>St.ent (St.tops r S) i i).map Dt.int:=by
      refine List.ext_getElem? fun i=>?_
      rw[List.getElem?_map,List.getElem?_map,List.getElem?_map]
      by_cases hi:i<r
      · rw[z7D 0 _ i (by omega),List.getElem?_range hi,Nat.zero_add];rfl
      · rw[List.getElem?_eq_none (by rw[z7C];omega),List.getElem?_eq_none (by simp;omega)];rfl
     rw[x]
   have pe:=zet (e:=5400) ((List.range r).map fun i=>St.ent (St.tops r S) i i) (fun x hx=>by
     obtain⟨i,hi,rfl⟩:=List.mem_map.mp hx
     have hi:=List.mem_range.mp hi
     have h1:=b.hd (sq.whole_col m0.whole hi)
     have h2:=sq.pos hi
     have c2:((2 ^ 5400:Nat):Int)=(2:Int) ^ 5400:=by norm_cast
     omega) (by rw[List.length_map,List.length_range];have:=b.r6;omega)
   rw[zkS,hw]at pe
   have k1:∀ d0 d1 d2 d5 d6 d7:Cell,∀ f3 f4,∃ fl,z0e 1 [] (iSeq (z06 true z0V (z01 (fN 4) (z01 (fN 3) fNil)))) (Tg.one 0) fYes (fTup (z01 (fN 0) (z01 (fC (.int 0)) fNil))) [d0,d1,d2,.sh f3 (.int r),.sh f4 (LL S),d5,d6,d7]=some (fl,MD ((St.bots r S).map fun x=>(x,(0:Int)))):=fun d0 d1 d2 d5 d6 d7 f3 f4=>by
     have key:=z9 (nt:=1) (js:=[]) (Fi:=iSeq (z06 true z0V (z01 (fN 4) (z01 (fN 3) fNil)))) (g:=Tg.one 0) (Fe:=fTup (z01 (fN 0) (z01 (fC (.int 0)) fNil))) (ρ:=[d0,d1,d2,.sh f3 (.int r),.sh f4 (LL S),d5,d6,d7]) (e:=L) (h:=fun x=>(.sh,.tup [L x,.int 0])) (xs:=St.bots r S) (by simp[cOf,e5]) (fun x hx=>by simp[cOf];rfl)
     have x:MD ((St.bots r S).map fun x=>(x,(0:Int))) = .lst ((St.bots r S).map fun x => .tup [L x,.int 0]):=by
      unfold MD;rw[List.map_map];rfl
     rw[x]
     exact⟨_,key⟩
   have cat:∀ fa fb,∃ fl,fOp z0x (fun _=>some (fa,MD M')) (fun _=>some (fb,MD ((St.bots r S).map fun x=>(x,(0:Int))))) []=some (fl,MD (M'++(St.bots r S).map fun x=>(x,(0:Int)))):=fun fa fb=>by
     have l1:(M'.map fun x=>Dt.tup [L x.1,.int x.2]).length≤6:=by rw[List.length_map,c'.len];exact b.r6
     have l2:(((St.bots r S).map fun x=>(x,(0:Int))).map fun x=>Dt.tup [L x.1,.int x.2]).length≤6:=by rw[List.length_map,kl];omega
     have x:MD (M'++(St.bots r S).map fun x=>(x,(0:Int))) = .lst ((M'.map fun x=>Dt.tup [L x.1,.int x.2])++(((St.bots r S).map fun x=>(x,(0:Int))).map fun x=>Dt.tup [L x.1,.int x.2])):=by unfold MD;rw[List.map_append]
     rw[x]
     unfold MD
     generalize M'.map (fun x=>Dt.tup [L x.1,.int x.2])=D1 at *
     generalize ((St.bots r S).map fun x=>(x,(0:Int))).map (fun x=>Dt.tup [L x.1,.int x.2])=D2 at *
     have y:z0x (.lst D1) (.lst D2)=z6o (.lst D1) (.lst D2):=rfl
     refine⟨lfl (D1++D2),?_⟩
     show z0x (.lst D1) (.lst D2)=_
     rw[y,z6o,if_pos (by omega)]
     rfl
   have fin:∀ d0 d1 d2 d5 d6:Cell,∀ f3 f4 f7,∃ fl,fOp z0x (z06 true z35 (z01 (fN 7) fNil)) (z0e 1 [] (iSeq (z06 true z0V (z01 (fN 4) (z01 (fN 3) fNil)))) (Tg.one 0) fYes (fTup (z01 (fN 0) (z01 (fC (.int 0)) fNil)))) [d0,d1,d2,.sh f3 (.int r),.sh f4 (LL S),d5,d6,.sh f7 (MD (z1S A' W'))]=some (fl,MD (M'++(St.bots r S).map fun x=>(x,(0:Int)))):=fun d0 d1 d2 d5 d6 f3 f4 f7=>by
     obtain⟨fb,k1⟩:=k1 d0 d1 d2 d5 d6 (.sh f7 (MD (z1S A' W'))) f3 f4
     have k2:∃ fa,z06 true z35 (z01 (fN 7) fNil) [d0,d1,d2,.sh f3 (.int r),.sh f4 (LL S),d5,d6,.sh f7 (MD (z1S A' W'))]=some (fa,MD M'):=by
      generalize MD (z1S A' W')=Y at *
      generalize MD M'=Z at *
      have sn:∀(f:Fl) (d:Dt),(nrm f d).2=d:=fun _ _=>rfl
      refine⟨(nrm .nw Z).1,?_⟩
      simp[cOf,sn,e4]
     obtain⟨fa,k2⟩:=k2
     obtain⟨fl,q⟩:=cat fa fb
     refine⟨fl,?_⟩
     unfold fOp at q ⊢
     rw[k1,k2]
     exact q
   obtain⟨fl,fin⟩:=fin (.sh false (z0t n bills)) (.sh true (.int n)) (.sh true (LL G)) (.sh true (LL (St.tops r S))) (.sh true (.int w)) true true false
   have q:z3o [.sh false (z0t n bills),.no,.no,.no,.no,.no,.no,.no]=some (.rt fl (MD (M'++(St.bots r S).map fun x=>(x,(0:Int))))):=by
     unfold z3o
     refine run (ρ':=[.sh false (z0t n bills),.sh true (.int n),.no,.no,.no,.no,.no,.no]) (by simp[cOf]) ?_
     refine run (ρ':=[.sh false (z0t n bills),.sh true (.int n),.sh true (LL G),.no,.no,.no,.no,.no]) (by simp[cOf,es]) ?_
     refine run (ρ':=[.sh false (z0t n bills),.sh true (.int n),.sh true (LL G),.sh true (.int r),.no,.no,.no,.no]) (by simp[cOf,hr]) ?_
     refine run (ρ':=[.sh false (z0t n bills),.sh true (.int n),.sh true (LL G),.sh true (.int r),.sh true (LL S),.no,.no,.no]) (by
      have:=u1 (.sh false (z0t n bills)) (.sh true (LL G)) (.sh true (.int r)) .no .no .no .no true
      simp[cOf,t1,this,e2]) ?_
     refine run (ρ':=[.sh false (z0t n bills),.sh true (.int n),.sh true (LL G),.sh true (.int r),.sh true (LL S),.sh true (LL (St.tops r S)),.no,.no]) (by
      have:=c1 (.sh false (z0t n bills)) (.sh true (.int n)) (.sh true (LL G)) .no .no .no true true
      simp[cOf,this]) ?_
     refine run (ρ':=[.sh false (z0t n bills),.sh true (.int n),.sh true (LL G),.sh true (.int r),.sh true (LL S),.sh true (LL (St.tops r S)),.sh true (.int w),.no]) (by
      have:=c3 (.sh false (z0t n bills)) (.sh true (.int n)) (.sh true (LL G)) (.sh true (.int r)) (.sh true (LL S)) .no .no true
      generalize (List.range r).map (fun i=>St.ent (St.tops r S) i i)=xs at *
      simp[cOf,this,pe]) ?_
     refine run (ρ':=[.sh false (z0t n bills),.sh true (.int n),.sh true (LL G),.sh true (.int r),.sh true (LL S),.sh true (LL (St.tops r S)),.sh true (.int w),.sh false (MD (z1S A' W'))]) (by
      have:=c2 (.sh false (z0t n bills)) (.sh true (.int n)) (.sh true (LL G)) (.sh true (LL (St.tops r S))) (.sh true (.int w)) .no true true
      have nf:∀ f,nrm f (MD (z1S A' W'))=(f,MD (z1S A' W')):=fun f=>rfl
      generalize MD (z1S A' W')=Y at *
      simp[cOf,this,e3,nf]
      try rfl) ?_
     unfold sRet
     rw[fin]
     rfl
   unfold z1X cOf
   rw[if_pos (show[z0t n bills].length=1 from rfl)]
   show(z3o [.sh false (z0t n bills),.no,.no,.no,.no,.no,.no,.no]).bind _=_
   rw[q]
   rfl
 · rw[(St.z2P (by rw[c'.len];exact hi)).1];exact c'.ch.pos i (by rw[c'.len];exact hi)
 · rw[(St.z2P (by rw[c'.len];omega)).1,(St.z2P (by rw[c'.len];omega)).1];exact c'.ch.all i j (by omega) h1 (by rw[c'.len];omega)
 · unfold St.mp
   rw[St.z3A,c'.len,if_neg (by omega),k0 _ (by omega)]
 · rcases List.mem_append.mp hx with hx|hx
   · obtain⟨i,hi,rfl⟩:=List.getElem_of_mem hx
     have w1:=c'.ch.whole i hi
     unfold St.mp at w1
     rw[List.getD,List.getElem?_eq_getElem hi]at w1
     have h1:=b.hd w1
     refine⟨h1,fun y hy=>?_⟩
     have h2:=lt' _ hx y hy
     have h3:(2:Nat) ^ 5400≤2 ^ 5461:=Nat.pow_le_pow_right (by decide) (by decide)
     have c2:((2 ^ 5400:Nat):Int)=(2:Int) ^ 5400:=by norm_cast
     have h1:M'[i].2<2 ^ 5400:=h1
     omega
   · obtain⟨z,hz,rfl⟩:=List.mem_map.mp hx
     refine⟨Int.pow_pos (by decide),fun y hy=>?_⟩
     unfold St.bots at hz
     obtain⟨u,hu,rfl⟩:=List.mem_map.mp hz
     obtain⟨k,hk⟩:=zd4 hy
     rw[←hk]
     show(St.at0 (u.drop r) k).natAbs<_
     rw[St.z4V]
     exact s5461 u (List.mem_filter.mp hu).1 _
theorem zju{n:Nat}{bills:List (List Int)}{M:St.Meas}(h:z1X [z0t n bills]=some (MD M)):z6E [z0t n bills]=some (MD (M.filter fun x=>!decide (x.2=1))):=by
 have key:∃ f,z0e 2 [] (iSeq (z06 false z1X (z01 (fN 0) fNil))) (Tg.many [0,1]) (z0o (fOp opNe (fN 1) (fC (.int 1)))) (fTup (z01 (fN 0) (z01 (fN 1) fNil))) [.sh false (z0t n bills)]=some (f,MD (M.filter fun x=>!decide (x.2=1))):=by
  unfold z0e
  have nf:nrm .sh (MD M)=(.sh,MD M):=rfl
  have it:iSeq (z06 false z1X (z01 (fN 0) fNil)) [.sh false (z0t n bills)]=some (M.map tD):=by
   have e:seqD (MD M)=some (M.map tD):=rfl
   generalize MD M=Y at *
   simp[cOf,h,nf,e]
  rw[it,z0n,z4o tD (fun x=>(.sh,tD x)) (fun x=>!decide (x.2=1)) M (fun x _=>by simp[cOf,tD,z15]) (fun x _ _=>by simp[cOf,tD];rfl),z0n,z4P]
  exact⟨_,rfl⟩
 obtain⟨f,key⟩:=key
 have q:z57 [.sh false (z0t n bills)]=some (.rt f (MD (M.filter fun x=>!decide (x.2=1)))):=by
  unfold z57 sRet
  rw[key];rfl
 unfold z6E cOf
 rw[if_pos (show[z0t n bills].length=1 from rfl)]
 show(z57 [.sh false (z0t n bills)]).bind _=_
 rw[q]
 rfl
def dotL(w r:List Int):Int:=(List.range r.length).foldl (fun t k=>t+St.at0 w k*St.at0 r k) 0
theorem ziq(w r:List Int):dotL w r=St.dt r.length w (St.vec r):=by
 unfold dotL St.dt
 have key:∀(n:Nat) (f:Nat→Int) (t:Int),(List.range n).foldl (fun t k=>t+f k) t=t+St.sm n f:=by
  intro n
  induction n with
  | zero=>intro f t;simp[St.sm]
  | succ n ih =>
   intro f t
   rw[List.range_succ_eq_map,List.foldl_cons,List.foldl_map,St.sm]
   have:=ih (fun k=>f (k+1)) (t+f 0)
   rw[this];omega
 rw[key r.length (fun k=>St.at0 w k*St.at0 r k) 0,Int.zero_add]
theorem zev{e:Nat}(w r:List Int)(h:w.length=r.length)(h1:∀ x∈w,x.natAbs<2 ^ e)(h2:∀ x∈r,x.natAbs<2 ^ e)(he:e≤60000000)(hr:r.length≤1000):z42 [L w,L r]=some (.int (dotL w r)):=by
 obtain⟨j,q⟩:=ze3 (g:=Tg.one 3) (F:=sSet [] 2 (fOp z0x (fN 2) (fOp z12 (fAt (fN 0) (fN 3)) (fAt (fN 1) (fN 3))))) (R:=fun i (c:Cell)=>[.sh false (L w),.sh false (L r),.sh true (.int ((List.range i).foldl (fun t k=>t+St.at0 w k*St.at0 r k) 0)),c]) r.length .no (fun i c hi=>⟨.sh false (.int i),by
  have a1:=zc3 (r:=w) (k:=i) (by omega)
  have a2:=zc3 (r:=r) (k:=i) hi
  have m:z17 (St.at0 w i) (St.at0 r i)=true:=z1V (St.z3X (Nat.two_pow_pos e) h1 i) (St.z3X (Nat.two_pow_pos e) h2 i) (by omega)
  rw[List.range_succ,List.foldl_append]
  generalize (List.range i).foldl (fun t k=>t+St.at0 w k*St.at0 r k) 0=t
  simp[cOf,a1,a2,m]⟩)
 unfold z42 z7z
 have q:forF (Tg.one 3) (sSet [] 2 (fOp z0x (fN 2) (fOp z12 (fAt (fN 0) (fN 3)) (fAt (fN 1) (fN 3))))) (z1Q 0 r.length) [.sh false (L w),.sh false (L r),.sh true (.int 0),.no]=some (.nx [.sh false (L w),.sh false (L r),.sh true (.int (dotL w r)),j]):=q
 simp[cOf,y13 r.length (by omega),q]
def okS(d:List Int)(x:List Int×Int):Bool:=if x.2=0 then decide (dotL x.1 d=0) else decide ((dotL x.1 d).fmod x.2=0)
theorem zog{d:List Int}{x:List Int×Int}:okS d x=true↔x.2∣dotL x.1 d:=by
 unfold okS
 by_cases h:x.2=0
 · rw[if_pos h,h,decide_eq_true_iff];exact Int.zero_dvd.symm
 · rw[if_neg h,decide_eq_true_iff]
   exact⟨Int.dvd_of_fmod_eq_zero,Int.fmod_eq_zero_of_dvd⟩
theorem zkT(a:Int):z53 [.int a,.int 0]=some (.int a):=by
 unfold z53 zbT
 simp[cOf,z0C]
theorem zoh(w r:List Int)(h:r.length=w.length):((r.zip w).map fun p=>p.1*p.2).sum=dotL w r:=by
 rw[ziq]
 unfold St.dt
 induction r generalizing w with
 | nil=>cases w with
  | nil=>rfl
  | cons x w=>cases h
 | cons y r ih=>cases w with
  | nil=>cases h
  | cons x w =>
   rw[List.zip_cons_cons,List.map_cons,List.sum_cons,List.length_cons,St.sm,ih w (by simpa using h),Int.mul_comm]
   rfl
theorem zew{e:Nat}(dd:Dt)(r w:List Int)(hdd:RowD dd r)(h:r.length=w.length)(h1:∀ x∈w,x.natAbs<2 ^ e)(h2:∀ x∈r,x.natAbs<2 ^ e)(he:e≤60000000):z5E [dd,L w]=some (.int (dotL w r)):=by
 have q:z0e 2 [] (iZip (fN 0) (fN 1)) (Tg.many [0,1]) fYes (fOp z12 (fN 0) (fN 1)) [.sh false dd,.sh false (L w)]=some (.nw,.lst ((r.zip w).map fun p => .int (p.1*p.2))):=by
  rw[z0j (e:=fun p:Int×Int => .tup [.int p.1,.int p.2]) (h:=fun p => .int (p.1*p.2)) (xs:=r.zip w) (by rcases hdd with rfl|rfl<;>simp[cOf,h,z4Q]) (fun p hp=>by
   have m:z17 p.1 p.2=true:=z1V (h2 _ (List.of_mem_zip hp).1) (h1 _ (List.of_mem_zip hp).2) (by omega)
   simp[cOf,m])]
 have e2:z4l ((r.zip w).map fun p=>Dt.int (p.1*p.2))=some ((r.zip w).map fun p=>p.1*p.2):=by
  have:=z81 ((r.zip w).map fun p=>p.1*p.2)
  rw[List.map_map]at this
  exact this
 have s:=zoh w r h
 unfold z5E z7p
 generalize (r.zip w).map (fun p=>Dt.int (p.1*p.2))=D at *
 generalize (r.zip w).map (fun p=>p.1*p.2)=D2 at *
 rcases hdd with rfl|rfl<;>simp[cOf,q,bSum,e2,s]
theorem zoi{e:Nat}{dd:Dt}{d:List Int}{x:List Int×Int}(hdd:RowD dd d)(h:d.length=x.1.length)(h1:∀ y∈x.1,y.natAbs<2 ^ e)(h2:∀ y∈d,y.natAbs<2 ^ e)(he:e≤60000000)(hp:0≤x.2):
   z58 [dd,tD x]=some (.int (if x.2=0 then dotL x.1 d else(dotL x.1 d).fmod x.2)):=by
 obtain⟨w,p⟩:=x
 have e1:=zew dd d w hdd h h1 h2 he
 have sn:∀(f:Fl) (d:Dt),(nrm f d).2=d:=fun _ _=>rfl
 clear hdd
 unfold z58 ze9 tD
 by_cases hp0:p=0
 · subst hp0
   have:=zkT (dotL w d)
   simp[cOf,sn,e1,this]
 · have:=zin (dotL w d) p (by dsimp only at hp;omega)
   simp[cOf,sn,e1,this,hp0]
structure Sc(n:Nat)(x:List Int×Int):Prop where
 len:x.1.length=n
 big:∀ y∈x.1,y.natAbs<2 ^ 5462
 pos:0≤x.2
theorem tilt0{n:Nat}{x:List Int×Int}{dd:Dt}{d:List Int}(s:Sc n x)(hdd:RowD dd d)(hd:d.length=n)(hb:∀ y∈d,y.natAbs<2 ^ 5462):∃ v,z58 [dd,tD x]=some (.int v)∧okS d x=decide (v=0):=by
 refine⟨_,zoi (e:=5462) hdd (by rw[hd,s.len]) s.big hb (by decide) s.pos,?_⟩
 unfold okS;split<;>rfl
theorem z3D(n:Nat)(b:List Int)(h:b.length=n):z1o [.int n,L b]=some .non:=by
 unfold z1o z2u
 simp[cOf,zaL,h]
theorem zoj{n:Nat}{x:List Int×Int}{one other:List Int}(hn:n≤6)(s:Sc n x)(h1:one.length=n)(h2:other.length=n)(hb:∀ y∈subR other one,y.natAbs<2 ^ 5462):z59 [L one,L other,tD x]=some (.bl (okS (subR other one) x)):=by
 have tk:=z9p other one (by omega)
 obtain⟨v,e,ok⟩:=tilt0 s (.inl rfl) (by rw[zcH (by omega)];exact h2) hb
 have n1:=z3D n one h1
 have n2:=z3D n other h2
 have l:=s.len
 rw[ok]
 obtain⟨w,p⟩:=x
 have l:w.length=n:=l
 have e:z58 [L (subR other one),.tup [L w,.int p]]=some (.int v):=e
 generalize subR other one=d at *
 unfold z59 zea tD
 simp[cOf,l,n1,n2,tk,e,z0C]
theorem zok{n:Nat}{x:List Int×Int}{bills:List (List Int)}(H:Hall n bills)(s:Sc n x):z5a [z0t n bills,tD x]=some (.bl (bills.all fun b=>okS b x)):=by
 have key:z0e 1 [1] (iSeq (fAt (fN 0) (fC (.int 1)))) (Tg.one 0) fYes (fOp opEq (z06 true z58 (z01 (fN 0) (z01 (fN 1) fNil))) (fC (.int 0))) [.sh false (z0t n bills),.sh false (tD x)]=some (.nw,.lst (bills.map fun b => .bl (okS b x))):=by
  rw[z0j (e:=T) (h:=fun b => .bl (okS b x)) (xs:=bills) (by simp[cOf]) (fun b hb=>by
   obtain⟨v,e,ok⟩:=tilt0 s (.inr rfl) (H.wide b hb) (fun y hy=>Nat.lt_of_lt_of_le (lt30 (H.small b hb y hy)) (Nat.pow_le_pow_right (by decide) (by decide)))
   have sn:∀(f:Fl) (d:Dt),(nrm f d).2=d:=fun _ _=>rfl
   rw[ok]
   generalize tD x=X at *
   simp[cOf,sn,e,z0C])]
 have bo:=z3U (fun b=>okS b x) bills
 have al:(bills.map fun b=>okS b x).all id=bills.all fun b=>okS b x:=by rw[List.all_map];rfl
 unfold z5a zeb
 generalize bills.map (fun b=>Dt.bl (okS b x))=D at *
 generalize bills.map (fun b=>okS b x)=D2 at *
 generalize tD x=X at *
 simp[cOf,key,bAll,bo,al]
theorem zaR{n:Nat}{x:List Int×Int}{one other:List Int}(hn:n≤6)(s:Sc n x)(h1:one.length=n)(h2:other.length=n)(hb:∀ y∈addR other (sclR (-1) one),y.natAbs<2 ^ 5462):z1F [L one,L other,tD x]=some (.bl (okS (addR other (sclR (-1) one)) x)):=by
 have p1:=zaQ other one (-1) (by omega) (by omega) (fun x _=>z2W (by decide))
 have hl:(addR other (sclR (-1) one)).length=n:=by rw[z1R (by rw[z0z];omega)];exact h2
 have hv:=zev (e:=5462) x.1 (addR other (sclR (-1) one)) (by rw[s.len,hl]) s.big hb (by decide) (by omega)
 have sp:=s.pos
 generalize addR other (sclR (-1) one)=d at *
 obtain⟨w,p⟩:=x
 have hv:z42 [L w,L d]=some (.int (dotL w d)):=hv
 have sp:0≤p:=sp
 unfold z1F z9m tD okS
 by_cases hp:p=0
 · subst hp
   simp[cOf,p1,hv,z0C]
 · simp[cOf,p1,hv,z0C,hp,z33 (show 0<p by omega)]
theorem zjv{n:Nat}{x:List Int×Int}{bills:List (List Int)}(H:Hall n bills)(s:Sc n x):z2M [LL bills,.int n,tD x]=some (.bl (bills.all fun b=>okS b x)):=by
 have n6:=H.n6
 have zc:z0e 1 [] (z0m (fN 1)) (Tg.one 0) fYes (fC (.int 0)) [.sh false (LL bills),.sh false (.int n),.sh false (tD x),.no,.no]=some (.nw,L (z29 n)):=by
  rw[z0j (e:=fun(k:Nat) => .int (0+(k:Int))) (h:=fun _ => .int 0) (xs:=List.range n) (by simp[cOf,y13 n (by omega),z0M]) (fun k _=>by simp[cOf])]
  simp[L,z29,List.map_const']
 have ev:∀ b∈bills,z1F [L (z29 n),L b,tD x]=some (.bl (okS b x)):=fun b hb=>by
  have e:addR b (sclR (-1) (z29 n))=b:=St.ext0 (by rw[z1R (by rw[z0z,z1M,H.wide b hb])]) fun k=>by
   rw[z3B (by rw[z0z,z1M,H.wide b hb]),z5C,z7n];omega
  have:=zaR (one:=z29 n) (other:=b) (by omega) s z1M (H.wide b hb) (by rw[e];exact fun y hy=>Nat.lt_of_lt_of_le (lt30 (H.small b hb y hy)) (Nat.pow_le_pow_right (by decide) (by decide)))
  rw[e]at this
  exact this
 have key:=z7o (g:=Tg.one 4) (F:=(sIf (fNot (fTru (z06 true z1F (z01 (fN 3) (z01 (fN 4) (z01 (fN 2) fNil)))))) (sRet (fC (.bl false))) z0y)) L (fun b=>okS b x=false) (fun c:Cell=>[.sh false (LL bills),.sh false (.int n),.sh false (tD x),.sh true (L (z29 n)),c]) .nw (.bl false) bills .no
  (fun b hb c hx=>by
   have e:=ev b hb
   rw[hx]at e
   have sn:∀(f:Fl) (d:Dt),(nrm f d).2=d:=fun _ _=>rfl
   generalize tD x=X at *
   simp[cOf,sn,e])
  (fun b hb c hx=>⟨.sh false (L b),by
   have e:=ev b hb
   rw[show okS b x=true by simpa using hx]at e
   have sn:∀(f:Fl) (d:Dt),(nrm f d).2=d:=fun _ _=>rfl
   generalize tD x=X at *
   simp[cOf,sn,e]⟩)
 unfold z2M z9n
 cases hb:bills.all (fun b=>okS b x) with
 | true =>
  rw[List.all_eq_true]at hb
  obtain⟨j,q⟩:=key.2 fun b hx=>by rw[hb b hx];exact Bool.noConfusion
  generalize tD x=X at *
  simp[cOf,zc,q]
 | false =>
  have q:=key.1 (Classical.byContradiction fun k=>by
   have:bills.all (fun b=>okS b x)=true:=List.all_eq_true.mpr fun b hx=>by
    cases h:okS b x with
    | true=>rfl
    | false=>exact absurd ⟨b,hx,h⟩ k
   rw[this]at hb;cases hb)
  generalize tD x=X at *
  simp[cOf,zc,q]
theorem zaa{n:Nat}{x:List Int×Int}(s:Sc n x):z2f [tD x,.int n]=some (.bl true):=by
 obtain⟨w,p⟩:=x
 have ir:=zda w n
 have l:w.length=n:=s.len
 rw[l,decide_eq_true rfl]at ir
 have iw:z1N [.int p]=some (.bl true):=by unfold z1N z5K;simp[cOf]
 have sp:0≤p:=s.pos
 unfold z2f z4x tD
 simp[cOf,ir,iw,sp,z15]
def bump(w:List Int):List Int:=match w with|[]=>[]|a::r=>(a+1)::r
def two(x:List Int×Int):St.Meas:=[(x.1,2*x.2),(bump x.1,x.2)]
theorem Sc.two{n:Nat}{x:List Int×Int}(s:Sc n x)(hb:∀ y∈x.1,y.natAbs<2 ^ 5461):∀ y∈two x,Sc n y:=fun y hy=>by
 have l:=s.len
 have p:=s.pos
 have big:=s.big
 obtain⟨w,q⟩:=x
 have h2:(2:Nat) ^ 5462=2*2 ^ 5461:=by rw[show(5462:Nat)=5461+1 from rfl,Nat.pow_succ,Nat.mul_comm]
 have h1:(1:Nat)≤2 ^ 5461:=Nat.one_le_two_pow
 rcases List.mem_cons.mp hy with rfl|hy
 · exact⟨l,big,by dsimp only at p ⊢;omega⟩
 · rw[List.mem_singleton.mp hy]
   refine⟨?_,?_,p⟩
   · show(bump w).length=n
     rw[←l]
     cases w<;>rfl
   · show ∀ z∈bump w,z.natAbs<2 ^ 5462
     cases w with
     | nil=>intro z hz;cases hz
     | cons a r =>
      intro z hz
      rcases List.mem_cons.mp hz with rfl|hz
      · have:=hb a List.mem_cons_self
        omega
      · exact big z (List.mem_cons_of_mem _ hz)
abbrev XE:FE:=(fLst (z01 (fTup (z01 (fBlt bLst (z01 (fAt (fN 6) (fC (.int 0))) fNil)) (z01 (fOp z12 (fC (.int 2)) (fAt (fN 6) (fC (.int 1)))) fNil))) (z01 (fTup (z01 (fOp z0x (fLst (z01 (fOp z0x (fAt (fAt (fN 6) (fC (.int 0))) (fC (.int 0))) (fC (.int 1))) fNil)) (fSl (fAt (fN 6) (fC (.int 0))) (z1s (fC (.int 1))) z0A)) (z01 (fAt (fN 6) (fC (.int 1))) fNil))) fNil)))
abbrev XF:FS:=sWr wExt 8 XE
theorem xe_eq{a p:Int}{r:List Int}(hr:r.length≤1000)(d0 d1 d2 d3 d4 d5 d7 d8 d9:Cell):∃ fl,XE [d0,d1,d2,d3,d4,d5,.sh false (tD (a::r,p)),d7,d8,d9]=some (fl,.lst ((two (a::r,p)).map tD)):=by
 have c:=zcL [a+1] r (by simp;omega)
 have c:z0x (.lst [.int (a+1)]) (.lst (r.map Dt.int))=some (.nw,L ((a+1)::r)):=c
 have m:z17 2 p=true:=z2W (by decide)
 have ct:cutD (Dt.int a::r.map Dt.int) (some 1) none=r.map Dt.int:=by
  have:=z4S (Dt.int a::r.map Dt.int) 1
  simpa using this
 have nl:newL (Dt.int a::r.map Dt.int)=(.nw,.lst (Dt.int a::r.map Dt.int)):=z2q (a::r)
 refine⟨.nw,?_⟩
 unfold XE two bump tD
 simp[cOf,L,ct,z2q,nl,c,m]
theorem zkU{n:Nat}(d0 d1 d2 d3 d4 d5 d7:Cell)(n1:1≤n):∀(P X:St.Meas) (c6:Cell) (f:Bool),(∀ x∈P,Sc n x)→n≤1000→X.length+2*P.length≤1000→∃ c6' f',forF (Tg.one 6) XF (P.map tD) [d0,d1,d2,d3,d4,d5,c6,d7,.ow f (X.map tD),.no]=some (.nx [d0,d1,d2,d3,d4,d5,c6',d7,.ow f' ((X++P.flatMap two).map tD),.no])
 | [],X,c6,f,_,_,_=>⟨c6,f,by simp[forF]⟩
 | x::P,X,c6,f,hs,hn,hl=>by
  have s:=hs x List.mem_cons_self
  have l:=s.len
  rw[List.length_cons]at hl
  obtain⟨w,p⟩:=x
  cases w with
  | nil=>exact absurd l (by simp;omega)
  | cons a r =>
   have l:r.length+1=n:=l
   obtain⟨fl,e⟩:=xe_eq (a:=a) (p:=p) (r:=r) (by omega) (z1d d0) (z1d d1) (z1d d2) (z1d d3) (z1d d4) (z1d d5) (z1d d7) .no .no
   obtain⟨c6',f',ih⟩:=zkU d0 d1 d2 d3 d4 d5 d7 n1 P (X++two (a::r,p)) (.sh false (tD (a::r,p))) (f&&fl.isFr) (fun y hy=>hs y (List.mem_cons_of_mem _ hy)) hn (by rw[List.length_append];show X.length+2+2*P.length≤1000;omega)
   refine⟨c6',f',?_⟩
   have st:(Tg.put (Tg.one 6) (tD (a::r,p)) [d0,d1,d2,d3,d4,d5,c6,d7,.ow f (X.map tD),.no]).bind XF=some (.nx [d0,d1,d2,d3,d4,d5,.sh false (tD (a::r,p)),d7,.ow (f&&fl.isFr) ((X++two (a::r,p)).map tD),.no]):=by
    have we:wExt (X.map tD) (.lst ((two (a::r,p)).map tD))=some ((X++two (a::r,p)).map tD):=by
     unfold wExt
     dsimp only
     rw[if_pos (by rw[List.length_map,List.length_map];show X.length+2≤1000000;omega),List.map_append]
    show((z4O [d0,d1,d2,d3,d4,d5,.sh false (tD (a::r,p)),d7,.ow f (X.map tD),.no] 8).bind fun o=>(XE (z1e [d0,d1,d2,d3,d4,d5,.sh false (tD (a::r,p)),d7,.ow f (X.map tD),.no])).bind fun x=>(wExt o.2 x.2).map fun ds=>Oc.nx ([d0,d1,d2,d3,d4,d5,.sh false (tD (a::r,p)),d7,.ow f (X.map tD),.no].set 8 (.ow (o.1&&x.1.isFr) ds)))=_
    have ow:z4O [d0,d1,d2,d3,d4,d5,.sh false (tD (a::r,p)),d7,.ow f (X.map tD),.no] 8=some (f,X.map tD):=rfl
    have mk:z1e [d0,d1,d2,d3,d4,d5,.sh false (tD (a::r,p)),d7,.ow f (X.map tD),.no]=[z1d d0,z1d d1,z1d d2,z1d d3,z1d d4,z1d d5,.sh false (tD (a::r,p)),z1d d7,.no,.no]:=rfl
    rw[ow,mk,z0n,e,z0n]
    dsimp only
    rw[we]
    rfl
   rw[List.map_cons,z1a,List.flatMap_cons,←List.append_assoc,←ih,st]
   rfl
theorem zkV(ns:List Int)(h:ns.length≤63):zii [.scr ns]=some (.bl true):=by
 have H:=zel ns
 have eb:=zec ns
 generalize z28 ns=bills at *
 generalize z1k ns=n at *
 have n6:=H.n6
 have n1:=H.n1
 have m8:=H.m8
 have eh:=H.made
 obtain⟨S,es,G,sS⟩:=zek H
 obtain⟨M,em,Z⟩:=zdc H es G
 have ec:=zju em
 obtain⟨one,other,b,ek,K⟩:=zc2 ns H
 have l1:=K.l1
 have l2:=K.l2
 have cp:=copies bills [.sh false (.scr ns),.sh true (.tup [.int n,LL bills]),.sh true (.int n),.no,.no,.no,.no,.no,.no,.no] (fAt (fN 1) (fC (.int 1))) .fr (by simp[cOf])
 have same:addR other (sclR (-1) one)=subR other one:=St.ext0 (by rw[z1R (by rw[z0z];omega),zcH (by omega)]) fun k=>by rw[z3B (by rw[z0z];omega),z5C,zkJ (by omega)];omega
 have sbt:∀ x∈subR other one,x.natAbs<2 ^ 5462:=by
  have ssm:St.Lt (2 ^ 211) (subR other one):=by
    rw[←same]
    exact zkQ (by rw[z0z];omega) K.s2 (fun k=>by
      rw[z5C]
      have:=K.s1.mono (show 2 ^ 100≤2 ^ 210 by decide) k
      omega)
  exact lt_mem (ssm.mono (Nat.pow_le_pow_right (by decide) (by decide)))
 have ev1:∀ x,Sc n x→z59 [L one,L other,tD x]=some (.bl (okS (subR other one) x)):=fun x s=>zoj n6 s l1 l2 sbt
 have ev2:∀ x,Sc n x→z1F [L one,L other,tD x]=some (.bl (okS (subR other one) x)):=fun x s=>by
  have:=zaR n6 s l1 l2 (by rw[same];exact sbt)
  rw[same]at this;exact this
 have fr1:∀ x,Sc n x→z5a [z0t n bills,tD x]=some (.bl (bills.all fun b=>okS b x)):=fun x s=>zok H s
 have fr2:∀ x,Sc n x→z2M [LL bills,.int n,tD x]=some (.bl (bills.all fun b=>okS b x)):=fun x s=>zjv H s
 have p61:(2:Nat) ^ 5461≤2 ^ 5462:=Nat.pow_le_pow_right (by decide) (by decide)
 have hq:∀ x∈M.filter (fun x=>!decide (x.2=1)),Sc n x∧(∀ y∈x.1,y.natAbs<2 ^ 5461)∧(bills.all fun b=>okS b x)=true:=fun x hx=>by
  have hm:=(List.mem_filter.mp hx).1
  have big:=(Z.big x hm).2
  have pos:0≤x.2:=by
    obtain⟨i,hi,rfl⟩:=List.getElem_of_mem hm
    have e:M[i].2=St.mp M i:=by unfold St.mp;rw[List.getD,List.getElem?_eq_getElem hi];rfl
    rw[e]
    by_cases q:i<S.length
    · have:=Z.pos i q;omega
    · rw[Z.zero i (by omega) (by rw[←Z.len];exact hi)];omega
  refine⟨⟨Z.ms.rows x hm,fun y hy=>Nat.lt_of_lt_of_le (big y hy) p61,pos⟩,big,List.all_eq_true.mpr fun bl hb=>zog.mpr ?_⟩
  obtain⟨i,hi,rfl⟩:=List.getElem_of_mem hm
  have sp:Lat.Span (St.vecs S) (fun k=>St.at0 bl k):=G.span.iff.mpr (St.z0f hb)
  have:=(Z.ms.ker _ (fun k hk=>St.z1l (by rw[H.wide bl hb];exact hk))).mp sp i hi
  unfold St.mw St.mp at this
  rw[List.getD,List.getElem?_eq_getElem hi]at this
  rw[ziq,H.wide bl hb]
  exact this
 generalize M.filter (fun x=>!decide (x.2=1))=Q at *
 have sn:∀(f:Fl) (d:Dt),(nrm f d).2=d:=fun _ _=>rfl
 have nb:∀ c:Bool,opNe (.bl c) (.bl c)=some (.nw,.bl false):=fun c=>by cases c<;>simp[opNe,opEq]<;>exact⟨rfl,rfl⟩
 have nt:z8W (.bl true) (.bl true)=some (.nw,.bl false):=rfl
 obtain⟨j1,lp1⟩:=z3T (g:=Tg.one 6) (F:=(sSeq (sIf (fOr (fNot (fTru (z06 true z2f (z01 (fN 6) (z01 (fN 2) fNil))))) (fNot (fTru (z06 true z2M (z01 (fAt (fN 1) (fC (.int 1))) (z01 (fN 2) (z01 (fN 6) fNil))))))) (sRet (fC (.bl false))) z0y)
 (sSeq (sIf (z0o (fOp z8W (z06 true z5a (z01 (fN 3) (z01 (fN 6) fNil))) (fC (.bl true)))) (sRet (fC (.bl false))) z0y)
 (sSeq (sSet [] 7 (z06 true z59 (z01 (fBlt bLst (z01 (fAt (fN 4) (fC (.int 0))) fNil)) (z01 (fBlt bLst (z01 (fAt (fN 4) (fC (.int 1))) fNil)) (z01 (fN 6) fNil)))))
 (sIf (fOr (fNot (fTru (fIsi "bool" (fN 7)))) (z0o (fOp opNe (fN 7) (z06 true z1F (z01 (fAt (fN 4) (fC (.int 0))) (z01 (fAt (fN 4) (fC (.int 1))) (z01 (fN 6) fNil))))))) (sRet (fC (.bl false))) z0y))))) (e:=tD) (R:=fun(_:Unit) (c:Cell×Cell)=>[.sh false (.scr ns),.sh true (.tup [.int n,LL bills]),.sh true (.int n),.sh true (z0t n bills),.sh true (.tup [L one,L other,.bl b]),.sh false (MD Q),c.1,c.2,.no,.no]) (step:=fun _ _=>()) Q () (.no,.no)
  (fun _ x c hx=>⟨(.sh false (tD x),.sh true (.bl (okS (subR other one) x))),by
    obtain⟨s,_,fa⟩:=hq x hx
    have e1:=zaa s
    have e2:=fr2 x s
    have e3:=fr1 x s
    rw[fa]at e2 e3
    have e4:=ev1 x s
    have e5:=ev2 x s
    generalize okS (subR other one) x=c1 at *
    generalize tD x=X at *
    generalize MD Q=Y at *
    simp[cOf,sn,e1,e2,e3,e4,e5,nt,nb]⟩)
 have er:=z5d ns 30 n 0 (by decide) (by omega) (by decide) (by decide)
 have lr:=z3V ns 30 n 0
 have br:=z4R ns 30 n 0
 generalize z3w ns 30 n 0=rw0 at *
 have ce:=z0W ns 37 (by decide)
 generalize z0g ns 37=c37 at *
 have s0:Sc n (rw0,c37.fmod 13):=⟨lr,fun y hy=>Nat.lt_of_lt_of_le (lt30 (br y hy)) (Nat.pow_le_pow_right (by decide) (by decide)),Int.fmod_nonneg_of_pos c37 (by decide)⟩
 obtain⟨c6,f8,lp2⟩:=zkU (n:=n) (.sh false (.scr ns)) (.sh true (.tup [.int n,LL bills])) (.sh true (.int n)) (.sh true (z0t n bills)) (.sh true (.tup [L one,L other,.bl b])) (.sh false (MD Q)) j1.2 n1 (Q.take 2) [(rw0,c37.fmod 13)] j1.1 true (fun x hx=>(hq x (List.mem_of_mem_take hx)).1) (by omega) (by rw[List.length_take];show 1+2*_≤1000;omega)
 have hX:∀ y∈[(rw0,c37.fmod 13)]++(Q.take 2).flatMap two,Sc n y:=fun y hy=>by
  rcases List.mem_append.mp hy with hy|hy
  · rw[List.mem_singleton.mp hy];exact s0
  · obtain⟨x,hx,hy⟩:=List.mem_flatMap.mp hy
    obtain⟨s,big,_⟩:=hq x (List.mem_of_mem_take hx)
    exact s.two big y hy
 generalize [(rw0,c37.fmod 13)]++(Q.take 2).flatMap two=X at *
 obtain⟨j3,lp3⟩:=z3T (g:=Tg.one 9) (F:=(sSeq (sSet [] 7 (z06 true z5a (z01 (fN 3) (z01 (fTup (z01 (fBlt bLst (z01 (fAt (fN 9) (fC (.int 0))) fNil)) (z01 (fAt (fN 9) (fC (.int 1))) fNil))) fNil))))
 (sSeq (sIf (fOr (fNot (fTru (fIsi "bool" (fN 7)))) (z0o (fOp opNe (fN 7) (z06 true z2M (z01 (fAt (fN 1) (fC (.int 1))) (z01 (fN 2) (z01 (fN 9) fNil))))))) (sRet (fC (.bl false))) z0y)
 (sIf (z0o (fOp opNe (z06 true z59 (z01 (fBlt bLst (z01 (fAt (fN 4) (fC (.int 0))) fNil)) (z01 (fBlt bLst (z01 (fAt (fN 4) (fC (.int 1))) fNil)) (z01 (fN 9) fNil)))) (z06 true z1F (z01 (fAt (fN 4) (fC (.int 0))) (z01 (fAt (fN 4) (fC (.int 1))) (z01 (fN 9) fNil)))))) (sRet (fC (.bl false))) z0y)))) (e:=tD) (R:=fun(_:Unit) (c:Cell×Cell)=>[.sh false (.scr ns),.sh true (.tup [.int n,LL bills]),.sh true (.int n),.sh true (z0t n bills),.sh true (.tup [L one,L other,.bl b]),.sh false (MD Q),c6,c.1,.sh f8 (.lst (X.map tD)),c.2]) (step:=fun _ _=>()) X () (j1.2,.no)
  (fun _ x c hx=>⟨(.sh true (.bl (bills.all fun b=>okS b x)),.sh false (tD x)),by
    have s:=hX x hx
    have e2:=fr2 x s
    have e3:=fr1 x s
    have e4:=ev1 x s
    have e5:=ev2 x s
    generalize okS (subR other one) x=c1 at *
    generalize (bills.all fun b=>okS b x)=c2 at *
    obtain⟨w,p⟩:=x
    unfold tD at *
    generalize MD Q=Y at *
    simp[cOf,sn,e2,e3,e4,e5,nb]⟩)
 have nf:nrm .sh (MD Q)=(.sh,MD Q):=rfl
 have sq:seqD (MD Q)=some (Q.map tD):=rfl
 have it2:∀ ca cb:Cell,iSeq (fSl (fN 5) z0A (z1s (fC (.int 2)))) [.sh false (.scr ns),.sh true (.tup [.int n,LL bills]),.sh true (.int n),.sh true (z0t n bills),.sh true (.tup [L one,L other,.bl b]),.sh false (MD Q),ca,cb,.no,.no]=some ((Q.take 2).map tD):=by
  intro ca cb
  have ct:cutD (Q.map tD) none (some 2)=(Q.map tD).take 2:=z92 (Q.map tD) 2
  rw[List.map_take]
  unfold MD
  have e:(Q.map fun x=>Dt.tup [L x.1,.int x.2])=Q.map tD:=rfl
  rw[e]
  generalize Q.map tD=D at *
  simp[cOf,ct,newL]
 have it3:∀ ca cb:Cell,iSeq (fN 8) [.sh false (.scr ns),.sh true (.tup [.int n,LL bills]),.sh true (.int n),.sh true (z0t n bills),.sh true (.tup [L one,L other,.bl b]),.sh false (MD Q),ca,cb,.sh f8 (.lst (X.map tD)),.no]=some (X.map tD):=by
  intro ca cb
  generalize X.map tD=D at *
  simp[cOf]
 refine z3x (f := .nw) rfl ?_ rfl
 unfold zkK
 refine run (ρ':=[.sh false (.scr ns),.sh true (.tup [.int n,LL bills]),.no,.no,.no,.no,.no,.no,.no,.no]) (by simp[cOf,eb]) ?_
 refine run (ρ':=[.sh false (.scr ns),.sh true (.tup [.int n,LL bills]),.sh true (.int n),.no,.no,.no,.no,.no,.no,.no]) (by simp[cOf]) ?_
 refine run (ρ':=[.sh false (.scr ns),.sh true (.tup [.int n,LL bills]),.sh true (.int n),.sh true (z0t n bills),.no,.no,.no,.no,.no,.no]) (by simp[cOf,cp,eh]) ?_
 refine run (ρ':=[.sh false (.scr ns),.sh true (.tup [.int n,LL bills]),.sh true (.int n),.sh true (z0t n bills),.sh true (.tup [L one,L other,.bl b]),.no,.no,.no,.no,.no]) (by simp[cOf,ek]) ?_
 refine run (ρ':=[.sh false (.scr ns),.sh true (.tup [.int n,LL bills]),.sh true (.int n),.sh true (z0t n bills),.sh true (.tup [L one,L other,.bl b]),.sh false (MD Q),.no,.no,.no,.no]) (by
  generalize MD Q=Y at *
  simp[cOf,ec,nf]
  try rfl) ?_
 refine run (ρ':=[.sh false (.scr ns),.sh true (.tup [.int n,LL bills]),.sh true (.int n),.sh true (z0t n bills),.sh true (.tup [L one,L other,.bl b]),.sh false (MD Q),.no,.no,.no,.no]) (by
  have ii:(MD Q) = .lst (Q.map tD):=rfl
  rw[ii]
  simp[cOf]) ?_
 refine run (ρ':=[.sh false (.scr ns),.sh true (.tup [.int n,LL bills]),.sh true (.int n),.sh true (z0t n bills),.sh true (.tup [L one,L other,.bl b]),.sh false (MD Q),j1.1,j1.2,.no,.no]) (by
  show(iSeq (fN 5) [.sh false (.scr ns),.sh true (.tup [.int n,LL bills]),.sh true (.int n),.sh true (z0t n bills),.sh true (.tup [L one,L other,.bl b]),.sh false (MD Q),.no,.no,.no,.no]).bind _=_
  have it1:iSeq (fN 5) [.sh false (.scr ns),.sh true (.tup [.int n,LL bills]),.sh true (.int n),.sh true (z0t n bills),.sh true (.tup [L one,L other,.bl b]),.sh false (MD Q),.no,.no,.no,.no]=some (Q.map tD):=by
    generalize MD Q=Y at *
    simp[cOf,nf,sq]
  rw[it1]
  exact lp1) ?_
 refine run (ρ':=[.sh false (.scr ns),.sh true (.tup [.int n,LL bills]),.sh true (.int n),.sh true (z0t n bills),.sh true (.tup [L one,L other,.bl b]),.sh false (MD Q),j1.1,j1.2,.ow true ([(rw0,c37.fmod 13)].map tD),.no]) (by
  simp[cOf,er,ce,z3a]
  try rfl) ?_
 refine run (ρ':=[.sh false (.scr ns),.sh true (.tup [.int n,LL bills]),.sh true (.int n),.sh true (z0t n bills),.sh true (.tup [L one,L other,.bl b]),.sh false (MD Q),c6,j1.2,.ow f8 (X.map tD),.no]) (by
  show(iSeq (fSl (fN 5) z0A (z1s (fC (.int 2)))) (z1e [.sh false (.scr ns),.sh true (.tup [.int n,LL bills]),.sh true (.int n),.sh true (z0t n bills),.sh true (.tup [L one,L other,.bl b]),.sh false (MD Q),j1.1,j1.2,.ow true ([(rw0,c37.fmod 13)].map tD),.no])).bind _=_
  have mk:z1e [.sh false (.scr ns),.sh true (.tup [.int n,LL bills]),.sh true (.int n),.sh true (z0t n bills),.sh true (.tup [L one,L other,.bl b]),.sh false (MD Q),j1.1,j1.2,.ow true ([(rw0,c37.fmod 13)].map tD),.no]=[.sh false (.scr ns),.sh true (.tup [.int n,LL bills]),.sh true (.int n),.sh true (z0t n bills),.sh true (.tup [L one,L other,.bl b]),.sh false (MD Q),z1d j1.1,z1d j1.2,.no,.no]:=rfl
  rw[mk,it2]
  exact lp2) ?_
 refine run (ρ':=[.sh false (.scr ns),.sh true (.tup [.int n,LL bills]),.sh true (.int n),.sh true (z0t n bills),.sh true (.tup [L one,L other,.bl b]),.sh false (MD Q),c6,j3.1,.sh f8 (.lst (X.map tD)),j3.2]) (by
  show(iSeq (fN 8) (z1e [.sh false (.scr ns),.sh true (.tup [.int n,LL bills]),.sh true (.int n),.sh true (z0t n bills),.sh true (.tup [L one,L other,.bl b]),.sh false (MD Q),c6,j1.2,.sh f8 (.lst (X.map tD)),.no])).bind _=_
  have mk:z1e [.sh false (.scr ns),.sh true (.tup [.int n,LL bills]),.sh true (.int n),.sh true (z0t n bills),.sh true (.tup [L one,L other,.bl b]),.sh false (MD Q),c6,j1.2,.sh f8 (.lst (X.map tD)),.no]=[.sh false (.scr ns),.sh true (.tup [.int n,LL bills]),.sh true (.int n),.sh true (z0t n bills),.sh true (.tup [L one,L other,.bl b]),.sh false (MD Q),z1d c6,z1d j1.2,.sh f8 (.lst (X.map tD)),.no]:=rfl
  rw[mk,it3]
  exact lp3) ?_
 simp[cOf]
end
def top(i:Nat):Stmt:=PySem.Challenge.pw_changehall_k14_scales_fair.main.body.getD i (.Pass ⟨0,0,0,0⟩)
abbrev z6e:Stmt:=top 1
theorem zdd:FnScope ["value"] ["value"] (z04 z6e):=scm
abbrev z6K:Stmt:=top 2
theorem zjw:FnScope ["value", "length"] ["value", "length"] (z04 z6K):=scm
abbrev z4y:Stmt:=top 3
theorem zde:FnScope ["length", "one_at"] ["length", "one_at"] (z04 z4y):=scm
abbrev z8x:Stmt:=top 4
theorem zkW:FnScope ["one", "other"] ["one", "other"] (z04 z8x):=scm
abbrev z8y:Stmt:=top 5
theorem zkX:FnScope ["one", "other"] ["one", "other"] (z04 z8y):=scm
abbrev z6L:Stmt:=top 6
theorem zjx:FnScope ["row", "often"] ["row", "often"] (z04 z6L):=scm
abbrev z5M:Stmt:=top 7
theorem zex:FnScope ["row", "weights"] ["row", "weights"] (z04 z5M):=scm
abbrev z7E:Stmt:=top 8
theorem z6f:FnScope ["row", "spot", "number"] ["row"] (z04 z7E):=scm
abbrev z5h:Stmt:=top 16
theorem zc5:FnScope ["value"] ["value"] (z04 z5h):=scm
abbrev z5N:Stmt:=top 17
theorem zey:FnScope ["value", "kinds"] ["value", "kinds"] (z04 z5N):=scm
abbrev z4z:Stmt:=top 18
theorem zab:FnScope ["kinds"] ["kinds"] (z04 z4z):=scm
abbrev z5i:Stmt:=top 19
theorem zc6:FnScope ["bill", "kinds"] ["bill", "kinds"] (z04 z5i):=scm
abbrev z5O:Stmt:=top 21
theorem zez:FnScope ["kinds", "rows"] ["kinds", "rows"] (z04 z5O):=scm
abbrev z7F:Stmt:=top 20
theorem z9B:FnScope ["kinds", "bills", "bill"] ["kinds", "bills"] (z04 z7F):=scm
abbrev z2y:Stmt:=top 22
theorem z6M:FnScope ["kinds", "basket"] ["kinds", "basket"] (z04 z2y):=scm
abbrev z5j:Stmt:=top 24
theorem z23:FnScope ["a", "b", "upper", "lower", "often", "left"] ["a", "b"] (z04 z5j):=scm
abbrev zeA:Stmt:=top 25
theorem zol:FnScope ["a", "part"] ["a", "part"] (z04 zeA):=scm
abbrev z7G:Stmt:=top 26
theorem z4A:FnScope ["numbers", "found", "number"] ["numbers"] (z04 z7G):=scm
abbrev z6g:Stmt:=top 28
theorem z1G:FnScope ["row", "rungs", "left", "counts", "rung", "spot", "often"] ["row", "rungs"] (z04 z6g):=scm
abbrev z7H:Stmt:=top 29
theorem zeB:FnScope ["row", "rungs"] ["row", "rungs"] (z04 z7H):=scm
abbrev z7I:Stmt:=top 30
theorem z3q:FnScope ["rung", "row", "spot", "found", "upper", "lower"] ["rung", "row"] (z04 z7I):=scm
abbrev z5k:Stmt:=top 31
theorem zc7:FnScope ["row"] ["row"] (z04 z5k):=scm
abbrev z4B:Stmt:=top 32
theorem z24:FnScope ["rungs", "row", "found", "left", "places", "pair"] ["rungs", "row"] (z04 z4B):=scm
abbrev z9C:Stmt:=top 33
theorem z7J:FnScope ["rungs", "found", "rung"] ["rungs"] (z04 z9C):=scm
abbrev z7K:Stmt:=top 34
theorem z4C:FnScope ["rows", "rungs", "row"] ["rows"] (z04 z7K):=scm
abbrev z2g:Stmt:=top 35
theorem z8n:FnScope ["rows", "tags"] ["rows", "tags"] (z04 z2g):=scm
abbrev z1P:Stmt:=top 36
theorem z6N:FnScope ["rungs", "width"] ["rungs", "width"] (z04 z1P):=scm
abbrev zc8:Stmt:=top 37
theorem zkY:FnScope ["hall"] ["hall"] (z04 zc8):=scm
abbrev z6O:Stmt:=top 39
theorem zjy:FnScope ["rows", "width"] ["rows", "width"] (z04 z6O):=scm
abbrev z4D:Stmt:=top 40
theorem z5l:FnScope ["rows", "place", "row"] ["rows"] (z04 z4D):=scm
abbrev z8z:Stmt:=top 41
theorem zkZ:FnScope ["row", "part"] ["row", "part"] (z04 z8z):=scm
abbrev z37:Stmt:=top 42
theorem z1H:FnScope ["rows", "tags", "whole", "many", "square", "weights", "other", "both"] ["rows", "tags", "whole"] (z04 z37):=scm
abbrev z9D:Stmt:=top 43
theorem z38:FnScope ["one", "other", "found", "common", "least", "upper", "lower"] ["one", "other"] (z04 z9D):=scm
abbrev z5P:Stmt:=top 44
theorem z3r:FnScope ["measured", "found", "first", "second", "pair"] ["measured"] (z04 z5P):=scm
abbrev z1I:Stmt:=top 45
theorem z1t:FnScope ["hall", "kinds", "rungs", "many", "both", "square", "whole", "bound"] ["hall"] (z04 z1I):=scm
abbrev z6P:Stmt:=top 47
theorem zjz:FnScope ["hall"] ["hall"] (z04 z6P):=scm
abbrev zeC:Stmt:=top 48
theorem zom:FnScope ["way", "scale"] ["way", "scale"] (z04 zeC):=scm
abbrev zeD:Stmt:=top 49
theorem zir:FnScope ["one", "other", "scale", "kinds"] ["one", "other", "scale"] (z04 zeD):=scm
abbrev zc9:Stmt:=top 50
theorem zon:FnScope ["hall", "scale"] ["hall", "scale"] (z04 zc9):=scm
abbrev z5m:Stmt:=top 52
theorem zca:FnScope ["_law_script", "_law_k"] ["_law_script", "_law_k"] (z04 z5m):=scm
abbrev z7L:Stmt:=top 53
theorem zeE:FnScope ["_law_found"] ["_law_found"] (z04 z7L):=scm
abbrev z6h:Stmt:=top 54
theorem z86:FnScope ["_law_found", "_law_size", "_law_number_here"] ["_law_found", "_law_size"] (z04 z6h):=scm
abbrev z6i:Stmt:=top 55
theorem z3E:FnScope ["_law_cell", "_law_mode", "_law_number_here", "_law_wide"] ["_law_cell", "_law_mode"] (z04 z6i):=scm
abbrev z8A:Stmt:=top 56
theorem zl0:FnScope ["_law_script", "_law_at", "_law_size", "_law_mode"] ["_law_script", "_law_at", "_law_size", "_law_mode"] (z04 z8A):=scm
abbrev z5Q:Stmt:=top 57
theorem z1v:FnScope ["_law_script", "_law_mode", "_law_kinds", "_law_many"] ["_law_script"] (z04 z5Q):=scm
abbrev z6Q:Stmt:=top 58
theorem z6R:FnScope ["_law_size", "_law_rows", "_law_times", "_law_made", "_law_j"] ["_law_size", "_law_rows", "_law_times"] (z04 z6Q):=scm
abbrev z6S:Stmt:=top 59
theorem zjA:FnScope ["_law_one", "_law_other", "_law_times"] ["_law_one", "_law_other", "_law_times"] (z04 z6S):=scm
abbrev z7M:Stmt:=top 60
theorem z4E:FnScope ["_law_weights", "_law_row_here", "_law_made", "_law_k"] ["_law_weights", "_law_row_here"] (z04 z7M):=scm
abbrev z5n:Stmt:=top 61
theorem z2h:FnScope ["_law_script", "_law_kinds", "_law_bills_here", "_law_one", "_law_other", "_law_uses"] ["_law_script", "_law_kinds", "_law_bills_here"] (z04 z5n):=scm
abbrev z9E:Stmt:=top 62
theorem zaS:FnScope ["_law_one", "_law_other", "_law_scale", "_law_heavy_here"] ["_law_one", "_law_other", "_law_scale"] (z04 z9E):=scm
abbrev z6T:Stmt:=top 63
theorem z7N:FnScope ["_law_bills_here", "_law_kinds", "_law_scale", "_law_empty", "_law_bill"] ["_law_bills_here", "_law_kinds", "_law_scale"] (z04 z6T):=scm
abbrev z4F:Stmt:=top 64
theorem zac:FnScope ["_law_scale", "_law_kinds"] ["_law_scale", "_law_kinds"] (z04 z4F):=scm
abbrev zis:Stmt:=top 65
theorem z2Q:FnScope ["_law_script", "_law_drawn", "_law_kinds", "_law_hall", "_law_pair", "_law_rows", "_law_scale", "_law_said", "_law_some", "_law_other"] ["_law_script"] (z04 zis):=scm
set_option genInjectivity false in
structure Adr where
 z9I:Addr
 z9J:FuncData
 zdm:Addr
 zdn:FuncData
 z9K:Addr
 z9L:FuncData
 zix:Addr
 ziy:FuncData
 ziz:Addr
 ziA:FuncData
 zdo:Addr
 zdp:FuncData
 zaX:Addr
 zaY:FuncData
 zaZ:Addr
 zb0:FuncData
 z88:Addr
 z89:FuncData
 zb1:Addr
 zb2:FuncData
 z6W:Addr
 z6X:FuncData
 z8a:Addr
 z8b:FuncData
 zb3:Addr
 zb4:FuncData
 zb5:Addr
 zb6:FuncData
 z46:Addr
 z47:FuncData
 zdq:Addr
 zdr:FuncData
 znh:Addr
 zni:FuncData
 zb7:Addr
 zb8:FuncData
 z9M:Addr
 z9N:FuncData
 zb9:Addr
 zba:FuncData
 zbb:Addr
 zbc:FuncData
 z8c:Addr
 z8d:FuncData
 z9O:Addr
 z9P:FuncData
 zds:Addr
 zdt:FuncData
 zbd:Addr
 zbe:FuncData
 z5p:Addr
 z5q:FuncData
 z48:Addr
 z49:FuncData
 ziB:Addr
 ziC:FuncData
 zdu:Addr
 zdv:FuncData
 z9Q:Addr
 z9R:FuncData
 ziD:Addr
 ziE:FuncData
 zbf:Addr
 zbg:FuncData
 zdw:Addr
 zdx:FuncData
 zbh:Addr
 zbi:FuncData
 z9S:Addr
 z9T:FuncData
 zdy:Addr
 zdz:FuncData
 znj:Addr
 znk:FuncData
 znl:Addr
 znm:FuncData
 znn:Addr
 zno:FuncData
 z8e:Addr
 z8f:FuncData
 zbj:Addr
 zbk:FuncData
 z9U:Addr
 z9V:FuncData
 z9W:Addr
 z9X:FuncData
 ziF:Addr
 ziG:FuncData
 zbl:Addr
 zbm:FuncData
 ziH:Addr
 ziI:FuncData
 zdA:Addr
 zdB:FuncData
 zbn:Addr
 zbo:FuncData
 z8g:Addr
 z8h:FuncData
 zdC:Addr
 zdD:FuncData
 zdE:Addr
 zdF:FuncData
 z6Y:Addr
 z6Z:FuncData
 a_law:Addr
 ziJ:FuncData
 z30:Tok
 z31:Tok
structure Facts(K:PySem.W.Frag)(mg:Str→Option Value)(A:Adr):Prop where
 n_abs:mg "abs" = none
 znp:mg "all" = none
 n_any:mg "any" = none
 zcf:mg "bool" = none
 z2N:mg "enumerate" = none
 n_int:mg "int" = none
 z0O:mg "isinstance" = none
 z2l:mg "len" = none
 z1J:mg "list" = none
 z1C:mg "range" = none
 zhJ:mg "reversed" = none
 znq:mg "sorted" = none
 n_sum:mg "sum" = none
 z8B:mg "tuple" = none
 ziK:mg "zip" = none
 zcg:mg "MOST_BILLS" = some (.int 8 A.z30)
 zch:mg "MOST_KINDS" = some (.int 6 A.z31)
 z6l:Df K mg "is_whole" z6e ["value"] A.z9I A.z9J
 z9Y:Df K mg "is_row" z6K ["value", "length"] A.zdm A.zdn
 z9Z:Df K mg "unit_row" z4y ["length", "one_at"] A.z9K A.z9L
 z8C:Df K mg "added" z8x ["one", "other"] A.zix A.ziy
 z8D:Df K mg "taken" z8y ["one", "other"] A.ziz A.ziA
 z2i:Df K mg "scaled" z6L ["row", "often"] A.zdo A.zdp
 zbp:Df K mg "weighed" z5M ["row", "weights"] A.zaX A.zaY
 z1r:Df K mg "head_at" z7E ["row"] A.zaZ A.zb0
 z8i:Df K mg "are_kinds" z5h ["value"] A.z88 A.z89
 zbq:Df K mg "is_bill" z5N ["value", "kinds"] A.zb1 A.zb2
 z70:Df K mg "need_kinds" z4z ["kinds"] A.z6W A.z6X
 z8j:Df K mg "need_bill" z5i ["bill", "kinds"] A.z8a A.z8b
 zbr:Df K mg "hall_by" z5O ["kinds", "rows"] A.zb3 A.zb4
 zbs:Df K mg "hall_of" z7F ["kinds", "bills"] A.zb5 A.zb6
 z2z:Df K mg "need_basket_of" z2y ["kinds", "basket"] A.z46 A.z47
 za:Df K mg "bridge" z5j ["a", "b"] A.zdq A.zdr
 zhK:Df K mg "rest" zeA ["a", "part"] A.znh A.zni
 zbt:Df K mg "product" z7G ["numbers"] A.zb7 A.zb8
 za0:Df K mg "lowering" z6g ["row", "rungs"] A.z9M A.z9N
 z5R:Df K mg "lowered" z7H ["row", "rungs"] A.zb9 A.zba
 zbu:Df K mg "crossed" z7I ["rung", "row"] A.zbb A.zbc
 z8k:Df K mg "turned_up" z5k ["row"] A.z8c A.z8d
 za1:Df K mg "with_row" z4B ["rungs", "row"] A.z9O A.z9P
 zdG:Df K mg "evened" z9C ["rungs"] A.zds A.zdt
 z5S:Df K mg "climbed" z7K ["rows"] A.zbd A.zbe
 z3s:Df K mg "tagged_stair" z2g ["rows", "tags"] A.z5p A.z5q
 z4a:Df K mg "tags_at_nought" z1P ["rungs", "width"] A.z48 A.z49
 ziL:Df K mg "stair" zc8 ["hall"] A.ziB A.ziC
 z71:Df K mg "turned" z6O ["rows", "width"] A.zdu A.zdv
 za2:Df K mg "is_slant" z4D ["rows"] A.z9Q A.z9R
 z72:Df K mg "rests" z8z ["row", "part"] A.ziD A.ziE
 zbv:Df K mg "slanted" z37 ["rows", "tags", "whole"] A.zbf A.zbg
 zdH:Df K mg "linked" z9D ["one", "other"] A.zdw A.zdx
 zbw:Df K mg "chained" z5P ["measured"] A.zbh A.zbi
 za3:Df K mg "measures" z1I ["hall"] A.z9S A.z9T
 zdI:Df K mg "scales" z6P ["hall"] A.zdy A.zdz
 zhL:Df K mg "tilt" zeC ["way", "scale"] A.znj A.znk
 zhM:Df K mg "even" zeD ["one", "other", "scale"] A.znl A.znm
 zhN:Df K mg "fair" zc9 ["hall", "scale"] A.znn A.zno
 z0R:Df K mg "_law_cell_at" z5m ["_law_script", "_law_k"] A.z8e A.z8f
 z7Q:Df K mg "_law_whole" z7L ["_law_found"] A.zbj A.zbk
 za4:Df K mg "_law_is_row" z6h ["_law_found", "_law_size"] A.z9U A.z9V
 za5:Df K mg "_law_number" z6i ["_law_cell", "_law_mode"] A.z9W A.z9X
 z5T:Df K mg "_law_row" z8A ["_law_script", "_law_at", "_law_size", "_law_mode"] A.ziF A.ziG
 zbx:Df K mg "_law_bills" z5Q ["_law_script"] A.zbl A.zbm
 ziM:Df K mg "_law_sum" z6Q ["_law_size", "_law_rows", "_law_times"] A.ziH A.ziI
 za6:Df K mg "_law_plus" z6S ["_law_one", "_law_other", "_law_times"] A.zdA A.zdB
 zby:Df K mg "_law_heavy" z7M ["_law_weights", "_law_row_here"] A.zbn A.zbo
 z8l:Df K mg "_law_baskets" z5n ["_law_script", "_law_kinds", "_law_bills_here"] A.z8g A.z8h
 z73:Df K mg "_law_even" z9E ["_law_one", "_law_other", "_law_scale"] A.zdC A.zdD
 za7:Df K mg "_law_fair" z6T ["_law_bills_here", "_law_kinds", "_law_scale"] A.zdE A.zdF
 z74:Df K mg "_law_is_scale" z4F ["_law_scale", "_law_kinds"] A.z6Y A.z6Z
 f_law:Df K mg "law" zis ["_law_script"] A.a_law A.ziJ
section
variable {K:PySem.W.Frag}{mg:Str→Option Value}{P:Program}{w:World}{base:Heap}{A:Adr}
theorem z87(T:Facts K mg A):FnOk P w K mg base CX0 1 A.z9I A.z9J ["value"] (spc K true z2t) :=
 Fun.dat (k:=0) (F:=z68) T.z6l.fn zdd rfl rfl (fun cdv A outer s H E hr=>have hu:=hr.units
  (z0b (z0k (zaq (z4K (T := "int") rfl rfl T.z0O rfl T.n_int (by decide +kernel) (z00 0)) (zcs (p_not (z4K (T := "bool") rfl rfl T.z0O rfl T.zcf (by decide +kernel) (z00 0))))))))
theorem zaT(T:Facts K mg A):FnOk P w K mg base CX0 2 A.zdm A.zdn ["value", "length"] (spc K true z4Z) :=
 Fun.dat (k:=1) (F:=z9g) T.z9Y.fn zjw rfl rfl (fun cdv A outer s H E hr=>have hu:=hr.units
  (z08 (s_if (PFW.pt (w_or (z3b (z2S (z4K (T := "list") rfl rfl T.z0O rfl T.z1J (by decide +kernel) (z00 0)) (fun _=>rfl))) (z7T (z18 (o_ne hu) (z0F z2k rfl T.z2l (by decide +kernel) (z03 (z00 0) z07)) (z00 1) (z0w _))))) (z0b (z0k p_bl)) z0H)
   (z0b (z0k (z0F (zk7 rfl) rfl T.znp (by decide +kernel) (z03 (z0G (g:=(Tg.one 0)) (z0d (N:=["number"]) (nt:=1) (js:=[]) ["value", "length"] (z04 z6K).names rfl rfl rfl (by decide +kernel)) rfl (z1n (z00 0)) (fun _ _ _ _ _=>z0I (ndp ["number"]) rfl (Or.inl rfl) (Or.inr rfl)) (show 0<1 by decide) (fun _ _ _ _ _=>z0B) (fun _ _ _ _ _=>(z0c (z87 T) T.z6l hr rfl (z03 (z00 0) z07))) (jlt [] 2)) z07))))))
theorem zdf(T:Facts K mg A):FnOk P w K mg base CX0 1 A.z9K A.z9L ["length", "one_at"] (spc K true z3k) :=
 Fun.dat (k:=0) (F:=z69) T.z9Z.fn zde rfl rfl (fun cdv A outer s H E hr=>have hu:=hr.units
  (z0b (z0k (z0G (g:=(Tg.one 0)) (z0d (N:=["spot", "one_at"]) (nt:=1) (js:=[1]) ["length", "one_at"] (z04 z4y).names rfl rfl rfl (by decide +kernel)) rfl (z1z rfl T.z1C (z00 0)) (fun _ _ _ _ _=>z0I (ndp ["spot", "one_at"]) rfl (Or.inl rfl) (Or.inr rfl)) (show 0<1 by decide) (fun _ _ _ _ _=>z0B) (fun _ _ _ _ _=>(p_if (z18 (o_eq hu) (z00 0) (z00 1) (z0w _)) z09 z09)) (jlt [1] 2)))))
theorem z9F(T:Facts K mg A):FnOk P w K mg base CX0 1 A.zix A.ziy ["one", "other"] (spc K true z5D) :=
 Fun.dat (k:=0) (F:=zbR) T.z8C.fn zkW rfl rfl (fun cdv A outer s H E hr=>have hu:=hr.units
  (z0b (z0k (z0G (g:=(Tg.many [0,1])) (z0d (N:=["a", "b"]) (nt:=2) (js:=[]) ["one", "other"] (z04 z8x).names rfl rfl rfl (by decide +kernel)) rfl (zi1 rfl T.ziK (z00 0) (z00 1)) (fun _ _ _ _ _=>z3e rfl (z0S (z0K (ndp ["a", "b"]) rfl (Or.inl rfl) (Or.inr rfl)) (z0S (z0K (ndp ["a", "b"]) rfl (Or.inl rfl) (Or.inr rfl)) z3d))) (jlt [0,1] 2) (fun _ _ _ _ _=>z0B) (fun _ _ _ _ _=>(p_op z2R (z00 0) (z00 1))) (jlt [] 2)))))
theorem z9G(T:Facts K mg A):FnOk P w K mg base CX0 1 A.ziz A.ziA ["one", "other"] (spc K true z4s) :=
 Fun.dat (k:=0) (F:=zbS) T.z8D.fn zkX rfl rfl (fun cdv A outer s H E hr=>have hu:=hr.units
  (z0b (z0k (z0G (g:=(Tg.many [0,1])) (z0d (N:=["a", "b"]) (nt:=2) (js:=[]) ["one", "other"] (z04 z8y).names rfl rfl rfl (by decide +kernel)) rfl (zi1 rfl T.ziK (z00 0) (z00 1)) (fun _ _ _ _ _=>z3e rfl (z0S (z0K (ndp ["a", "b"]) rfl (Or.inl rfl) (Or.inr rfl)) (z0S (z0K (ndp ["a", "b"]) rfl (Or.inl rfl) (Or.inr rfl)) z3d))) (jlt [0,1] 2) (fun _ _ _ _ _=>z0B) (fun _ _ _ _ _=>(p_op zk3 (z00 0) (z00 1))) (jlt [] 2)))))
theorem z25(T:Facts K mg A):FnOk P w K mg base CX0 1 A.zdo A.zdp ["row", "often"] (spc K true z1B) :=
 Fun.dat (k:=0) (F:=z9h) T.z2i.fn zjx rfl rfl (fun cdv A outer s H E hr=>have hu:=hr.units
  (z0b (z0k (z0G (g:=(Tg.one 0)) (z0d (N:=["number", "often"]) (nt:=1) (js:=[1]) ["row", "often"] (z04 z6L).names rfl rfl rfl (by decide +kernel)) rfl (z1n (z00 0)) (fun _ _ _ _ _=>z0I (ndp ["number", "often"]) rfl (Or.inl rfl) (Or.inr rfl)) (show 0<1 by decide) (fun _ _ _ _ _=>z0B) (fun _ _ _ _ _=>(p_op z3P (z00 1) (z00 0))) (jlt [1] 2)))))
theorem zeF(T:Facts K mg A):FnOk P w K mg base CX0 1 A.zaX A.zaY ["row", "weights"] (spc K true z5E) :=
 Fun.dat (k:=0) (F:=z7p) T.zbp.fn zex rfl rfl (fun cdv A outer s H E hr=>have hu:=hr.units
  (z0b (z0k (z0F (c_sum rfl) rfl T.n_sum (by decide +kernel) (z03 (z0G (g:=(Tg.many [0,1])) (z0d (N:=["a", "b"]) (nt:=2) (js:=[]) ["row", "weights"] (z04 z5M).names rfl rfl rfl (by decide +kernel)) rfl (zi1 rfl T.ziK (z00 0) (z00 1)) (fun _ _ _ _ _=>z3e rfl (z0S (z0K (ndp ["a", "b"]) rfl (Or.inl rfl) (Or.inr rfl)) (z0S (z0K (ndp ["a", "b"]) rfl (Or.inl rfl) (Or.inr rfl)) z3d))) (jlt [0,1] 2) (fun _ _ _ _ _=>z0B) (fun _ _ _ _ _=>(p_op z3P (z00 0) (z00 1))) (jlt [] 2)) z07)))))
theorem z1w(T:Facts K mg A):FnOk P w K mg base CX0 1 A.zaZ A.zb0 ["row"] (spc K true z0h) :=
 Fun.dat (k:=0) (F:=z7q) T.z1r.fn z6f rfl rfl (fun cdv A outer s H E hr=>have hu:=hr.units
  (z08 (z3v (rels:=[]) (g:=(Tg.many [1,2])) PassesOwn.never rfl (z8U rfl T.z2N (z00 0)) (z3e rfl (z0S (z0K (i:=1) z6f.nd rfl (Or.inl rfl) (Or.inl rfl)) (z0S (z0K (i:=2) z6f.nd rfl (Or.inl rfl) (Or.inl rfl)) z3d))) (z0b (s_if (z18 (o_ne hu) (z00 2) z09 (z0w _)) (z0b (z0k (z00 1))) z0H)))
   (z0b (z0k (z0F z2k rfl T.z2l (by decide +kernel) (z03 (z00 0) z07))))))
theorem zcb(T:Facts K mg A):FnOk P w K mg base CX0 2 A.z88 A.z89 ["value"] (spc K true z3C) :=
 Fun.dat (k:=1) (F:=z50) T.z8i.fn zc5 rfl rfl (fun cdv A outer s H E hr=>have hu:=hr.units
  (z0b (z0k (zaq (z0c (z87 T) T.z6l hr rfl (z03 (z00 0) z07)) (zcs (znQ o_le o_le z09 (z00 0) (zk1 rfl T.zch)))))))
theorem zeG(T:Facts K mg A):FnOk P w K mg base CX0 3 A.zb1 A.zb2 ["value", "kinds"] (spc K true z5F) :=
 Fun.dat (k:=2) (F:=z7r) T.zbq.fn zey rfl rfl (fun cdv A outer s H E hr=>have hu:=hr.units
  (z0b (z0k (zaq (z0c (zaT T) T.z9Y hr rfl (z03 (z00 0) (z03 (z00 1) z07))) (zcs (z0F (zk7 rfl) rfl T.znp (by decide +kernel) (z03 (z0G (g:=(Tg.one 0)) (z0d (N:=["number"]) (nt:=1) (js:=[]) ["value", "kinds"] (z04 z5N).names rfl rfl rfl (by decide +kernel)) rfl (z1n (z00 0)) (fun _ _ _ _ _=>z0I (ndp ["number"]) rfl (Or.inl rfl) (Or.inr rfl)) (show 0<1 by decide) (fun _ _ _ _ _=>z0B) (fun _ _ _ _ _=>(z7R o_lt (z0F c_abs rfl T.n_abs (by decide +kernel) (z03 (z00 0) z07)) (p_op zk4 z09 z09) (z0w _))) (jlt [] 2)) z07)))))))
theorem zad(T:Facts K mg A):FnOk P w K mg base CX0 3 A.z6W A.z6X ["kinds"] (spc K true z2Z) :=
 Fun.dat (k:=2) (F:=z4t) T.z70.fn zab rfl rfl (fun cdv A outer s H E hr=>have hu:=hr.units
  (z0b (s_if (z3b (z2S (z0c (zcb T) T.z8i hr rfl (z03 (z00 0) z07)) (fun _=>rfl))) (z0b z8p) z0H)))
theorem zcc(T:Facts K mg A):FnOk P w K mg base CX0 4 A.z8a A.z8b ["bill", "kinds"] (spc K true z20) :=
 Fun.dat (k:=3) (F:=z51) T.z8j.fn zc6 rfl rfl (fun cdv A outer s H E hr=>have hu:=hr.units
  (z0b (s_if (z3b (z2S (z0c (zeG T) T.zbq hr rfl (z03 (z00 0) (z03 (z00 1) z07))) (fun _=>rfl))) (z0b z8p) z0H)))
theorem zeH(T:Facts K mg A):FnOk P w K mg base CX0 1 A.zb3 A.zb4 ["kinds", "rows"] (spc K true z5G) :=
 Fun.dat (k:=0) (F:=z7s) T.zbr.fn zez rfl rfl (fun cdv A outer s H E hr=>have hu:=hr.units
  (z0b (z0k (z2U (z03 (z00 0) (z03 (z11 zk6 rfl T.z8B (by decide +kernel) (z03 (z0G (g:=(Tg.one 0)) (z0d (N:=["row"]) (nt:=1) (js:=[]) ["kinds", "rows"] (z04 z5O).names rfl rfl rfl (by decide +kernel)) rfl (z1n (z00 1)) (fun _ _ _ _ _=>z0I (ndp ["row"]) rfl (Or.inl rfl) (Or.inr rfl)) (show 0<1 by decide) (fun _ _ _ _ _=>z0B) (fun _ _ _ _ _=>(z11 zk6 rfl T.z8B (by decide +kernel) (z03 (z00 0) z07))) (jlt [] 2)) z07)) z07))))))
theorem zeI(T:Facts K mg A):FnOk P w K mg base CX0 5 A.zb5 A.zb6 ["kinds", "bills"] (spc K true z3Y) :=
 Fun.dat (k:=4) (F:=z7t) T.zbs.fn z9B rfl rfl (fun cdv A outer s H E hr=>have hu:=hr.units
  (z08 (zbK (z0c (zad T) T.z70 hr rfl (z03 (z00 0) z07)))
   (z08 (s_if (PFW.pt (w_or (z3b (z2S (z4K (T := "list") rfl rfl T.z0O rfl T.z1J (by decide +kernel) (z00 1)) (fun _=>rfl))) (z7T (z18 o_gt (z0F z2k rfl T.z2l (by decide +kernel) (z03 (z00 1) z07)) (zk1 rfl T.zcg) (z0w _))))) (z0b z8p) z0H)
   (z08 (z3v (rels:=[]) (g:=(Tg.one 2)) PassesOwn.never rfl (z1n (z00 1)) (z0I z9B.nd rfl (Or.inl rfl) (Or.inl rfl)) (z0b (zbK (z0c (zcc T) T.z8j hr rfl (z03 (z00 2) (z03 (z00 0) z07))))))
   (z0b (z0k (z0c (zeH T) T.zbr hr rfl (z03 (z00 0) (z03 (z00 1) z07)))))))))
theorem z3F(T:Facts K mg A):FnOk P w K mg base CX0 3 A.z46 A.z47 ["kinds", "basket"] (spc K true z1o) :=
 Fun.dat (k:=2) (F:=z2u) T.z2z.fn z6M rfl rfl (fun cdv A outer s H E hr=>have hu:=hr.units
  (z0b (s_if (z3b (z2S (z0c (zaT T) T.z9Y hr rfl (z03 (z00 1) (z03 (z00 0) z07))) (fun _=>rfl))) (z0b z8p) z0H)))
theorem zaU(T:Facts K mg A):FnOk P w K mg base CX0 1 A.zdq A.zdr ["a", "b"] (spc K true z52) :=
 Fun.dat (k:=0) (F:=z9i) T.za.fn z23 rfl rfl (fun cdv A outer s H E hr=>have hu:=hr.units
  (z08 (z0l (rels:=[]) (z0a (i:=2) (z3t (z03 (z00 0) (z03 z09 (z03 z09 z07)))) z23.nd rfl (Or.inr rfl) rfl (Or.inl rfl)))
   (z08 (z0l (rels:=[]) (z0a (i:=3) (z3t (z03 (z00 1) (z03 z09 (z03 z09 z07)))) z23.nd rfl (Or.inr rfl) rfl (Or.inl rfl)))
   (z08 (zbL PassesOwn.never (z18 (o_ne hu) (p_ix (z00 3) z09 (fun _ _=>rfl)) z09 (z0w _)) (z08 (z0l (rels:=[]) (z0a (i:=4) (p_op z4j (p_ix (z00 2) z09 (fun _ _=>rfl)) (p_ix (z00 3) z09 (fun _ _=>rfl))) z23.nd rfl (Or.inr rfl) rfl (Or.inl rfl)))
   (z08 (z0l (rels:=[]) (z4N (i:=5) (g:=(Tg.one 0)) z23.nd rfl rfl rfl (z0d (N:=["k", "upper", "often", "lower"]) (nt:=1) (js:=[2,4,3]) ["a", "b", "upper", "lower", "often", "left"] (z04 z5j).names rfl rfl rfl (by decide +kernel)) rfl (z1z rfl T.z1C z09) (fun _ _ _ _ _=>z0I (ndp ["k", "upper", "often", "lower"]) rfl (Or.inl rfl) (Or.inr rfl)) (show 0<1 by decide) (fun _ _ _ _ _=>z0B) (fun _ _ _ _ _=>(p_op zk3 (p_ix (z00 1) (z00 0) (fun _ _=>rfl)) (p_op z3P (z00 2) (p_ix (z00 3) (z00 0) (fun _ _=>rfl))))) (jlt [2,4,3] 6)))
   (z08 (z0l (rels:=[]) (z0a (i:=2) (z00 3) z23.nd rfl (Or.inr rfl) rfl (Or.inl rfl)))
   (z0b (z0l (rels:=[]) (z0a (i:=3) (z00 5) z23.nd rfl (Or.inr rfl) rfl (Or.inl rfl))))))))
   (z08 (s_if (z18 o_lt (p_ix (z00 2) z09 (fun _ _=>rfl)) z09 (z0w _)) (z0b (z0l (rels:=[]) (z0a (i:=2) (z0G (g:=(Tg.one 0)) (z0d (N:=["number"]) (nt:=1) (js:=[]) ["a", "b", "upper", "lower", "often", "left"] (z04 z5j).names rfl rfl rfl (by decide +kernel)) rfl (z1n (z00 2)) (fun _ _ _ _ _=>z0I (ndp ["number"]) rfl (Or.inl rfl) (Or.inr rfl)) (show 0<1 by decide) (fun _ _ _ _ _=>z0B) (fun _ _ _ _ _=>(zct (z00 0))) (jlt [] 6)) z23.nd rfl (Or.inr rfl) rfl (Or.inl rfl)))) z0H)
   (z0b (z0k (z11 zk6 rfl T.z8B (by decide +kernel) (z03 (z00 2) z07)))))))))
theorem zit(T:Facts K mg A):FnOk P w K mg base CX0 1 A.znh A.zni ["a", "part"] (spc K true z53) :=
 Fun.dat (k:=0) (F:=zbT) T.zhK.fn zol rfl rfl (fun cdv A outer s H E hr=>have hu:=hr.units
  (z08 (s_if (z18 (o_eq hu) (z00 1) z09 (z0w _)) (z0b (z0k (z00 0))) z0H)
   (z0b (z0k (p_op z2j (z00 0) (z00 1))))))
theorem zeJ(T:Facts K mg A):FnOk P w K mg base CX0 1 A.zb7 A.zb8 ["numbers"] (spc K true z5H) :=
 Fun.dat (k:=0) (F:=z7u) T.zbt.fn z4A rfl rfl (fun cdv A outer s H E hr=>have hu:=hr.units
  (z08 (z0l (rels:=[]) (z0a (i:=1) z09 z4A.nd rfl (Or.inl rfl) rfl (Or.inl rfl)))
   (z08 (z3v (rels:=[]) (g:=(Tg.one 2)) PassesOwn.never rfl (z1n (z00 0)) (z0I z4A.nd rfl (Or.inl rfl) (Or.inl rfl)) (z0b (z0l (rels:=[]) (z0a (i:=1) (p_op z3P (z00 1) (z00 2)) z4A.nd rfl (Or.inl rfl) rfl (Or.inl rfl)))))
   (z0b (z0k (z00 1))))))
theorem zdg(T:Facts K mg A):FnOk P w K mg base CX0 2 A.z9M A.z9N ["row", "rungs"] (spc K true z4u) :=
 Fun.dat (k:=1) (F:=z6a) T.za0.fn z1G rfl rfl (fun cdv A outer s H E hr=>have hu:=hr.units
  (z08 (z0l (rels:=[]) (z0a (i:=2) (z11 z3R rfl T.z1J (by decide +kernel) (z03 (z00 0) z07)) z1G.nd rfl (Or.inl rfl) rfl (Or.inl rfl)))
   (z08 (zcv (z0a (i:=3) (z3t z07) z1G.nd rfl (Or.inl rfl) rfl (Or.inl rfl)))
   (z08 (z3v (rels:=[]) (g:=(Tg.one 4)) PassesOwn.never rfl (z1n (z00 1)) (z0I z1G.nd rfl (Or.inl rfl) (Or.inl rfl)) (z08 (z0l (rels:=[]) (z0a (i:=5) (z0c (z1w T) T.z1r hr rfl (z03 (z00 4) z07)) z1G.nd rfl (Or.inl rfl) rfl (Or.inl rfl)))
   (z08 (z0l (rels:=[]) (z0a (i:=6) (p_op z4j (p_ix (z00 2) (z00 5) (fun _ _=>rfl)) (p_ix (z00 4) (z00 5) (fun _ _=>rfl))) z1G.nd rfl (Or.inl rfl) rfl (Or.inl rfl)))
   (z08 (s_if (z18 (o_ne hu) (z00 6) z09 (z0w _)) (z0b (z0l (rels:=[]) (z0a (i:=2) (z0c (z9G T) T.z8D hr rfl (z03 (z00 2) (z03 (z0c (z25 T) T.z2i hr rfl (z03 (z00 4) (z03 (z00 6) z07))) z07))) z1G.nd rfl (Or.inl rfl) rfl (Or.inl rfl)))) z0H)
   (z0b (s_wr1 (i:=3) mw_app F.slot_list_append F.type_list_append rfl (Or.inl rfl) (z00 6)))))))
   (z0b (z0k (z2U (z03 (z00 3) (z03 (z00 2) z07)))))))))
theorem z6j(T:Facts K mg A):FnOk P w K mg base CX0 3 A.zb9 A.zba ["row", "rungs"] (spc K true z13) :=
 Fun.dat (k:=2) (F:=z7v) T.z5R.fn zeB rfl rfl (fun cdv A outer s H E hr=>have hu:=hr.units
  (z0b (z0k (p_ix (z0c (zdg T) T.za0 hr rfl (z03 (z00 0) (z03 (z00 1) z07))) z09 (fun _ _=>rfl)))))
theorem zeK(T:Facts K mg A):FnOk P w K mg base CX0 2 A.zbb A.zbc ["rung", "row"] (spc K true z34) :=
 Fun.dat (k:=1) (F:=z7w) T.zbu.fn z3q rfl rfl (fun cdv A outer s H E hr=>have hu:=hr.units
  (z08 (z0l (rels:=[]) (z0a (i:=2) (z0c (z1w T) T.z1r hr rfl (z03 (z00 0) z07)) z3q.nd rfl (Or.inl rfl) rfl (Or.inl rfl)))
   (z08 (z0l (rels:=[]) (z0a (i:=3) (z0c (zaU T) T.za hr rfl (z03 (p_ix (z00 0) (z00 2) (fun _ _=>rfl)) (z03 (p_ix (z00 1) (z00 2) (fun _ _=>rfl)) z07))) z3q.nd rfl (Or.inl rfl) rfl (Or.inl rfl)))
   (z08 (z0l (rels:=[]) (z0a (i:=4) (z0c (z9F T) T.z8C hr rfl (z03 (z0c (z25 T) T.z2i hr rfl (z03 (z00 0) (z03 (p_ix (z00 3) z09 (fun _ _=>rfl)) z07))) (z03 (z0c (z25 T) T.z2i hr rfl (z03 (z00 1) (z03 (p_ix (z00 3) z09 (fun _ _=>rfl)) z07))) z07))) z3q.nd rfl (Or.inl rfl) rfl (Or.inl rfl)))
   (z08 (z0l (rels:=[]) (z0a (i:=5) (z0c (z9G T) T.z8D hr rfl (z03 (z0c (z25 T) T.z2i hr rfl (z03 (z00 1) (z03 (p_op z4j (p_ix (z00 0) (z00 2) (fun _ _=>rfl)) (p_ix (z00 3) z09 (fun _ _=>rfl))) z07))) (z03 (z0c (z25 T) T.z2i hr rfl (z03 (z00 0) (z03 (p_op z4j (p_ix (z00 1) (z00 2) (fun _ _=>rfl)) (p_ix (z00 3) z09 (fun _ _=>rfl))) z07))) z07))) z3q.nd rfl (Or.inl rfl) rfl (Or.inl rfl)))
   (z0b (z0k (z2U (z03 (z00 4) (z03 (z00 5) z07))))))))))
theorem zcd(T:Facts K mg A):FnOk P w K mg base CX0 2 A.z8c A.z8d ["row"] (spc K true z1h) :=
 Fun.dat (k:=1) (F:=z54) T.z8k.fn zc7 rfl rfl (fun cdv A outer s H E hr=>have hu:=hr.units
  (z0b (z0k (p_if (z18 o_lt (p_ix (z00 0) (z0c (z1w T) T.z1r hr rfl (z03 (z00 0) z07)) (fun _ _=>rfl)) z09 (z0w _)) (z0c (z25 T) T.z2i hr rfl (z03 (z00 0) (z03 (zct z09) z07))) (z11 z3R rfl T.z1J (by decide +kernel) (z03 (z00 0) z07))))))
theorem zdh(T:Facts K mg A):FnOk P w K mg base CX0 4 A.z9O A.z9P ["rungs", "row"] (spc K false z2v) :=
 Fun.dat (k:=3) (F:=z3l) T.za1.fn z24 rfl rfl (fun cdv A outer s H E hr=>have hu:=hr.units
  (z08 (zcv (z0a (i:=2) (z11 z3R rfl T.z1J (by decide +kernel) (z03 (z00 0) z07)) z24.nd rfl (Or.inl rfl) rfl (Or.inl rfl)))
   (z08 (z8T (z0a (i:=3) (z0c (z6j T) T.z5R hr rfl (z03 (z00 1) (z03 (z00 2) z07))) z24.nd rfl (Or.inr rfl) rfl (Or.inl rfl)))
   (z08 (zbL PassesOwn.never (z18 o_lt (z0c (z1w T) T.z1r hr rfl (z03 (z00 3) z07)) (z0F z2k rfl T.z2l (by decide +kernel) (z03 (z00 3) z07)) (z0w _)) (z08 (z8T (z4N (i:=4) (g:=(Tg.many [0,1])) z24.nd rfl rfl rfl (z0d (N:=["place", "rung", "left"]) (nt:=2) (js:=[3]) ["rungs", "row", "found", "left", "places", "pair"] (z04 z4B).names rfl rfl rfl (by decide +kernel)) rfl (z8U rfl T.z2N (z00 2)) (fun _ _ _ _ _=>z3e rfl (z0S (z0K (ndp ["place", "rung", "left"]) rfl (Or.inl rfl) (Or.inr rfl)) (z0S (z0K (ndp ["place", "rung", "left"]) rfl (Or.inl rfl) (Or.inr rfl)) z3d))) (jlt [0,1] 2) (fun _ _ _ _ _=>(zdT (z18 (o_eq hu) (z0c (z1w T) T.z1r hr rfl (z03 (z00 1) z07)) (z0c (z1w T) T.z1r hr rfl (z03 (z00 2) z07)) (z0w _)))) (fun _ _ _ _ _=>(z00 0)) (jlt [3] 6)))
   (z08 (s_if (z18 (o_eq hu) (z0F z2k rfl T.z2l (by decide +kernel) (z03 (z00 4) z07)) z09 (z0w _)) (z0b (z0k (znZ (z1w T) (hr.mono (by decide)) rfl T.znq T.z1r.mg rfl T.z1r.bd (p_op z2R (z00 2) (z3t (z03 (z0c (zcd T) T.z8k hr rfl (z03 (z00 3) z07)) z07)))))) z0H)
   (z08 (z8T (z0a (i:=5) (z0c (zeK T) T.zbu hr rfl (z03 (p_ix (z00 2) (p_ix (z00 4) z09 (fun _ _=>rfl)) (fun _ _=>rfl)) (z03 (z00 3) z07))) z24.nd rfl (Or.inl rfl) rfl (Or.inl rfl)))
   (z08 (zkm (i:=2) rfl (Or.inl rfl) (p_ix (z00 4) z09 (fun _ _=>rfl)) (p_ix (z00 5) z09 (fun _ _=>rfl)))
   (z0b (z8T (z0a (i:=3) (z0c (z6j T) T.z5R hr rfl (z03 (p_ix (z00 5) z09 (fun _ _=>rfl)) (z03 (z00 2) z07))) z24.nd rfl (Or.inr rfl) rfl (Or.inl rfl)))))))))
   (z0b (z0k (z00 2)))))))
theorem zjB(T:Facts K mg A):FnOk P w K mg base CX0 4 A.zds A.zdt ["rungs"] (spc K true z55) :=
 Fun.dat (k:=3) (F:=z9j) T.zdG.fn z7J rfl rfl (fun cdv A outer s H E hr=>have hu:=hr.units
  (z08 (zcv (z0a (i:=1) (z3t z07) z7J.nd rfl (Or.inl rfl) rfl (Or.inl rfl)))
   (z08 (z3v (rels:=[]) (g:=(Tg.one 2)) PassesOwn.never rfl (i_rev rfl T.zhJ (z00 0)) (z0I z7J.nd rfl (Or.inl rfl) (Or.inl rfl)) (z0b (s_insA (i:=1) rfl (Or.inl rfl) (z0c (z6j T) T.z5R hr rfl (z03 (z00 2) (z03 (z00 1) z07))))))
   (z0b (z0k (z00 1))))))
theorem z6k(T:Facts K mg A):FnOk P w K mg base CX0 5 A.zbd A.zbe ["rows"] (spc K true z21) :=
 Fun.dat (k:=4) (F:=z7x) T.z5S.fn z4C rfl rfl (fun cdv A outer s H E hr=>have hu:=hr.units
  (z08 (z0l (rels:=[]) (z0a (i:=1) (z3t z07) z4C.nd rfl (Or.inl rfl) rfl (Or.inl rfl)))
   (z08 (z3v (rels:=[]) (g:=(Tg.one 2)) PassesOwn.never rfl (z1n (z00 0)) (z0I z4C.nd rfl (Or.inl rfl) (Or.inl rfl)) (z0b (z0l (rels:=[]) (z0a (i:=1) (z0c (zjB T) T.zdG hr rfl (z03 (z0c (zdh T) T.za1 hr rfl (z03 (z00 1) (z03 (z00 2) z07))) z07)) z4C.nd rfl (Or.inl rfl) rfl (Or.inl rfl)))))
   (z0b (z0k (z00 1))))))
theorem z4G(T:Facts K mg A):FnOk P w K mg base CX0 6 A.z5p A.z5q ["rows", "tags"] (spc K true z1p) :=
 Fun.dat (k:=5) (F:=z3m) T.z3s.fn z8n rfl rfl (fun cdv A outer s H E hr=>have hu:=hr.units
  (z0b (z0k (z0c (z6k T) T.z5S hr rfl (z03 (z0G (g:=(Tg.many [0,1])) (z0d (N:=["row", "tag"]) (nt:=2) (js:=[]) ["rows", "tags"] (z04 z2g).names rfl rfl rfl (by decide +kernel)) rfl (zi1 rfl T.ziK (z00 0) (z00 1)) (fun _ _ _ _ _=>z3e rfl (z0S (z0K (ndp ["row", "tag"]) rfl (Or.inl rfl) (Or.inr rfl)) (z0S (z0K (ndp ["row", "tag"]) rfl (Or.inl rfl) (Or.inr rfl)) z3d))) (jlt [0,1] 2) (fun _ _ _ _ _=>z0B) (fun _ _ _ _ _=>(p_op z2R (z11 z3R rfl T.z1J (by decide +kernel) (z03 (z00 0) z07)) (z11 z3R rfl T.z1J (by decide +kernel) (z03 (z00 1) z07)))) (jlt [] 2)) z07)))))
theorem z6U(T:Facts K mg A):FnOk P w K mg base CX0 2 A.z48 A.z49 ["rungs", "width"] (spc K true z0V) :=
 Fun.dat (k:=1) (F:=z2w) T.z4a.fn z6N rfl rfl (fun cdv A outer s H E hr=>have hu:=hr.units
  (z0b (z0k (z0G (g:=(Tg.one 0)) (z0d (N:=["rung", "width"]) (nt:=1) (js:=[1]) ["rungs", "width"] (z04 z1P).names rfl rfl rfl (by decide +kernel)) rfl (z1n (z00 0)) (fun _ _ _ _ _=>z0I (ndp ["rung", "width"]) rfl (Or.inl rfl) (Or.inr rfl)) (show 0<1 by decide) (fun _ _ _ _ _=>(zdT (z18 o_ge (z0c (z1w T) T.z1r hr rfl (z03 (z00 0) z07)) (z00 1) (z0w _)))) (fun _ _ _ _ _=>(z2C (z00 0) (z3I (z00 1)) z3H)) (jlt [1] 2)))))
theorem zl1(T:Facts K mg A):FnOk P w K mg base CX0 6 A.ziB A.ziC ["hall"] (spc K true z5I) :=
 Fun.dat (k:=5) (F:=zbU) T.ziL.fn zkY rfl rfl (fun cdv A outer s H E hr=>have hu:=hr.units
  (z0b (z0k (z0c (z6k T) T.z5S hr rfl (z03 (p_ix (z00 0) z09 (fun _ _=>rfl)) z07)))))
theorem z7O(T:Facts K mg A):FnOk P w K mg base CX0 1 A.zdu A.zdv ["rows", "width"] (spc K true z2K) :=
 Fun.dat (k:=0) (F:=z9k) T.z71.fn zjy rfl rfl (fun cdv A outer s H E hr=>have hu:=hr.units
  (z0b (z0k (z0G (g:=(Tg.one 0)) (z0d (N:=["spot", "rows"]) (nt:=1) (js:=[0]) ["rows", "width"] (z04 z6O).names rfl rfl rfl (by decide +kernel)) rfl (z1z rfl T.z1C (z00 1)) (fun _ _ _ _ _=>z0I (ndp ["spot", "rows"]) rfl (Or.inr rfl) (Or.inl rfl)) (show 0<1 by decide) (fun _ _ _ _ _=>z0B) (fun _ _ _ _ _=>(z0G (g:=(Tg.one 0)) (by first|exact z0d (N:=["row", "spot"]) (nt:=1) (js:=[0]) ["spot", "rows"] [(".0",.local),("spot",.cell),("rows",.cell)] rfl rfl rfl (by decide +kernel)|exact z0d (N:=["row", "spot"]) (nt:=1) (js:=[0]) ["spot", "rows"] [(".0",.local),("rows",.cell),("spot",.cell)] rfl rfl rfl (by decide +kernel)) rfl (z1n (z00 1)) (fun _ _ _ _ _=>z0I (ndp ["row", "spot"]) rfl (Or.inl rfl) (Or.inr rfl)) (show 0<1 by decide) (fun _ _ _ _ _=>z0B) (fun _ _ _ _ _=>(p_ix (z00 0) (z00 1) (fun _ _=>rfl))) (jlt [0] 2))) (jlt [0] 2)))))
theorem zdi(T:Facts K mg A):FnOk P w K mg base CX0 2 A.z9Q A.z9R ["rows"] (spc K true z1W) :=
 Fun.dat (k:=1) (F:=z4v) T.za2.fn z5l rfl rfl (fun cdv A outer s H E hr=>have hu:=hr.units
  (z08 (z3v (rels:=[]) (g:=(Tg.many [1,2])) PassesOwn.never rfl (z8U rfl T.z2N (z00 0)) (z3e rfl (z0S (z0K (i:=1) z5l.nd rfl (Or.inl rfl) (Or.inl rfl)) (z0S (z0K (i:=2) z5l.nd rfl (Or.inl rfl) (Or.inl rfl)) z3d))) (z0b (s_if (PFW.pt (w_or (z18 (o_ne hu) (z0c (z1w T) T.z1r hr rfl (z03 (z00 2) z07)) (z00 1) (z0w _)) (z7T (z2S (z0F (c_any rfl) rfl T.n_any (by decide +kernel) (z03 (z0G (g:=(Tg.one 0)) (z0d (N:=["number"]) (nt:=1) (js:=[]) ["rows", "place", "row"] (z04 z4D).names rfl rfl rfl (by decide +kernel)) rfl (z1n (z2C (z00 2) (z3I (p_op z2R (z00 1) z09)) z3H)) (fun _ _ _ _ _=>z0I (ndp ["number"]) rfl (Or.inl rfl) (Or.inr rfl)) (show 0<1 by decide) (fun _ _ _ _ _=>z0B) (fun _ _ _ _ _=>(z7R (o_ne hu) (z00 0) z09 (z0w _))) (jlt [] 3)) z07)) (fun _=>rfl))))) (z0b (z0k p_bl)) z0H)))
   (z0b (z0k p_bl))))
theorem z6V(T:Facts K mg A):FnOk P w K mg base CX0 2 A.ziD A.ziE ["row", "part"] (spc K true z2D) :=
 Fun.dat (k:=1) (F:=zbV) T.z72.fn zkZ rfl rfl (fun cdv A outer s H E hr=>have hu:=hr.units
  (z0b (z0k (z0G (g:=(Tg.one 0)) (z0d (N:=["number", "part"]) (nt:=1) (js:=[1]) ["row", "part"] (z04 z8z).names rfl rfl rfl (by decide +kernel)) rfl (z1n (z00 0)) (fun _ _ _ _ _=>z0I (ndp ["number", "part"]) rfl (Or.inl rfl) (Or.inr rfl)) (show 0<1 by decide) (fun _ _ _ _ _=>z0B) (fun _ _ _ _ _=>(z0c (zit T) T.zhK hr rfl (z03 (z00 0) (z03 (z00 1) z07)))) (jlt [1] 2)))))
theorem zeL(T:Facts K mg A):FnOk P w K mg base CX0 7 A.zbf A.zbg ["rows", "tags", "whole"] (spc K false z5J) :=
 Fun.dat (k:=6) (F:=z3Z) T.zbv.fn z1H rfl rfl (fun cdv A outer s H E hr=>have hu:=hr.units
  (z08 (z0l (rels:=[]) (z0a (i:=3) (z0F z2k rfl T.z2l (by decide +kernel) (z03 (z00 0) z07)) z1H.nd rfl (Or.inr rfl) rfl (Or.inl rfl)))
   (z08 (z0l (rels:=[]) (z0a (i:=4) (z00 0) z1H.nd rfl (Or.inr rfl) rfl (Or.inl rfl)))
   (z08 (z0l (rels:=[]) (z0a (i:=5) (z00 1) z1H.nd rfl (Or.inl rfl) rfl (Or.inl rfl)))
   (z08 (zbL PassesOwn.never (z3b (z2S (z0c (zdi T) T.za2 hr rfl (z03 (z00 4) z07)) (fun _=>rfl))) (z08 (z0l (rels:=[]) (z0a (i:=6) (z0c (z7O T) T.z71 hr rfl (z03 (z0c (z6k T) T.z5S hr rfl (z03 (z0c (z7O T) T.z71 hr rfl (z03 (z00 4) (z03 (z00 3) z07))) z07)) (z03 (z00 3) z07))) z1H.nd rfl (Or.inl rfl) rfl (Or.inl rfl)))
   (z08 (z0l (rels:=[]) (z0a (i:=7) (z0c (z4G T) T.z3s hr rfl (z03 (z00 6) (z03 (z00 5) z07))) z1H.nd rfl (Or.inl rfl) rfl (Or.inl rfl)))
   (z08 (z0l (rels:=[]) (z0a (i:=4) (z0G (g:=(Tg.one 0)) (z0d (N:=["row", "many"]) (nt:=1) (js:=[3]) ["rows", "tags", "whole", "many", "square", "weights", "other", "both"] (z04 z37).names rfl rfl rfl (by decide +kernel)) rfl (z1n (z00 7)) (fun _ _ _ _ _=>z0I (ndp ["row", "many"]) rfl (Or.inl rfl) (Or.inr rfl)) (show 0<1 by decide) (fun _ _ _ _ _=>z0B) (fun _ _ _ _ _=>(z2C (z00 0) z3H (z3I (z00 1)))) (jlt [3] 8)) z1H.nd rfl (Or.inr rfl) rfl (Or.inl rfl)))
   (z0b (z0l (rels:=[]) (z4N (i:=5) (g:=(Tg.one 0)) z1H.nd rfl rfl rfl (z0d (N:=["row", "many", "whole"]) (nt:=1) (js:=[3,2]) ["rows", "tags", "whole", "many", "square", "weights", "other", "both"] (z04 z37).names rfl rfl rfl (by decide +kernel)) rfl (z1n (z00 7)) (fun _ _ _ _ _=>z0I (ndp ["row", "many", "whole"]) rfl (Or.inl rfl) (Or.inr rfl)) (show 0<1 by decide) (fun _ _ _ _ _=>z0B) (fun _ _ _ _ _=>(z0c (z6V T) T.z72 hr rfl (z03 (z2C (z00 0) (z3I (z00 1)) z3H) (z03 (z00 2) z07)))) (jlt [3,2] 8))))))))
   (z0b (z0k (z0G (g:=(Tg.many [0,1])) (z0d (N:=["place", "row", "square"]) (nt:=2) (js:=[4]) ["rows", "tags", "whole", "many", "square", "weights", "other", "both"] (z04 z37).names rfl rfl rfl (by decide +kernel)) rfl (z8U rfl T.z2N (z00 5)) (fun _ _ _ _ _=>z3e rfl (z0S (z0K (ndp ["place", "row", "square"]) rfl (Or.inl rfl) (Or.inr rfl)) (z0S (z0K (ndp ["place", "row", "square"]) rfl (Or.inl rfl) (Or.inr rfl)) z3d))) (jlt [0,1] 2) (fun _ _ _ _ _=>z0B) (fun _ _ _ _ _=>(z2U (z03 (z00 1) (z03 (p_ix (p_ix (z00 2) (z00 0) (fun _ _=>rfl)) (z00 0) (fun _ _=>rfl)) z07)))) (jlt [4] 8)))))))))
theorem zjC(T:Facts K mg A):FnOk P w K mg base CX0 3 A.zdw A.zdx ["one", "other"] (spc K true z3n) :=
 Fun.dat (k:=2) (F:=z56) T.zdH.fn z38 rfl rfl (fun cdv A outer s H E hr=>have hu:=hr.units
  (z08 (z0l (rels:=[]) (z0a (i:=2) (z0c (zaU T) T.za hr rfl (z03 (p_ix (z00 0) z09 (fun _ _=>rfl)) (z03 (p_ix (z00 1) z09 (fun _ _=>rfl)) z07))) z38.nd rfl (Or.inl rfl) rfl (Or.inl rfl)))
   (z08 (z0l (rels:=[]) (z0a (i:=3) (p_ix (z00 2) z09 (fun _ _=>rfl)) z38.nd rfl (Or.inl rfl) rfl (Or.inl rfl)))
   (z08 (z0l (rels:=[]) (z0a (i:=4) (p_op z3P (p_op z4j (p_ix (z00 0) z09 (fun _ _=>rfl)) (z00 3)) (p_ix (z00 1) z09 (fun _ _=>rfl))) z38.nd rfl (Or.inl rfl) rfl (Or.inl rfl)))
   (z08 (z0l (rels:=[]) (z0a (i:=5) (z0c (z9F T) T.z8C hr rfl (z03 (p_ix (z00 0) z09 (fun _ _=>rfl)) (z03 (p_ix (z00 1) z09 (fun _ _=>rfl)) z07))) z38.nd rfl (Or.inl rfl) rfl (Or.inl rfl)))
   (z08 (z0l (rels:=[]) (z0a (i:=6) (z0c (z9F T) T.z8C hr rfl (z03 (z0c (z25 T) T.z2i hr rfl (z03 (p_ix (z00 0) z09 (fun _ _=>rfl)) (z03 (p_op z3P (zct (p_ix (z00 2) z09 (fun _ _=>rfl))) (p_op z4j (p_ix (z00 1) z09 (fun _ _=>rfl)) (z00 3))) z07))) (z03 (z0c (z25 T) T.z2i hr rfl (z03 (p_ix (z00 1) z09 (fun _ _=>rfl)) (z03 (p_op z3P (p_ix (z00 2) z09 (fun _ _=>rfl)) (p_op z4j (p_ix (z00 0) z09 (fun _ _=>rfl)) (z00 3))) z07))) z07))) z38.nd rfl (Or.inl rfl) rfl (Or.inl rfl)))
   (z0b (z0k (z2U (z03 (z2U (z03 (z0c (z6V T) T.z72 hr rfl (z03 (z00 5) (z03 (z00 3) z07))) (z03 (z00 3) z07))) (z03 (z2U (z03 (z0c (z6V T) T.z72 hr rfl (z03 (z00 6) (z03 (z00 4) z07))) (z03 (z00 4) z07))) z07)))))))))))
theorem zeM(T:Facts K mg A):FnOk P w K mg base CX0 4 A.zbh A.zbi ["measured"] (spc K true z35) :=
 Fun.dat (k:=3) (F:=z40) T.zbw.fn z3r rfl rfl (fun cdv A outer s H E hr=>have hu:=hr.units
  (z08 (zcv (z0a (i:=1) (z11 z3R rfl T.z1J (by decide +kernel) (z03 (z00 0) z07)) z3r.nd rfl (Or.inl rfl) rfl (Or.inl rfl)))
   (z08 (zkn (g:=(Tg.one 2)) PassesOwn.never rfl (zj9 rfl T.z1C (z0F z2k rfl T.z2l (by decide +kernel) (z03 (z00 1) z07))) (z0I z3r.nd rfl (Or.inl rfl) (Or.inl rfl)) (z0b (zkn (g:=(Tg.one 3)) PassesOwn.never rfl (zja rfl T.z1C (p_op z2R (z00 2) z09) (z0F z2k rfl T.z2l (by decide +kernel) (z03 (z00 1) z07))) (z0I z3r.nd rfl (Or.inl rfl) (Or.inl rfl)) (z08 (z8T (z0a (i:=4) (z0c (zjC T) T.zdH hr rfl (z03 (p_ix (z00 1) (z00 2) (fun _ _=>rfl)) (z03 (p_ix (z00 1) (z00 3) (fun _ _=>rfl)) z07))) z3r.nd rfl (Or.inl rfl) rfl (Or.inl rfl)))
   (z08 (zkm (i:=1) rfl (Or.inl rfl) (z00 2) (p_ix (z00 4) z09 (fun _ _=>rfl)))
   (z0b (zkm (i:=1) rfl (Or.inl rfl) (z00 3) (p_ix (z00 4) z09 (fun _ _=>rfl)))))))))
   (z0b (z0k (z0G (g:=(Tg.many [0,1])) (z0d (N:=["weights", "part"]) (nt:=2) (js:=[]) ["measured", "found", "first", "second", "pair"] (z04 z5P).names rfl rfl rfl (by decide +kernel)) rfl (z1n (z00 1)) (fun _ _ _ _ _=>z3e rfl (z0S (z0K (ndp ["weights", "part"]) rfl (Or.inl rfl) (Or.inr rfl)) (z0S (z0K (ndp ["weights", "part"]) rfl (Or.inl rfl) (Or.inr rfl)) z3d))) (jlt [0,1] 2) (fun _ _ _ _ _=>z0B) (fun _ _ _ _ _=>(z2U (z03 (z0c (z6V T) T.z72 hr rfl (z03 (z00 0) (z03 (z00 1) z07))) (z03 (z00 1) z07)))) (jlt [] 5)))))))
theorem zdj(T:Facts K mg A):FnOk P w K mg base CX0 8 A.z9S A.z9T ["hall"] (spc K false z1X) :=
 Fun.dat (k:=7) (F:=z3o) T.za3.fn z1t rfl rfl (fun cdv A outer s H E hr=>have hu:=hr.units
  (z08 (z0l (rels:=[]) (z0a (i:=1) (p_ix (z00 0) z09 (fun _ _=>rfl)) z1t.nd rfl (Or.inr rfl) rfl (Or.inl rfl)))
   (z08 (z0l (rels:=[]) (z0a (i:=2) (z0c (zl1 T) T.ziL hr rfl (z03 (z00 0) z07)) z1t.nd rfl (Or.inl rfl) rfl (Or.inl rfl)))
   (z08 (z0l (rels:=[]) (z0a (i:=3) (z0F z2k rfl T.z2l (by decide +kernel) (z03 (z00 2) z07)) z1t.nd rfl (Or.inr rfl) rfl (Or.inl rfl)))
   (z08 (z0l (rels:=[]) (z0a (i:=4) (z0c (z4G T) T.z3s hr rfl (z03 (z0c (z7O T) T.z71 hr rfl (z03 (z00 2) (z03 (z00 1) z07))) (z03 (z0G (g:=(Tg.one 0)) (z0d (N:=["spot", "kinds"]) (nt:=1) (js:=[1]) ["hall", "kinds", "rungs", "many", "both", "square", "whole", "bound"] (z04 z1I).names rfl rfl rfl (by decide +kernel)) rfl (z1z rfl T.z1C (z00 1)) (fun _ _ _ _ _=>z0I (ndp ["spot", "kinds"]) rfl (Or.inl rfl) (Or.inr rfl)) (show 0<1 by decide) (fun _ _ _ _ _=>z0B) (fun _ _ _ _ _=>(z0c (zdf T) T.z9Z hr rfl (z03 (z00 1) (z03 (z00 0) z07)))) (jlt [1] 8)) z07))) z1t.nd rfl (Or.inl rfl) rfl (Or.inl rfl)))
   (z08 (z0l (rels:=[]) (z4N (i:=5) (g:=(Tg.one 0)) z1t.nd rfl rfl rfl (z0d (N:=["row", "many"]) (nt:=1) (js:=[3]) ["hall", "kinds", "rungs", "many", "both", "square", "whole", "bound"] (z04 z1I).names rfl rfl rfl (by decide +kernel)) rfl (z1n (z2C (z00 4) z3H (z3I (z00 3)))) (fun _ _ _ _ _=>z0I (ndp ["row", "many"]) rfl (Or.inl rfl) (Or.inr rfl)) (show 0<1 by decide) (fun _ _ _ _ _=>z0B) (fun _ _ _ _ _=>(z2C (z00 0) z3H (z3I (z00 1)))) (jlt [3] 8)))
   (z08 (z0l (rels:=[]) (z0a (i:=6) (z0c (zeJ T) T.zbt hr rfl (z03 (z0G (g:=(Tg.many [0,1])) (z0d (N:=["place", "row"]) (nt:=2) (js:=[]) ["hall", "kinds", "rungs", "many", "both", "square", "whole", "bound"] (z04 z1I).names rfl rfl rfl (by decide +kernel)) rfl (z8U rfl T.z2N (z00 5)) (fun _ _ _ _ _=>z3e rfl (z0S (z0K (ndp ["place", "row"]) rfl (Or.inl rfl) (Or.inr rfl)) (z0S (z0K (ndp ["place", "row"]) rfl (Or.inl rfl) (Or.inr rfl)) z3d))) (jlt [0,1] 2) (fun _ _ _ _ _=>z0B) (fun _ _ _ _ _=>(p_ix (z00 1) (z00 0) (fun _ _=>rfl))) (jlt [] 8)) z07)) z1t.nd rfl (Or.inl rfl) rfl (Or.inl rfl)))
   (z08 (z0l (rels:=[]) (z0a (i:=7) (z0c (zeL T) T.zbv hr rfl (z03 (z00 5) (z03 (z0G (g:=(Tg.one 0)) (z0d (N:=["row", "many"]) (nt:=1) (js:=[3]) ["hall", "kinds", "rungs", "many", "both", "square", "whole", "bound"] (z04 z1I).names rfl rfl rfl (by decide +kernel)) rfl (z1n (z2C (z00 4) z3H (z3I (z00 3)))) (fun _ _ _ _ _=>z0I (ndp ["row", "many"]) rfl (Or.inl rfl) (Or.inr rfl)) (show 0<1 by decide) (fun _ _ _ _ _=>z0B) (fun _ _ _ _ _=>(z2C (z00 0) (z3I (z00 1)) z3H)) (jlt [3] 8)) (z03 (z00 6) z07)))) z1t.nd rfl (Or.inl rfl) rfl (Or.inl rfl)))
   (z0b (z0k (p_op z2R (z0c (zeM T) T.zbw hr rfl (z03 (z00 7) z07)) (z0G (g:=(Tg.one 0)) (z0d (N:=["weights"]) (nt:=1) (js:=[]) ["hall", "kinds", "rungs", "many", "both", "square", "whole", "bound"] (z04 z1I).names rfl rfl rfl (by decide +kernel)) rfl (z1n (z0c (z6U T) T.z4a hr rfl (z03 (z00 4) (z03 (z00 3) z07)))) (fun _ _ _ _ _=>z0I (ndp ["weights"]) rfl (Or.inl rfl) (Or.inr rfl)) (show 0<1 by decide) (fun _ _ _ _ _=>z0B) (fun _ _ _ _ _=>(z2U (z03 (z00 0) (z03 z09 z07)))) (jlt [] 8)))))))))))))
theorem zjD(T:Facts K mg A):FnOk P w K mg base CX0 9 A.zdy A.zdz ["hall"] (spc K false z6E) :=
 Fun.dat (k:=8) (F:=z57) T.zdI.fn zjz rfl rfl (fun cdv A outer s H E hr=>have hu:=hr.units
  (z0b (z0k (z0G (g:=(Tg.many [0,1])) (z0d (N:=["weights", "part"]) (nt:=2) (js:=[]) ["hall"] (z04 z6P).names rfl rfl rfl (by decide +kernel)) rfl (z1n (z0c (zdj T) T.za3 hr rfl (z03 (z00 0) z07))) (fun _ _ _ _ _=>z3e rfl (z0S (z0K (ndp ["weights", "part"]) rfl (Or.inl rfl) (Or.inr rfl)) (z0S (z0K (ndp ["weights", "part"]) rfl (Or.inl rfl) (Or.inr rfl)) z3d))) (jlt [0,1] 2) (fun _ _ _ _ _=>(zdT (z18 (o_ne hu) (z00 1) z09 (z0w _)))) (fun _ _ _ _ _=>(z2U (z03 (z00 0) (z03 (z00 1) z07)))) (jlt [] 1)))))
theorem ziu(T:Facts K mg A):FnOk P w K mg base CX0 2 A.znj A.znk ["way", "scale"] (spc K true z58) :=
 Fun.dat (k:=1) (F:=ze9) T.zhL.fn zom rfl rfl (fun cdv A outer s H E hr=>have hu:=hr.units
  (z0b (z0k (z0c (zit T) T.zhK hr rfl (z03 (z0c (zeF T) T.zbp hr rfl (z03 (z00 0) (z03 (p_ix (z00 1) z09 (fun _ _=>rfl)) z07))) (z03 (p_ix (z00 1) z09 (fun _ _=>rfl)) z07))))))
theorem ziv(T:Facts K mg A):FnOk P w K mg base CX0 4 A.znl A.znm ["one", "other", "scale"] (spc K true z59) :=
 Fun.dat (k:=3) (F:=zea) T.zhM.fn zir rfl rfl (fun cdv A outer s H E hr=>have hu:=hr.units
  (z08 (z0l (rels:=[]) (z0a (i:=3) (z0F z2k rfl T.z2l (by decide +kernel) (z03 (p_ix (z00 2) z09 (fun _ _=>rfl)) z07)) zir.nd rfl (Or.inl rfl) rfl (Or.inl rfl)))
   (z08 (zbK (z0c (z3F T) T.z2z hr rfl (z03 (z00 3) (z03 (z00 0) z07))))
   (z08 (zbK (z0c (z3F T) T.z2z hr rfl (z03 (z00 3) (z03 (z00 1) z07))))
   (z0b (z0k (z7R (o_eq hu) (z0c (ziu T) T.zhL hr rfl (z03 (z0c (z9G T) T.z8D hr rfl (z03 (z00 1) (z03 (z00 0) z07))) (z03 (z00 2) z07))) z09 (z0w _))))))))
theorem ziw(T:Facts K mg A):FnOk P w K mg base CX0 3 A.znn A.zno ["hall", "scale"] (spc K true z5a) :=
 Fun.dat (k:=2) (F:=zeb) T.zhN.fn zon rfl rfl (fun cdv A outer s H E hr=>have hu:=hr.units
  (z0b (z0k (z0F (zk7 rfl) rfl T.znp (by decide +kernel) (z03 (z0G (g:=(Tg.one 0)) (z0d (N:=["bill", "scale"]) (nt:=1) (js:=[1]) ["hall", "scale"] (z04 zc9).names rfl rfl rfl (by decide +kernel)) rfl (z1n (p_ix (z00 0) z09 (fun _ _=>rfl))) (fun _ _ _ _ _=>z0I (ndp ["bill", "scale"]) rfl (Or.inl rfl) (Or.inr rfl)) (show 0<1 by decide) (fun _ _ _ _ _=>z0B) (fun _ _ _ _ _=>(z7R (o_eq hu) (z0c (ziu T) T.zhL hr rfl (z03 (z00 0) (z03 (z00 1) z07))) z09 (z0w _))) (jlt [1] 2)) z07)))))
theorem z0N(T:Facts K mg A):FnOk P w K mg base CX0 1 A.z8e A.z8f ["_law_script", "_law_k"] (spc K true z0s) :=
 Fun.dat (k:=0) (F:=z5b) T.z0R.fn zca rfl rfl (fun cdv A outer s H E hr=>have hu:=hr.units
  (z08 (s_if (z18 o_lt (z00 1) (z0F z2k rfl T.z2l (by decide +kernel) (z03 (z00 0) z07)) (z0w _)) (z0b (z0k (p_ix (z00 0) (z00 1) (fun _ _=>rfl)))) z0H)
   (z08 (s_if (z18 (o_eq hu) (z00 0) (z3t z07) (z0w _)) (z0b (z0k z09)) z0H)
   (z0b (z0k (p_op z2R (p_op z3P (p_ix (z00 0) (p_op z2j (z00 1) (z0F z2k rfl T.z2l (by decide +kernel) (z03 (z00 0) z07))) (fun _ _=>rfl)) z09) (z00 1)))))))
theorem z9H(T:Facts K mg A):FnOk P w K mg base CX0 1 A.zbj A.zbk ["_law_found"] (spc K true z1N) :=
 Fun.dat (k:=0) (F:=z5K) T.z7Q.fn zeE rfl rfl (fun cdv A outer s H E hr=>have hu:=hr.units
  (z0b (z0k (zaq (z4K (T := "int") rfl rfl T.z0O rfl T.n_int (by decide +kernel) (z00 0)) (zcs (p_not (z4K (T := "bool") rfl rfl T.z0O rfl T.zcf (by decide +kernel) (z00 0))))))))
theorem zdk(T:Facts K mg A):FnOk P w K mg base CX0 2 A.z9U A.z9V ["_law_found", "_law_size"] (spc K true z4w) :=
 Fun.dat (k:=1) (F:=z6b) T.za4.fn z86 rfl rfl (fun cdv A outer s H E hr=>have hu:=hr.units
  (z08 (s_if (PFW.pt (w_or (z3b (z2S (z4K (T := "list") rfl rfl T.z0O rfl T.z1J (by decide +kernel) (z00 0)) (fun _=>rfl))) (z7T (z18 (o_ne hu) (z0F z2k rfl T.z2l (by decide +kernel) (z03 (z00 0) z07)) (z00 1) (z0w _))))) (z0b (z0k p_bl)) z0H)
   (z08 (z3v (rels:=[]) (g:=(Tg.one 2)) PassesOwn.never rfl (z1n (z00 0)) (z0I z86.nd rfl (Or.inl rfl) (Or.inl rfl)) (z0b (s_if (z3b (z2S (z0c (z9H T) T.z7Q hr rfl (z03 (z00 2) z07)) (fun _=>rfl))) (z0b (z0k p_bl)) z0H)))
   (z0b (z0k p_bl)))))
theorem zdl(T:Facts K mg A):FnOk P w K mg base CX0 1 A.z9W A.z9X ["_law_cell", "_law_mode"] (spc K true z2x) :=
 Fun.dat (k:=0) (F:=z3p) T.za5.fn z3E rfl rfl (fun cdv A outer s H E hr=>have hu:=hr.units
  (z08 (s_if (z18 (o_eq hu) (z00 1) z09 (z0w _)) (z08 (z0l (rels:=[]) (z0a (i:=2) (p_op z2j (z00 0) (p_op zk4 z09 z09)) z3E.nd rfl (Or.inl rfl) rfl (Or.inl rfl)))
   (z08 (s_if (z18 (o_eq hu) (p_op z2j (p_op z4j (z00 0) (p_op zk4 z09 z09)) z09) z09 (z0w _)) (z0b (z0k (zct (z00 2)))) z0H)
   (z0b (z0k (z00 2))))) z0H)
   (z08 (z0l (rels:=[]) (z0a (i:=3) (p_ix (z3t (z03 z09 (z03 z09 z07))) (z00 1) (fun _ _=>rfl)) z3E.nd rfl (Or.inl rfl) rfl (Or.inl rfl)))
   (z08 (z0l (rels:=[]) (z0a (i:=2) (p_op z2j (z00 0) (z00 3)) z3E.nd rfl (Or.inl rfl) rfl (Or.inl rfl)))
   (z08 (s_if (z18 o_gt (z00 2) (p_op z4j (z00 3) z09) (z0w _)) (z0b (z0k (p_op zk3 (z00 2) (z00 3)))) z0H)
   (z0b (z0k (z00 2))))))))
theorem z5o(T:Facts K mg A):FnOk P w K mg base CX0 2 A.ziF A.ziG ["_law_script", "_law_at", "_law_size", "_law_mode"] (spc K true z1T) :=
 Fun.dat (k:=1) (F:=zbW) T.z5T.fn zl0 rfl rfl (fun cdv A outer s H E hr=>have hu:=hr.units
  (z0b (z0k (z0G (g:=(Tg.one 0)) (z0d (N:=["_law_k", "_law_script", "_law_at", "_law_mode"]) (nt:=1) (js:=[0,1,3]) ["_law_script", "_law_at", "_law_size", "_law_mode"] (z04 z8A).names rfl rfl rfl (by decide +kernel)) rfl (z1z rfl T.z1C (z00 2)) (fun _ _ _ _ _=>z0I (ndp ["_law_k", "_law_script", "_law_at", "_law_mode"]) rfl (Or.inl rfl) (Or.inr rfl)) (show 0<1 by decide) (fun _ _ _ _ _=>z0B) (fun _ _ _ _ _=>(z0c (zdl T) T.za5 hr rfl (z03 (z0c (z0N T) T.z0R hr rfl (z03 (z00 1) (z03 (p_op z2R (z00 2) (z00 0)) z07))) (z03 (z00 3) z07)))) (jlt [0,1,3] 4)))))
theorem zeN(T:Facts K mg A):FnOk P w K mg base CX0 3 A.zbl A.zbm ["_law_script"] (spc K true z7y) :=
 Fun.dat (k:=2) (F:=zaK) T.zbx.fn z1v rfl rfl (fun cdv A outer s H E hr=>have hu:=hr.units
  (z08 (z0l (rels:=[]) (z0a (i:=1) (p_ix (z3t (z03 z09 (z03 z09 (z03 z09 (z03 z09 (z03 z09 z07)))))) (p_op z2j (z0c (z0N T) T.z0R hr rfl (z03 (z00 0) (z03 z09 z07))) z09) (fun _ _=>rfl)) z1v.nd rfl (Or.inr rfl) rfl (Or.inl rfl)))
   (z08 (z0l (rels:=[]) (z0a (i:=2) (p_op z2R z09 (p_op z2j (z0c (z0N T) T.z0R hr rfl (z03 (z00 0) (z03 z09 z07))) z09)) z1v.nd rfl (Or.inr rfl) rfl (Or.inl rfl)))
   (z08 (z0l (rels:=[]) (z0a (i:=3) (p_op z2j (z0c (z0N T) T.z0R hr rfl (z03 (z00 0) (z03 z09 z07))) z09) z1v.nd rfl (Or.inl rfl) rfl (Or.inl rfl)))
   (z08 (s_if (z18 (o_eq hu) (p_op z2j (z0c (z0N T) T.z0R hr rfl (z03 (z00 0) (z03 z09 z07))) z09) z09 (z0w _)) (z08 (z0l (rels:=[]) (z0a (i:=2) z09 z1v.nd rfl (Or.inr rfl) rfl (Or.inl rfl)))
   (z08 (z0l (rels:=[]) (z0a (i:=3) z09 z1v.nd rfl (Or.inl rfl) rfl (Or.inl rfl)))
   (z0b (z0l (rels:=[]) (z0a (i:=1) z09 z1v.nd rfl (Or.inr rfl) rfl (Or.inl rfl)))))) z0H)
   (z08 (s_if (z18 (o_eq hu) (z00 1) z09 (z0w _)) (z08 (z0l (rels:=[]) (z0a (i:=2) (p_op z2R z09 (p_op z2j (z00 2) z09)) z1v.nd rfl (Or.inr rfl) rfl (Or.inl rfl)))
   (z0b (z0l (rels:=[]) (z0a (i:=3) (p_op z2j (z00 3) z09) z1v.nd rfl (Or.inl rfl) rfl (Or.inl rfl))))) z0H)
   (z0b (z0k (z2U (z03 (z00 2) (z03 (z0G (g:=(Tg.one 0)) (z0d (N:=["_law_k", "_law_script", "_law_kinds", "_law_mode"]) (nt:=1) (js:=[0,2,1]) ["_law_script", "_law_mode", "_law_kinds", "_law_many"] (z04 z5Q).names rfl rfl rfl (by decide +kernel)) rfl (z1z rfl T.z1C (z00 3)) (fun _ _ _ _ _=>z0I (ndp ["_law_k", "_law_script", "_law_kinds", "_law_mode"]) rfl (Or.inl rfl) (Or.inr rfl)) (show 0<1 by decide) (fun _ _ _ _ _=>z0B) (fun _ _ _ _ _=>(z0c (z5o T) T.z5T hr rfl (z03 (z00 1) (z03 (p_op z2R z09 (p_op z3P (z00 2) (z00 0))) (z03 (z00 2) (z03 (z00 3) z07)))))) (jlt [0,2,1] 4)) z07)))))))))))
theorem zl2(T:Facts K mg A):FnOk P w K mg base CX0 1 A.ziH A.ziI ["_law_size", "_law_rows", "_law_times"] (spc K true z6F) :=
 Fun.dat (k:=0) (F:=zbX) T.ziM.fn z6R rfl rfl (fun cdv A outer s H E hr=>have hu:=hr.units
  (z08 (z0l (rels:=[]) (z0a (i:=3) (z0G (g:=(Tg.one 0)) (z0d (N:=["_law_k"]) (nt:=1) (js:=[]) ["_law_size", "_law_rows", "_law_times", "_law_made", "_law_j"] (z04 z6Q).names rfl rfl rfl (by decide +kernel)) rfl (z1z rfl T.z1C (z00 0)) (fun _ _ _ _ _=>z0I (ndp ["_law_k"]) rfl (Or.inl rfl) (Or.inr rfl)) (show 0<1 by decide) (fun _ _ _ _ _=>z0B) (fun _ _ _ _ _=>z09) (jlt [] 5)) z6R.nd rfl (Or.inr rfl) rfl (Or.inl rfl)))
   (z08 (z3v (rels:=[]) (g:=(Tg.one 4)) PassesOwn.never rfl (z1z rfl T.z1C (z0F z2k rfl T.z2l (by decide +kernel) (z03 (z00 1) z07))) (z0I z6R.nd rfl (Or.inr rfl) (Or.inl rfl)) (z0b (z0l (rels:=[]) (z0a (i:=3) (z0G (g:=(Tg.one 0)) (z0d (N:=["_law_k", "_law_made", "_law_times", "_law_j", "_law_rows"]) (nt:=1) (js:=[3,2,4,1]) ["_law_size", "_law_rows", "_law_times", "_law_made", "_law_j"] (z04 z6Q).names rfl rfl rfl (by decide +kernel)) rfl (z1z rfl T.z1C (z00 0)) (fun _ _ _ _ _=>z0I (ndp ["_law_k", "_law_made", "_law_times", "_law_j", "_law_rows"]) rfl (Or.inl rfl) (Or.inr rfl)) (show 0<1 by decide) (fun _ _ _ _ _=>z0B) (fun _ _ _ _ _=>(p_op z2R (p_ix (z00 1) (z00 0) (fun _ _=>rfl)) (p_op z3P (p_ix (z00 2) (z00 3) (fun _ _=>rfl)) (p_ix (p_ix (z00 4) (z00 3) (fun _ _=>rfl)) (z00 0) (fun _ _=>rfl))))) (jlt [3,2,4,1] 5)) z6R.nd rfl (Or.inr rfl) rfl (Or.inl rfl)))))
   (z0b (z0k (z00 3))))))
theorem zaV(T:Facts K mg A):FnOk P w K mg base CX0 1 A.zdA A.zdB ["_law_one", "_law_other", "_law_times"] (spc K true z41) :=
 Fun.dat (k:=0) (F:=z9l) T.za6.fn zjA rfl rfl (fun cdv A outer s H E hr=>have hu:=hr.units
  (z0b (z0k (z0G (g:=(Tg.one 0)) (z0d (N:=["_law_k", "_law_one", "_law_times", "_law_other"]) (nt:=1) (js:=[0,2,1]) ["_law_one", "_law_other", "_law_times"] (z04 z6S).names rfl rfl rfl (by decide +kernel)) rfl (z1z rfl T.z1C (z0F z2k rfl T.z2l (by decide +kernel) (z03 (z00 0) z07))) (fun _ _ _ _ _=>z0I (ndp ["_law_k", "_law_one", "_law_times", "_law_other"]) rfl (Or.inl rfl) (Or.inr rfl)) (show 0<1 by decide) (fun _ _ _ _ _=>z0B) (fun _ _ _ _ _=>(p_op z2R (p_ix (z00 1) (z00 0) (fun _ _=>rfl)) (p_op z3P (z00 2) (p_ix (z00 3) (z00 0) (fun _ _=>rfl))))) (jlt [0,2,1] 3)))))
theorem zeO(T:Facts K mg A):FnOk P w K mg base CX0 1 A.zbn A.zbo ["_law_weights", "_law_row_here"] (spc K true z42) :=
 Fun.dat (k:=0) (F:=z7z) T.zby.fn z4E rfl rfl (fun cdv A outer s H E hr=>have hu:=hr.units
  (z08 (z0l (rels:=[]) (z0a (i:=2) z09 z4E.nd rfl (Or.inl rfl) rfl (Or.inl rfl)))
   (z08 (z3v (rels:=[]) (g:=(Tg.one 3)) PassesOwn.never rfl (z1z rfl T.z1C (z0F z2k rfl T.z2l (by decide +kernel) (z03 (z00 1) z07))) (z0I z4E.nd rfl (Or.inl rfl) (Or.inl rfl)) (z0b (z0l (rels:=[]) (z0a (i:=2) (p_op z2R (z00 2) (p_op z3P (p_ix (z00 0) (z00 3) (fun _ _=>rfl)) (p_ix (z00 1) (z00 3) (fun _ _=>rfl)))) z4E.nd rfl (Or.inl rfl) rfl (Or.inl rfl)))))
   (z0b (z0k (z00 2))))))
theorem zce(T:Facts K mg A):FnOk P w K mg base CX0 3 A.z8g A.z8h ["_law_script", "_law_kinds", "_law_bills_here"] (spc K true z5c) :=
 Fun.dat (k:=2) (F:=z2L) T.z8l.fn z2h rfl rfl (fun cdv A outer s H E hr=>have hu:=hr.units
  (z08 (z0l (rels:=[]) (z0a (i:=3) (z0c (z5o T) T.z5T hr rfl (z03 (z00 0) (z03 z09 (z03 (z00 1) (z03 (p_ix (z3t (z03 z09 (z03 z09 (z03 z09 z07)))) (p_op z2j (z0c (z0N T) T.z0R hr rfl (z03 (z00 0) (z03 z09 z07))) z09) (fun _ _=>rfl)) z07))))) z2h.nd rfl (Or.inl rfl) rfl (Or.inl rfl)))
   (z08 (z0l (rels:=[]) (z0a (i:=4) (z0c (z5o T) T.z5T hr rfl (z03 (z00 0) (z03 z09 (z03 (z00 1) (z03 (p_ix (z3t (z03 z09 (z03 z09 (z03 z09 z07)))) (p_op z2j (z0c (z0N T) T.z0R hr rfl (z03 (z00 0) (z03 z09 z07))) z09) (fun _ _=>rfl)) z07))))) z2h.nd rfl (Or.inl rfl) rfl (Or.inl rfl)))
   (z08 (s_if (z18 (o_eq hu) (p_op z2j (z0c (z0N T) T.z0R hr rfl (z03 (z00 0) (z03 z09 z07))) z09) z09 (z0w _)) (z08 (z0l (rels:=[]) (z0a (i:=5) (z0c (z5o T) T.z5T hr rfl (z03 (z00 0) (z03 z09 (z03 (z0F z2k rfl T.z2l (by decide +kernel) (z03 (z00 2) z07)) (z03 (p_op z2j (z0c (z0N T) T.z0R hr rfl (z03 (z00 0) (z03 z09 z07))) z09) z07))))) z2h.nd rfl (Or.inl rfl) rfl (Or.inl rfl)))
   (z0b (z0l (rels:=[]) (z0a (i:=4) (z0c (zaV T) T.za6 hr rfl (z03 (z00 3) (z03 (z0c (zl2 T) T.ziM hr rfl (z03 (z00 1) (z03 (z00 2) (z03 (z00 5) z07)))) (z03 z09 z07)))) z2h.nd rfl (Or.inl rfl) rfl (Or.inl rfl))))) z0H)
   (z0b (z0k (z2U (z03 (z00 3) (z03 (z00 4) (z03 (z7R (o_eq hu) (p_op z2j (z0c (z0N T) T.z0R hr rfl (z03 (z00 0) (z03 z09 z07))) z09) z09 (z0w _)) z07))))))))))
theorem z7P(T:Facts K mg A):FnOk P w K mg base CX0 2 A.zdC A.zdD ["_law_one", "_law_other", "_law_scale"] (spc K true z1F) :=
 Fun.dat (k:=1) (F:=z9m) T.z73.fn zaS rfl rfl (fun cdv A outer s H E hr=>have hu:=hr.units
  (z08 (z0l (rels:=[]) (z0a (i:=3) (z0c (zeO T) T.zby hr rfl (z03 (p_ix (z00 2) z09 (fun _ _=>rfl)) (z03 (z0c (zaV T) T.za6 hr rfl (z03 (z00 1) (z03 (z00 0) (z03 (zct z09) z07)))) z07))) zaS.nd rfl (Or.inl rfl) rfl (Or.inl rfl)))
   (z08 (s_if (z18 (o_eq hu) (p_ix (z00 2) z09 (fun _ _=>rfl)) z09 (z0w _)) (z0b (z0k (z7R (o_eq hu) (z00 3) z09 (z0w _)))) z0H)
   (z0b (z0k (z7R (o_eq hu) (p_op z2j (z00 3) (p_ix (z00 2) z09 (fun _ _=>rfl))) z09 (z0w _)))))))
theorem zaW(T:Facts K mg A):FnOk P w K mg base CX0 3 A.zdE A.zdF ["_law_bills_here", "_law_kinds", "_law_scale"] (spc K true z2M) :=
 Fun.dat (k:=2) (F:=z9n) T.za7.fn z7N rfl rfl (fun cdv A outer s H E hr=>have hu:=hr.units
  (z08 (z0l (rels:=[]) (z4N (i:=3) (g:=(Tg.one 0)) z7N.nd rfl rfl rfl (z0d (N:=["_law_k"]) (nt:=1) (js:=[]) ["_law_bills_here", "_law_kinds", "_law_scale", "_law_empty", "_law_bill"] (z04 z6T).names rfl rfl rfl (by decide +kernel)) rfl (z1z rfl T.z1C (z00 1)) (fun _ _ _ _ _=>z0I (ndp ["_law_k"]) rfl (Or.inl rfl) (Or.inr rfl)) (show 0<1 by decide) (fun _ _ _ _ _=>z0B) (fun _ _ _ _ _=>z09) (jlt [] 5)))
   (z08 (z3v (rels:=[]) (g:=(Tg.one 4)) PassesOwn.never rfl (z1n (z00 0)) (z0I z7N.nd rfl (Or.inl rfl) (Or.inl rfl)) (z0b (s_if (z3b (z2S (z0c (z7P T) T.z73 hr rfl (z03 (z00 3) (z03 (z00 4) (z03 (z00 2) z07)))) (fun _=>rfl))) (z0b (z0k p_bl)) z0H)))
   (z0b (z0k p_bl)))))
theorem zae(T:Facts K mg A):FnOk P w K mg base CX0 3 A.z6Y A.z6Z ["_law_scale", "_law_kinds"] (spc K true z2f) :=
 Fun.dat (k:=2) (F:=z4x) T.z74.fn zac rfl rfl (fun cdv A outer s H E hr=>have hu:=hr.units
  (z08 (s_if (PFW.pt (w_or (z3b (z2S (z4K (T := "tuple") rfl rfl T.z0O rfl T.z8B (by decide +kernel) (z00 0)) (fun _=>rfl))) (z7T (z18 (o_ne hu) (z0F z2k rfl T.z2l (by decide +kernel) (z03 (z00 0) z07)) z09 (z0w _))))) (z0b (z0k p_bl)) z0H)
   (z0b (z0k (zaq (z0c (zdk T) T.za4 hr rfl (z03 (p_ix (z00 0) z09 (fun _ _=>rfl)) (z03 (z00 1) z07))) (zaq (z0c (z9H T) T.z7Q hr rfl (z03 (p_ix (z00 0) z09 (fun _ _=>rfl)) z07)) (zcs (z7R o_ge (p_ix (z00 0) z09 (fun _ _=>rfl)) z09 (z0w _)))))))))
theorem ok_law(T:Facts K mg A):FnOk P w K mg base CX0 10 A.a_law A.ziJ ["_law_script"] (spc K true zii) :=
 Fun.dat (k:=9) (F:=zkK) T.f_law.fn z2Q rfl rfl (fun cdv A outer s H E hr=>have hu:=hr.units
  (z08 (z0l (rels:=[]) (z0a (i:=1) (z0c (zeN T) T.zbx hr rfl (z03 (z00 0) z07)) z2Q.nd rfl (Or.inl rfl) rfl (Or.inl rfl)))
   (z08 (z0l (rels:=[]) (z0a (i:=2) (p_ix (z00 1) z09 (fun _ _=>rfl)) z2Q.nd rfl (Or.inl rfl) rfl (Or.inl rfl)))
   (z08 (z0l (rels:=[]) (z0a (i:=3) (z0c (zeI T) T.zbs hr rfl (z03 (z00 2) (z03 (z0G (g:=(Tg.one 0)) (z0d (N:=["_law_bill"]) (nt:=1) (js:=[]) ["_law_script", "_law_drawn", "_law_kinds", "_law_hall", "_law_pair", "_law_rows", "_law_scale", "_law_said", "_law_some", "_law_other"] (z04 zis).names rfl rfl rfl (by decide +kernel)) rfl (z1n (p_ix (z00 1) z09 (fun _ _=>rfl))) (fun _ _ _ _ _=>z0I (ndp ["_law_bill"]) rfl (Or.inl rfl) (Or.inr rfl)) (show 0<1 by decide) (fun _ _ _ _ _=>z0B) (fun _ _ _ _ _=>(z11 z3R rfl T.z1J (by decide +kernel) (z03 (z00 0) z07))) (jlt [] 10)) z07))) z2Q.nd rfl (Or.inl rfl) rfl (Or.inl rfl)))
   (z08 (z0l (rels:=[]) (z0a (i:=4) (z0c (zce T) T.z8l hr rfl (z03 (z00 0) (z03 (z00 2) (z03 (p_ix (z00 1) z09 (fun _ _=>rfl)) z07)))) z2Q.nd rfl (Or.inl rfl) rfl (Or.inl rfl)))
   (z08 (z0l (rels:=[]) (z0a (i:=5) (z0c (zjD T) T.zdI hr rfl (z03 (z00 3) z07)) z2Q.nd rfl (Or.inl rfl) rfl (Or.inl rfl)))
   (z08 (s_if (z3b (z2S (z4K (T := "list") rfl rfl T.z0O rfl T.z1J (by decide +kernel) (z00 5)) (fun _=>rfl))) (z0b (z0k p_bl)) z0H)
   (z08 (z3v (rels:=[]) (g:=(Tg.one 6)) PassesOwn.never rfl (z1n (z00 5)) (z0I z2Q.nd rfl (Or.inl rfl) (Or.inl rfl)) (z08 (s_if (PFW.pt (w_or (z3b (z2S (z0c (zae T) T.z74 hr rfl (z03 (z00 6) (z03 (z00 2) z07))) (fun _=>rfl))) (z7T (z3b (z2S (z0c (zaW T) T.za7 hr rfl (z03 (p_ix (z00 1) z09 (fun _ _=>rfl)) (z03 (z00 2) (z03 (z00 6) z07)))) (fun _=>rfl)))))) (z0b (z0k p_bl)) z0H)
   (z08 (s_if (z18 o_notB (z0c (ziw T) T.zhN hr rfl (z03 (z00 3) (z03 (z00 6) z07))) p_bl (z0w _)) (z0b (z0k p_bl)) z0H)
   (z08 (z0l (rels:=[]) (z0a (i:=7) (z0c (ziv T) T.zhM hr rfl (z03 (z11 z3R rfl T.z1J (by decide +kernel) (z03 (p_ix (z00 4) z09 (fun _ _=>rfl)) z07)) (z03 (z11 z3R rfl T.z1J (by decide +kernel) (z03 (p_ix (z00 4) z09 (fun _ _=>rfl)) z07)) (z03 (z00 6) z07)))) z2Q.nd rfl (Or.inl rfl) rfl (Or.inl rfl)))
   (z0b (s_if (PFW.pt (w_or (z3b (z2S (z4K (T := "bool") rfl rfl T.z0O rfl T.zcf (by decide +kernel) (z00 7)) (fun _=>rfl))) (z7T (z18 (o_ne hu) (z00 7) (z0c (z7P T) T.z73 hr rfl (z03 (p_ix (z00 4) z09 (fun _ _=>rfl)) (z03 (p_ix (z00 4) z09 (fun _ _=>rfl)) (z03 (z00 6) z07)))) (z0w _))))) (z0b (z0k p_bl)) z0H))))))
   (z08 (zcv (z0a (i:=8) (z3t (z03 (z2U (z03 (z0c (z5o T) T.z5T hr rfl (z03 (z00 0) (z03 z09 (z03 (z00 2) (z03 z09 z07))))) (z03 (p_op z2j (z0c (z0N T) T.z0R hr rfl (z03 (z00 0) (z03 z09 z07))) z09) z07))) z07)) z2Q.nd rfl (Or.inl rfl) rfl (Or.inl rfl)))
   (z08 (z3v (rels:=[]) (g:=(Tg.one 6)) PassesOwn.never rfl (z1n (z2C (z00 5) z3H (z3I z09))) (z0I z2Q.nd rfl (Or.inl rfl) (Or.inl rfl)) (z0b (s_wr1 (i:=8) mw_ext F.slot_list_extend F.type_list_extend rfl (Or.inl rfl) (z3t (z03 (z2U (z03 (z11 z3R rfl T.z1J (by decide +kernel) (z03 (p_ix (z00 6) z09 (fun _ _=>rfl)) z07)) (z03 (p_op z3P z09 (p_ix (z00 6) z09 (fun _ _=>rfl))) z07))) (z03 (z2U (z03 (p_op z2R (z3t (z03 (p_op z2R (p_ix (p_ix (z00 6) z09 (fun _ _=>rfl)) z09 (fun _ _=>rfl)) z09) z07)) (z2C (p_ix (z00 6) z09 (fun _ _=>rfl)) (z3I z09) z3H)) (z03 (p_ix (z00 6) z09 (fun _ _=>rfl)) z07))) z07))))))
   (z08 (z3v (rels:=[8]) (g:=(Tg.one 9)) PassesOwn.never rfl (z1n (z00 8)) (z0I z2Q.nd rfl (Or.inl rfl) (Or.inl rfl)) (z08 (z0l (rels:=[]) (z0a (i:=7) (z0c (ziw T) T.zhN hr rfl (z03 (z00 3) (z03 (z2U (z03 (z11 z3R rfl T.z1J (by decide +kernel) (z03 (p_ix (z00 9) z09 (fun _ _=>rfl)) z07)) (z03 (p_ix (z00 9) z09 (fun _ _=>rfl)) z07))) z07))) z2Q.nd rfl (Or.inl rfl) rfl (Or.inl rfl)))
   (z08 (s_if (PFW.pt (w_or (z3b (z2S (z4K (T := "bool") rfl rfl T.z0O rfl T.zcf (by decide +kernel) (z00 7)) (fun _=>rfl))) (z7T (z18 (o_ne hu) (z00 7) (z0c (zaW T) T.za7 hr rfl (z03 (p_ix (z00 1) z09 (fun _ _=>rfl)) (z03 (z00 2) (z03 (z00 9) z07)))) (z0w _))))) (z0b (z0k p_bl)) z0H)
   (z0b (s_if (z18 (o_ne hu) (z0c (ziv T) T.zhM hr rfl (z03 (z11 z3R rfl T.z1J (by decide +kernel) (z03 (p_ix (z00 4) z09 (fun _ _=>rfl)) z07)) (z03 (z11 z3R rfl T.z1J (by decide +kernel) (z03 (p_ix (z00 4) z09 (fun _ _=>rfl)) z07)) (z03 (z00 9) z07)))) (z0c (z7P T) T.z73 hr rfl (z03 (p_ix (z00 4) z09 (fun _ _=>rfl)) (z03 (p_ix (z00 4) z09 (fun _ _=>rfl)) (z03 (z00 9) z07)))) (z0w _)) (z0b (z0k p_bl)) z0H)))))
   (z0b (z0k p_bl)))))))))))))
end
theorem zl3{l:PySem.W.OpenLaw}{w:World}{K:PySem.W.Frag}{h:Heap}{mg:Str→Option Value}{fa:Addr}(X:K.In h)(G:h.Ns mainGlobals mg)(hfa:mg "law" = some (.ref fa))
  {a0:Addr} (h0:Dh K "is_whole" z6e a0)
  {a1:Addr} (h1:Dh K "is_row" z6K a1)
  {a2:Addr} (h2:Dh K "unit_row" z4y a2)
  {a3:Addr} (h3:Dh K "added" z8x a3)
  {a4:Addr} (h4:Dh K "taken" z8y a4)
  {a5:Addr} (h5:Dh K "scaled" z6L a5)
  {a6:Addr} (h6:Dh K "weighed" z5M a6)
  {a7:Addr} (h7:Dh K "head_at" z7E a7)
  {a8:Addr} (h8:Dh K "are_kinds" z5h a8)
  {a9:Addr} (h9:Dh K "is_bill" z5N a9)
  {a10:Addr} (h10:Dh K "need_kinds" z4z a10)
  {a11:Addr} (h11:Dh K "need_bill" z5i a11)
  {a12:Addr} (h12:Dh K "hall_by" z5O a12)
  {a13:Addr} (h13:Dh K "hall_of" z7F a13)
  {a14:Addr} (h14:Dh K "need_basket_of" z2y a14)
  {a15:Addr} (h15:Dh K "bridge" z5j a15)
  {a16:Addr} (h16:Dh K "rest" zeA a16)
  {a17:Addr} (h17:Dh K "product" z7G a17)
  {a18:Addr} (h18:Dh K "lowering" z6g a18)
  {a19:Addr} (h19:Dh K "lowered" z7H a19)
  {a20:Addr} (h20:Dh K "crossed" z7I a20)
  {a21:Addr} (h21:Dh K "turned_up" z5k a21)
  {a22:Addr} (h22:Dh K "with_row" z4B a22)
  {a23:Addr} (h23:Dh K "evened" z9C a23)
  {a24:Addr} (h24:Dh K "climbed" z7K a24)
  {a25:Addr} (h25:Dh K "tagged_stair" z2g a25)
  {a26:Addr} (h26:Dh K "tags_at_nought" z1P a26)
  {a27:Addr} (h27:Dh K "stair" zc8 a27)
  {a28:Addr} (h28:Dh K "turned" z6O a28)
  {a29:Addr} (h29:Dh K "is_slant" z4D a29)
  {a30:Addr} (h30:Dh K "rests" z8z a30)
  {a31:Addr} (h31:Dh K "slanted" z37 a31)
  {a32:Addr} (h32:Dh K "linked" z9D a32)
  {a33:Addr} (h33:Dh K "chained" z5P a33)
  {a34:Addr} (h34:Dh K "measures" z1I a34)
  {a35:Addr} (h35:Dh K "scales" z6P a35)
  {a36:Addr} (h36:Dh K "tilt" zeC a36)
  {a37:Addr} (h37:Dh K "even" zeD a37)
  {a38:Addr} (h38:Dh K "fair" zc9 a38)
  {a39:Addr} (h39:Dh K "_law_cell_at" z5m a39)
  {a40:Addr} (h40:Dh K "_law_whole" z7L a40)
  {a41:Addr} (h41:Dh K "_law_is_row" z6h a41)
  {a42:Addr} (h42:Dh K "_law_number" z6i a42)
  {a43:Addr} (h43:Dh K "_law_row" z8A a43)
  {a44:Addr} (h44:Dh K "_law_bills" z5Q a44)
  {a45:Addr} (h45:Dh K "_law_sum" z6Q a45)
  {a46:Addr} (h46:Dh K "_law_plus" z6S a46)
  {a47:Addr} (h47:Dh K "_law_heavy" z7M a47)
  {a48:Addr} (h48:Dh K "_law_baskets" z5n a48)
  {a49:Addr} (h49:Dh K "_law_even" z9E a49)
  {a50:Addr} (h50:Dh K "_law_fair" z6T a50)
  {a51:Addr} (h51:Dh K "_law_is_scale" z4F a51)
  {a52:Addr} (h52:Dh K "law" zis a52)
  (z_abs:PySem.W.nsIn K mainGlobals "abs" = some none)
  (z_all:PySem.W.nsIn K mainGlobals "all" = some none)
  (z_any:PySem.W.nsIn K mainGlobals "any" = some none)
  (z_bool:PySem.W.nsIn K mainGlobals "bool" = some none)
  (z_enumerate:PySem.W.nsIn K mainGlobals "enumerate" = some none)
  (z_int:PySem.W.nsIn K mainGlobals "int" = some none)
  (z_isinstance:PySem.W.nsIn K mainGlobals "isinstance" = some none)
  (z_len:PySem.W.nsIn K mainGlobals "len" = some none)
  (z_list:PySem.W.nsIn K mainGlobals "list" = some none)
  (z_range:PySem.W.nsIn K mainGlobals "range" = some none)
  (z_reversed:PySem.W.nsIn K mainGlobals "reversed" = some none)
  (z_sorted:PySem.W.nsIn K mainGlobals "sorted" = some none)
  (z_sum:PySem.W.nsIn K mainGlobals "sum" = some none)
  (z_tuple:PySem.W.nsIn K mainGlobals "tuple" = some none)
  (z_zip:PySem.W.nsIn K mainGlobals "zip" = some none)
  {z30:Tok} (y_MOST_BILLS:PySem.W.nsIn K mainGlobals "MOST_BILLS" = some (some (.int 8 z30)))
  {z31:Tok} (y_MOST_KINDS:PySem.W.nsIn K mainGlobals "MOST_KINDS" = some (some (.int 6 z31)))
  : ∃ fd:FuncData,(∀(s:Shared) (u:Value),BindsTo s fd ⟨[u],[]⟩ [("_law_script",u)])∧∀ base:Heap,K.In base→base.Ns mainGlobals mg→FnOk l.prog w K mg base CX0 10 fa fd ["_law_script"] (spc K true zii):=by
 obtain⟨d0,q0,b0⟩:=h0.df (ps:=["value"]) X G (fun _ _ _ _ _ _=>us1 (fun _=>rfl))
 obtain⟨d1,q1,b1⟩:=h1.df (ps:=["value", "length"]) X G (fun _ _ _ _ _ _=>us2 (fun _ _=>rfl))
 obtain⟨d2,q2,b2⟩:=h2.df (ps:=["length", "one_at"]) X G (fun _ _ _ _ _ _=>us2 (fun _ _=>rfl))
 obtain⟨d3,q3,b3⟩:=h3.df (ps:=["one", "other"]) X G (fun _ _ _ _ _ _=>us2 (fun _ _=>rfl))
 obtain⟨d4,q4,b4⟩:=h4.df (ps:=["one", "other"]) X G (fun _ _ _ _ _ _=>us2 (fun _ _=>rfl))
 obtain⟨d5,q5,b5⟩:=h5.df (ps:=["row", "often"]) X G (fun _ _ _ _ _ _=>us2 (fun _ _=>rfl))
 obtain⟨d6,q6,b6⟩:=h6.df (ps:=["row", "weights"]) X G (fun _ _ _ _ _ _=>us2 (fun _ _=>rfl))
 obtain⟨d7,q7,b7⟩:=h7.df (ps:=["row"]) X G (fun _ _ _ _ _ _=>us1 (fun _=>rfl))
 obtain⟨d8,q8,b8⟩:=h8.df (ps:=["value"]) X G (fun _ _ _ _ _ _=>us1 (fun _=>rfl))
 obtain⟨d9,q9,b9⟩:=h9.df (ps:=["value", "kinds"]) X G (fun _ _ _ _ _ _=>us2 (fun _ _=>rfl))
 obtain⟨d10,q10,b10⟩:=h10.df (ps:=["kinds"]) X G (fun _ _ _ _ _ _=>us1 (fun _=>rfl))
 obtain⟨d11,q11,b11⟩:=h11.df (ps:=["bill", "kinds"]) X G (fun _ _ _ _ _ _=>us2 (fun _ _=>rfl))
 obtain⟨d12,q12,b12⟩:=h12.df (ps:=["kinds", "rows"]) X G (fun _ _ _ _ _ _=>us2 (fun _ _=>rfl))
 obtain⟨d13,q13,b13⟩:=h13.df (ps:=["kinds", "bills"]) X G (fun _ _ _ _ _ _=>us2 (fun _ _=>rfl))
 obtain⟨d14,q14,b14⟩:=h14.df (ps:=["kinds", "basket"]) X G (fun _ _ _ _ _ _=>us2 (fun _ _=>rfl))
 obtain⟨d15,q15,b15⟩:=h15.df (ps:=["a", "b"]) X G (fun _ _ _ _ _ _=>us2 (fun _ _=>rfl))
 obtain⟨d16,q16,b16⟩:=h16.df (ps:=["a", "part"]) X G (fun _ _ _ _ _ _=>us2 (fun _ _=>rfl))
 obtain⟨d17,q17,b17⟩:=h17.df (ps:=["numbers"]) X G (fun _ _ _ _ _ _=>us1 (fun _=>rfl))
 obtain⟨d18,q18,b18⟩:=h18.df (ps:=["row", "rungs"]) X G (fun _ _ _ _ _ _=>us2 (fun _ _=>rfl))
 obtain⟨d19,q19,b19⟩:=h19.df (ps:=["row", "rungs"]) X G (fun _ _ _ _ _ _=>us2 (fun _ _=>rfl))
 obtain⟨d20,q20,b20⟩:=h20.df (ps:=["rung", "row"]) X G (fun _ _ _ _ _ _=>us2 (fun _ _=>rfl))
 obtain⟨d21,q21,b21⟩:=h21.df (ps:=["row"]) X G (fun _ _ _ _ _ _=>us1 (fun _=>rfl))
 obtain⟨d22,q22,b22⟩:=h22.df (ps:=["rungs", "row"]) X G (fun _ _ _ _ _ _=>us2 (fun _ _=>rfl))
 obtain⟨d23,q23,b23⟩:=h23.df (ps:=["rungs"]) X G (fun _ _ _ _ _ _=>us1 (fun _=>rfl))
 obtain⟨d24,q24,b24⟩:=h24.df (ps:=["rows"]) X G (fun _ _ _ _ _ _=>us1 (fun _=>rfl))
 obtain⟨d25,q25,b25⟩:=h25.df (ps:=["rows", "tags"]) X G (fun _ _ _ _ _ _=>us2 (fun _ _=>rfl))
 obtain⟨d26,q26,b26⟩:=h26.df (ps:=["rungs", "width"]) X G (fun _ _ _ _ _ _=>us2 (fun _ _=>rfl))
 obtain⟨d27,q27,b27⟩:=h27.df (ps:=["hall"]) X G (fun _ _ _ _ _ _=>us1 (fun _=>rfl))
 obtain⟨d28,q28,b28⟩:=h28.df (ps:=["rows", "width"]) X G (fun _ _ _ _ _ _=>us2 (fun _ _=>rfl))
 obtain⟨d29,q29,b29⟩:=h29.df (ps:=["rows"]) X G (fun _ _ _ _ _ _=>us1 (fun _=>rfl))
 obtain⟨d30,q30,b30⟩:=h30.df (ps:=["row", "part"]) X G (fun _ _ _ _ _ _=>us2 (fun _ _=>rfl))
 obtain⟨d31,q31,b31⟩:=h31.df (ps:=["rows", "tags", "whole"]) X G (fun _ _ _ _ _ _=>us3 (fun _ _ _=>rfl))
 obtain⟨d32,q32,b32⟩:=h32.df (ps:=["one", "other"]) X G (fun _ _ _ _ _ _=>us2 (fun _ _=>rfl))
 obtain⟨d33,q33,b33⟩:=h33.df (ps:=["measured"]) X G (fun _ _ _ _ _ _=>us1 (fun _=>rfl))
 obtain⟨d34,q34,b34⟩:=h34.df (ps:=["hall"]) X G (fun _ _ _ _ _ _=>us1 (fun _=>rfl))
 obtain⟨d35,q35,b35⟩:=h35.df (ps:=["hall"]) X G (fun _ _ _ _ _ _=>us1 (fun _=>rfl))
 obtain⟨d36,q36,b36⟩:=h36.df (ps:=["way", "scale"]) X G (fun _ _ _ _ _ _=>us2 (fun _ _=>rfl))
 obtain⟨d37,q37,b37⟩:=h37.df (ps:=["one", "other", "scale"]) X G (fun _ _ _ _ _ _=>us3 (fun _ _ _=>rfl))
 obtain⟨d38,q38,b38⟩:=h38.df (ps:=["hall", "scale"]) X G (fun _ _ _ _ _ _=>us2 (fun _ _=>rfl))
 obtain⟨d39,q39,b39⟩:=h39.df (ps:=["_law_script", "_law_k"]) X G (fun _ _ _ _ _ _=>us2 (fun _ _=>rfl))
 obtain⟨d40,q40,b40⟩:=h40.df (ps:=["_law_found"]) X G (fun _ _ _ _ _ _=>us1 (fun _=>rfl))
 obtain⟨d41,q41,b41⟩:=h41.df (ps:=["_law_found", "_law_size"]) X G (fun _ _ _ _ _ _=>us2 (fun _ _=>rfl))
 obtain⟨d42,q42,b42⟩:=h42.df (ps:=["_law_cell", "_law_mode"]) X G (fun _ _ _ _ _ _=>us2 (fun _ _=>rfl))
 obtain⟨d43,q43,b43⟩:=h43.df (ps:=["_law_script", "_law_at", "_law_size", "_law_mode"]) X G (fun _ _ _ _ _ _=>us4 (fun _ _ _ _=>rfl))
 obtain⟨d44,q44,b44⟩:=h44.df (ps:=["_law_script"]) X G (fun _ _ _ _ _ _=>us1 (fun _=>rfl))
 obtain⟨d45,q45,b45⟩:=h45.df (ps:=["_law_size", "_law_rows", "_law_times"]) X G (fun _ _ _ _ _ _=>us3 (fun _ _ _=>rfl))
 obtain⟨d46,q46,b46⟩:=h46.df (ps:=["_law_one", "_law_other", "_law_times"]) X G (fun _ _ _ _ _ _=>us3 (fun _ _ _=>rfl))
 obtain⟨d47,q47,b47⟩:=h47.df (ps:=["_law_weights", "_law_row_here"]) X G (fun _ _ _ _ _ _=>us2 (fun _ _=>rfl))
 obtain⟨d48,q48,b48⟩:=h48.df (ps:=["_law_script", "_law_kinds", "_law_bills_here"]) X G (fun _ _ _ _ _ _=>us3 (fun _ _ _=>rfl))
 obtain⟨d49,q49,b49⟩:=h49.df (ps:=["_law_one", "_law_other", "_law_scale"]) X G (fun _ _ _ _ _ _=>us3 (fun _ _ _=>rfl))
 obtain⟨d50,q50,b50⟩:=h50.df (ps:=["_law_bills_here", "_law_kinds", "_law_scale"]) X G (fun _ _ _ _ _ _=>us3 (fun _ _ _=>rfl))
 obtain⟨d51,q51,b51⟩:=h51.df (ps:=["_law_scale", "_law_kinds"]) X G (fun _ _ _ _ _ _=>us2 (fun _ _=>rfl))
 obtain⟨d52,q52,b52⟩:=h52.df (ps:=["_law_script"]) X G (fun _ _ _ _ _ _=>us1 (fun _=>rfl))
 have key:∃ A:Adr,Facts K mg A∧∀(s:Shared) (u:Value),BindsTo s A.ziJ ⟨[u],[]⟩ [("_law_script",u)]:=⟨⟨a0,d0,a1,d1,a2,d2,a3,d3,a4,d4,a5,d5,a6,d6,a7,d7,a8,d8,a9,d9,a10,d10,a11,d11,a12,d12,a13,d13,a14,d14,a15,d15,a16,d16,a17,d17,a18,d18,a19,d19,a20,d20,a21,d21,a22,d22,a23,d23,a24,d24,a25,d25,a26,d26,a27,d27,a28,d28,a29,d29,a30,d30,a31,d31,a32,d32,a33,d33,a34,d34,a35,d35,a36,d36,a37,d37,a38,d38,a39,d39,a40,d40,a41,d41,a42,d42,a43,d43,a44,d44,a45,d45,a46,d46,a47,d47,a48,d48,a49,d49,a50,d50,a51,d51,a52,d52,z30,z31⟩,⟨PySem.W.mg_none_of X G z_abs,PySem.W.mg_none_of X G z_all,PySem.W.mg_none_of X G z_any,PySem.W.mg_none_of X G z_bool,PySem.W.mg_none_of X G z_enumerate,PySem.W.mg_none_of X G z_int,PySem.W.mg_none_of X G z_isinstance,PySem.W.mg_none_of X G z_len,PySem.W.mg_none_of X G z_list,PySem.W.mg_none_of X G z_range,PySem.W.mg_none_of X G z_reversed,PySem.W.mg_none_of X G z_sorted,PySem.W.mg_none_of X G z_sum,PySem.W.mg_none_of X G z_tuple,PySem.W.mg_none_of X G z_zip,PySem.W.mg_of X G y_MOST_BILLS,PySem.W.mg_of X G y_MOST_KINDS,q0,q1,q2,q3,q4,q5,q6,q7,q8,q9,q10,q11,q12,q13,q14,q15,q16,q17,q18,q19,q20,q21,q22,q23,q24,q25,q26,q27,q28,q29,q30,q31,q32,q33,q34,q35,q36,q37,q38,q39,q40,q41,q42,q43,q44,q45,q46,q47,q48,q49,q50,q51,q52⟩,fun s u => .of_eq (b52 [u] rfl)⟩
 obtain⟨A,FF,hb⟩:=key
 have e:=hfa.symm.trans FF.f_law.mg
 cases e
 exact⟨A.ziJ,hb,fun base _ _=>ok_law FF⟩
namespace H
noncomputable section
open PySem PySem.W PySem.Calls PyProof.Rows
abbrev pw:Program:=PySem.Challenge.pw_changehall_k14_scales_fair
abbrev vs(s:String)(t:Nat):Value := .str (Str.ofString s) t
abbrev de(P:Params)(s:String)(t:Nat)(v:Value):DictEntry:=⟨PyData.keyHash P (Str.ofString s),.str (Str.ofString s) t,v⟩
abbrev N:=BT.node
abbrev E:=BT.nil
abbrev ins(t:BT)(l:List (Nat×Obj)):BT:=l.foldl (fun t x=>t.ins x.1 x.2) t
def fdT(s:Stmt)(g:Addr)(md cd:Value):FuncData:=match s with
 | .FunctionDef name args body _ _ _ scope _ _ _=>{ name:=name,qualname:=name,params:=args,body := .stmts body,scope:=scope,globals:=g,closure:=[],defaults := .none,kwdefaults := .none,pyModule:=md,code:=cd }
 | _=>default
abbrev tu(l:List Value):Obj:=⟨.type "tuple",none,.seq l.toArray 0,#[]⟩
abbrev fi(l:List Value):Obj:=⟨.none,none,.fields l.toArray,#[]⟩
abbrev fo(c:Value)(i:Nat)(g:Addr)(md cd:Value):Obj:=⟨c,none,.func (fdT (top i) g md cd),#[]⟩
abbrev co(a f:String)(t0 t1 t2:Nat)(l n z:Int)(r:Addr)(u:Bool)(v:Int)(s:Addr)(p q1 q2 q3:Value)(w:Int)(t3:Nat):Obj:=⟨.type "code",none,.fields #[vs a t0,vs a t1,vs f t2,.int l 0,.int n 0,.int 0 0,.int 0 0,.int z 0,.ref r,.bool u,.int v 0,.ref s,p,q1,q2,q3,.int w 0,.int l 0,vs f t3],#[]⟩
theorem te_go:@topGo=Fast.tw15667345088766844465:=Fast.te15667345088766844465
theorem te_sr:@segRun=Fast.tw14374325043358763698:=Fast.te14374325043358763698
theorem te_sT:@segRunT=Fast.tw10110043849684766642:=Fast.te10110043849684766642
theorem te_tr:@topRun=Fast.tw14082659384304107361:=Fast.te14082659384304107361
theorem te_tb:treeTable=Fast.tw14364793385576792824:=Fast.te14364793385576792824
theorem te_im:@importedModules=Fast.tw5923862056798008813:=Fast.te5923862056798008813
theorem te_seen:@seen=Fast.tw5160383126252970620:=Fast.te5160383126252970620
theorem te_recs:@recsOf=Fast.tw3399658132070893891:=Fast.te3399658132070893891
theorem te_owns:@ownsOf=Fast.tw5991557255702980513:=Fast.te5991557255702980513
theorem te_keys:@Heap.keysOk=Fast.tw10880121769531294198:=Fast.te10880121769531294198
theorem te_loose:@looseW=Fast.tw821141287760084731:=Fast.te821141287760084731
theorem te_lits:@litsOf=Fast.tw7409074990110511671:=Fast.te7409074990110511671
theorem te_clss:@clssOf=Fast.tw13664370479719496447:=Fast.te13664370479719496447
theorem te_acc:@Heap.accountedOkI=Fast.tw14722251495701143533:=Fast.te14722251495701143533
theorem te_tabl:@tablesOk=Fast.tw10994771534591457954:=Fast.te10994771534591457954
theorem te_tabs:@tabsOk=Fast.tw479339242167458305:=Fast.te479339242167458305
theorem te_pin:@pinSeenD=Fast.tw16090120013241838585:=Fast.te16090120013241838585
theorem te_drecs:@drecsOf=Fast.tw3247288618530077131:=Fast.te3247288618530077131
theorem te_pE:@plainSeenE=Fast.tw2386780881361962483:=Fast.te2386780881361962483
theorem te_pD:@plainSeenD=Fast.tw11698064438423848299:=Fast.te11698064438423848299
theorem te_wide:@wideSeen=Fast.tw7317090234206586261:=Fast.te7317090234206586261
theorem te_cls:@clsSeenW=Fast.tw7369524293546568484:=Fast.te7369524293546568484
theorem te_den:@denote=Fast.tw11892475500146522536:=Fast.te11892475500146522536
theorem te_ns:@Heap.nsMap=Fast.tw8920871248978507458:=Fast.te8920871248978507458
abbrev env:Env:={ scope:=pw.main.scope,locals:=mainNs,globals:=mainNs,cells:=[],code := .ref 13,frame:=some 14 }
abbrev cE:Code := .body (behindTheImports pw) env
abbrev fB:List Frame:=[topFrame ⟨0,0,0,0⟩]
abbrev ann:Option Value:=some (.ref 6)
abbrev o11a:=tu []
abbrev o12aL:List Value:=[]
abbrev o12a:=fi o12aL
abbrev o13a:=co "<module>" "/claim/cut.py" 182 183 184 1 0 0 11 false 181 12 .none .none .none .none 185 186
abbrev o14a:Obj:=⟨.type "frame",none,.plain,#[Option.some (PySem.Value.ref 13),Option.some (PySem.Value.ref 3),Option.some (PySem.Value.ref 3),Option.none,Option.some (PySem.Value.str (PySem.Str.ofString "__main__") 164),Option.none,Option.some (PySem.Value.ref 0)]⟩
abbrev ha(P:Params):Heap:=⟨⟨[boot_o_0 P,boot_o_1 P,boot_o_2 P,boot_o_3 P,boot_o_4 P,boot_o_5 P,boot_o_6 P,boot_o_7 P,boot_o_8 P,boot_o_9 P,boot_o_10 P,o11a,o12a,o13a,o14a]⟩,{ }⟩
theorem run_a(w:World)(os:OsState):topGo treeTable pw w 11 ann 12 ⟨boot_heap w.params,#[],boot_drawn,boot_toks,os⟩ (topStub pw)=some (⟨ha w.params,#[],{ },187,os⟩,⟨denote treeTable cE,cE,⟨0,0,0,0⟩,fB⟩):=by
 rewrite[te_go,te_den,te_tb];kernel_rfl
abbrev t0(P:Params):BT:=(N (boot_o_0 P) (N (boot_o_1 P) (N (boot_o_3 P) (N (boot_o_7 P) E E) (N (o11a) E E)) (N (boot_o_5 P) (N (boot_o_9 P) E E) (N (o13a) E E))) (N (boot_o_2 P) (N (boot_o_4 P) (N (boot_o_8 P) E E) (N (o12a) E E)) (N (boot_o_6 P) (N (boot_o_10 P) E E) (N (o14a) E E))))
abbrev s0(w:World)(os:OsState):SharedT:=⟨t0 w.params,15,{ },#[],{ },187,os⟩
theorem run_b(w:World)(os:OsState):segRun treeTable pw w 11 ann 1 1 ⟨ha w.params,#[],{ },187,os⟩ (blockOf (behindTheImports pw) env cE ⟨0,0,0,0⟩ fB)=some (.next,(s0 w os).abs,cE,⟨0,0,0,0⟩):=by
 rewrite[te_sr,te_tb];kernel_rfl
abbrev o3_1L(P:Params):List DictEntry:=[de P "__name__" 165 (vs "changehall.errors" 241),de P "__doc__" 166 .none,de P "__package__" 167 .none,de P "__loader__" 168 (.builtin "__main__.__loader__#opaque"),de P "__spec__" 169 .none,de P "__annotations__" 170 (.ref 6),de P "__builtins__" 171 (.ref 4),de P "__file__" 173 (vs "/claim/cut.py" 172),de P "__cached__" 174 .none,de P "is_whole" 195 (.ref 21),de P "is_row" 201 (.ref 26),de P "unit_row" 207 (.ref 31),de P "added" 213 (.ref 36),de P "taken" 219 (.ref 41),de P "scaled" 225 (.ref 46),de P "weighed" 231 (.ref 51),de P "head_at" 240 (.ref 58)]
abbrev o3_1(P:Params):Obj:=⟨.type "dict",none,.dict (o3_1L P).toArray 17,#[]⟩
abbrev zl4:List Value:=o12aL++[.int 2 0,.int 0 0,.ref 20,.int 4 0,.int 0 0,.ref 25,.int 8 0,.int 0 0,.ref 30,.int 10 0,.int 0 0,.ref 35,.int 12 0,.int 0 0,.ref 40,.int 14 0,.int 0 0,.ref 45,.int 16 0,.int 0 0,.ref 50,.int 18 0,.int 0 0,.ref 57]
abbrev o12_1:=fi zl4
abbrev zl5:=tu []
abbrev o16_1:=fi []
abbrev zl6:=tu [vs "value" 192]
abbrev zl7:=tu []
abbrev o19_1:=fo .none 1 0 .none .none
abbrev zl8:=co "is_whole" "/claim/cut.py" 189 190 191 2 1 3 15 true 181 16 .none (.ref 17) (.ref 18) (.ref 19) 193 194
abbrev zl9:=fo (.type "function") 1 3 (vs "changehall.rows" 187) (.ref 20)
abbrev zla:=tu []
abbrev o23_1:=fi []
abbrev o24_1:=fo .none 2 0 .none .none
abbrev zlb:=co "is_row" "/claim/cut.py" 196 197 198 4 2 3 22 true 181 23 .none .none .none (.ref 24) 199 200
abbrev zlc:=fo (.type "function") 2 3 (vs "changehall.rows" 187) (.ref 25)
abbrev zld:=tu []
abbrev o28_1:=fi []
abbrev o29_1:=fo .none 3 0 .none .none
abbrev zle:=co "unit_row" "/claim/cut.py" 202 203 204 8 2 3 27 true 181 28 .none .none .none (.ref 29) 205 206
abbrev zlf:=fo (.type "function") 3 3 (vs "changehall.rows" 187) (.ref 30)
abbrev zlg:=tu []
abbrev o33_1:=fi []
abbrev o34_1:=fo .none 4 0 .none .none
abbrev zlh:=co "added" "/claim/cut.py" 208 209 210 10 2 3 32 true 181 33 .none .none .none (.ref 34) 211 212
abbrev zli:=fo (.type "function") 4 3 (vs "changehall.rows" 187) (.ref 35)
abbrev zlj:=tu []
abbrev o38_1:=fi []
abbrev o39_1:=fo .none 5 0 .none .none
abbrev zlk:=co "taken" "/claim/cut.py" 214 215 216 12 2 3 37 true 181 38 .none .none .none (.ref 39) 217 218
abbrev zll:=fo (.type "function") 5 3 (vs "changehall.rows" 187) (.ref 40)
abbrev zlm:=tu []
abbrev o43_1:=fi []
abbrev o44_1:=fo .none 6 0 .none .none
abbrev zln:=co "scaled" "/claim/cut.py" 220 221 222 14 2 3 42 true 181 43 .none .none .none (.ref 44) 223 224
abbrev zlo:=fo (.type "function") 6 3 (vs "changehall.rows" 187) (.ref 45)
abbrev zlp:=tu []
abbrev o48_1:=fi []
abbrev o49_1:=fo .none 7 0 .none .none
abbrev zlq:=co "weighed" "/claim/cut.py" 226 227 228 16 2 3 47 true 181 48 .none .none .none (.ref 49) 229 230
abbrev zlr:=fo (.type "function") 7 3 (vs "changehall.rows" 187) (.ref 50)
abbrev zls:=tu []
abbrev o53_1:=fi []
abbrev zlt:=tu [vs "row" 235,vs "spot" 236,vs "number" 237]
abbrev zlu:=tu []
abbrev o56_1:=fo .none 8 0 .none .none
abbrev zlv:=co "head_at" "/claim/cut.py" 232 233 234 18 1 3 52 true 181 53 .none (.ref 54) (.ref 55) (.ref 56) 238 239
abbrev zlw:=fo (.type "function") 8 3 (vs "changehall.rows" 187) (.ref 57)
abbrev t1(P:Params):BT:=ins (t0 P) [(3,o3_1 P),(12,o12_1),(15,zl5),(16,o16_1),(17,zl6),(18,zl7),(19,o19_1),(20,zl8),(21,zl9),(22,zla),(23,o23_1),(24,o24_1),(25,zlb),(26,zlc),(27,zld),(28,o28_1),(29,o29_1),(30,zle),(31,zlf),(32,zlg),(33,o33_1),(34,o34_1),(35,zlh),(36,zli),(37,zlj),(38,o38_1),(39,o39_1),(40,zlk),(41,zll),(42,zlm),(43,o43_1),(44,o44_1),(45,zln),(46,zlo),(47,zlp),(48,o48_1),(49,o49_1),(50,zlq),(51,zlr),(52,zls),(53,o53_1),(54,zlt),(55,zlu),(56,o56_1),(57,zlv),(58,zlw)]
abbrev s1(w:World)(os:OsState):SharedT:=⟨t1 w.params,59,{ },#[],{ },243,os⟩
abbrev l0:List Stmt:=[top 0,top 1,top 2,top 3,top 4,top 5,top 6,top 7,top 8,top 9]
theorem run_0(w:World)(os:OsState):segRunT treeTable pw w 11 ann 1 235 (s0 w os) (piecesOf l0 env cE ⟨0,0,0,0⟩ fB)=some (.next,s1 w os,cE,⟨23,0,23,8⟩):=by
 rewrite[te_sT,te_tb];kernel_rfl
abbrev o3_2L(P:Params):List DictEntry:=de P "__name__" 165 (vs "changehall.errors" 241)::(o3_1L P).tail++[de P "HallError" 260 (.ref 68),de P "NoHall" 276 (.ref 81)]
abbrev o3_2(P:Params):Obj:=⟨.type "dict",none,.dict (o3_2L P).toArray 19,#[]⟩
abbrev zlx:List Value:=zl4++[.int 24 0,.int 0 0,.ref 64,.int 26 0,.int 0 0,.ref 77]
abbrev o12_2:=fi zlx
abbrev zly:=tu [.type "ValueError"]
abbrev o60_2:Obj:=⟨.type "builtin_function_or_method",none,.fields #[.builtin "type.__prepare__",.type "type"],#[]⟩
abbrev o61_2L(P:Params):List DictEntry:=[de P "__module__" 250 (vs "changehall.errors" 241),de P "__qualname__" 252 (vs "HallError" 251),de P "__firstlineno__" 254 (.int 24 253),de P "__static_attributes__" 255 (.ref 66)]
abbrev o61_2(P:Params):Obj:=⟨.type "dict",none,.dict (o61_2L P).toArray 4,#[]⟩
abbrev o62_2:=tu []
abbrev o63_2:=fi []
abbrev o64_2:=co "HallError" "/claim/cut.py" 245 246 247 24 0 0 62 false 181 63 .none .none .none .none 248 249
abbrev o65_2:Obj:=⟨.type "frame",none,.plain,#[Option.some (PySem.Value.ref 64),Option.some (PySem.Value.ref 3),Option.some (PySem.Value.ref 61),Option.none,Option.some (PySem.Value.str (PySem.Str.ofString "changehall.errors") 241),Option.none,Option.some (PySem.Value.ref 0)]⟩
abbrev zlz:=tu []
abbrev o67_2L(P:Params):List DictEntry:=[de P "__module__" 250 (vs "changehall.errors" 241),de P "__firstlineno__" 254 (.int 24 253),de P "__static_attributes__" 255 (.ref 66),de P "__weakref__" 257 (.ref 69),de P "__doc__" 258 .none]
abbrev zlA(P:Params):Obj:=⟨.type "dict",none,.dict (o67_2L P).toArray 3,#[]⟩
abbrev o68_2:Obj:=⟨.type "type",none,.cls ({ name:=PySem.Str.ofString "HallError",bases:=[PySem.Value.type "ValueError"],mro:=[PySem.Value.ref 68,PySem.Value.type "ValueError",PySem.Value.type "Exception",PySem.Value.type "BaseException",PySem.Value.type "object"],ns:=67,qualname:=PySem.Str.ofString "HallError",subclasses:=[PySem.Value.ref 81] }),#[Option.some (PySem.Value.ref 59),Option.none,Option.some (PySem.Value.str (PySem.Str.ofString "HallError") 243),Option.some (PySem.Value.str (PySem.Str.ofString "HallError") 251),Option.some (PySem.Value.builtin "ValueError.__new__"),Option.some (PySem.Value.bool Bool.true)]⟩
abbrev zlB:Obj:=⟨.type "getset_descriptor",none,.fields #[vs "__weakref__" 256,.ref 68,.builtin "ExceptionGroup.__weakref__",.none],#[]⟩
abbrev o70_2:Obj:=⟨.type "super",none,.fields #[.ref 68,.ref 68,.ref 68],#[]⟩
abbrev o71_2:Obj:=⟨.type "builtin_function_or_method",none,.fields #[.builtin "object.__init_subclass__",.ref 68],#[]⟩
abbrev zlC:=tu [.ref 68]
abbrev o73_2:Obj:=⟨.type "builtin_function_or_method",none,.fields #[.builtin "type.__prepare__",.type "type"],#[]⟩
abbrev o74_2L(P:Params):List DictEntry:=[de P "__module__" 268 (vs "changehall.errors" 241),de P "__qualname__" 270 (vs "NoHall" 269),de P "__firstlineno__" 272 (.int 26 271),de P "__static_attributes__" 273 (.ref 79)]
abbrev o74_2(P:Params):Obj:=⟨.type "dict",none,.dict (o74_2L P).toArray 4,#[]⟩
abbrev o75_2:=tu []
abbrev o76_2:=fi []
abbrev o77_2:=co "NoHall" "/claim/cut.py" 263 264 265 26 0 0 75 false 181 76 .none .none .none .none 266 267
abbrev o78_2:Obj:=⟨.type "frame",none,.plain,#[Option.some (PySem.Value.ref 77),Option.some (PySem.Value.ref 3),Option.some (PySem.Value.ref 74),Option.none,Option.some (PySem.Value.str (PySem.Str.ofString "changehall.errors") 241),Option.none,Option.some (PySem.Value.ref 0)]⟩
abbrev zlD:=tu []
abbrev o80_2L(P:Params):List DictEntry:=[de P "__module__" 268 (vs "changehall.errors" 241),de P "__firstlineno__" 272 (.int 26 271),de P "__static_attributes__" 273 (.ref 79),de P "__doc__" 274 .none]
abbrev zlE(P:Params):Obj:=⟨.type "dict",none,.dict (o80_2L P).toArray 2,#[]⟩
abbrev zlF:Obj:=⟨.type "type",none,.cls ({ name:=PySem.Str.ofString "NoHall",bases:=[PySem.Value.ref 68],mro:=[PySem.Value.ref 81,PySem.Value.ref 68,PySem.Value.type "ValueError",PySem.Value.type "Exception",PySem.Value.type "BaseException",PySem.Value.type "object"],ns:=80,qualname:=PySem.Str.ofString "NoHall" }),#[Option.some (PySem.Value.ref 72),Option.none,Option.some (PySem.Value.str (PySem.Str.ofString "NoHall") 261),Option.some (PySem.Value.str (PySem.Str.ofString "NoHall") 269),Option.some (PySem.Value.builtin "ValueError.__new__"),Option.some (PySem.Value.bool Bool.true)]⟩
abbrev o82_2:Obj:=⟨.type "super",none,.fields #[.ref 81,.ref 81,.ref 81],#[]⟩
abbrev o83_2:Obj:=⟨.type "builtin_function_or_method",none,.fields #[.builtin "object.__init_subclass__",.ref 81],#[]⟩
abbrev t2(P:Params):BT:=ins (t1 P) [(3,o3_2 P),(12,o12_2),(59,zly),(60,o60_2),(61,o61_2 P),(62,o62_2),(63,o63_2),(64,o64_2),(65,o65_2),(66,zlz),(67,zlA P),(68,o68_2),(69,zlB),(70,o70_2),(71,o71_2),(72,zlC),(73,o73_2),(74,o74_2 P),(75,o75_2),(76,o76_2),(77,o77_2),(78,o78_2),(79,zlD),(80,zlE P),(81,zlF),(82,o82_2),(83,o83_2)]
abbrev s2(w:World)(os:OsState):SharedT:=⟨t2 w.params,84,{ },#[],{ },277,os⟩
abbrev l1:List Stmt:=[top 10,top 11]
theorem run_1(w:World)(os:OsState):segRunT treeTable pw w 11 ann 1 400 (s1 w os) (piecesOf l1 env cE ⟨23,0,23,8⟩ fB)=some (.next,s2 w os,cE,⟨26,0,27,8⟩):=by
 rewrite[te_sT,te_tb];kernel_rfl
abbrev o3_3L(P:Params):List DictEntry:=de P "__name__" 165 (vs "changehall.halls" 293)::(o3_2L P).tail++[de P "NoBasket" 292 (.ref 93),de P "MOST_KINDS" 296 (.int 6 295),de P "MOST_BILLS" 298 (.int 8 297),de P "are_kinds" 305 (.ref 102),de P "is_bill" 311 (.ref 107),de P "need_kinds" 318 (.ref 114),de P "need_bill" 326 (.ref 121),de P "hall_of" 335 (.ref 128)]
abbrev o3_3(P:Params):Obj:=⟨.type "dict",none,.dict (o3_3L P).toArray 27,#[]⟩
abbrev zlG:List Value:=zlx++[.int 28 0,.int 0 0,.ref 89,.int 33 0,.int 0 0,.ref 101,.int 35 0,.int 0 0,.ref 106,.int 37 0,.int 0 0,.ref 113,.int 40 0,.int 0 0,.ref 120,.int 43 0,.int 0 0,.ref 127]
abbrev o12_3:=fi zlG
abbrev zlH:Obj:=⟨.type "type",none,.cls ({ name:=PySem.Str.ofString "HallError",bases:=[PySem.Value.type "ValueError"],mro:=[PySem.Value.ref 68,PySem.Value.type "ValueError",PySem.Value.type "Exception",PySem.Value.type "BaseException",PySem.Value.type "object"],ns:=67,qualname:=PySem.Str.ofString "HallError",subclasses:=[PySem.Value.ref 81,PySem.Value.ref 93] }),#[Option.some (PySem.Value.ref 59),Option.none,Option.some (PySem.Value.str (PySem.Str.ofString "HallError") 243),Option.some (PySem.Value.str (PySem.Str.ofString "HallError") 251),Option.some (PySem.Value.builtin "ValueError.__new__"),Option.some (PySem.Value.bool Bool.true)]⟩
abbrev zlI:=tu [.ref 68]
abbrev o85_3:Obj:=⟨.type "builtin_function_or_method",none,.fields #[.builtin "type.__prepare__",.type "type"],#[]⟩
abbrev o86_3L(P:Params):List DictEntry:=[de P "__module__" 284 (vs "changehall.errors" 241),de P "__qualname__" 286 (vs "NoBasket" 285),de P "__firstlineno__" 288 (.int 28 287),de P "__static_attributes__" 289 (.ref 91)]
abbrev o86_3(P:Params):Obj:=⟨.type "dict",none,.dict (o86_3L P).toArray 4,#[]⟩
abbrev o87_3:=tu []
abbrev o88_3:=fi []
abbrev o89_3:=co "NoBasket" "/claim/cut.py" 279 280 281 28 0 0 87 false 181 88 .none .none .none .none 282 283
abbrev o90_3:Obj:=⟨.type "frame",none,.plain,#[Option.some (PySem.Value.ref 89),Option.some (PySem.Value.ref 3),Option.some (PySem.Value.ref 86),Option.none,Option.some (PySem.Value.str (PySem.Str.ofString "changehall.errors") 241),Option.none,Option.some (PySem.Value.ref 0)]⟩
abbrev zlJ:=tu []
abbrev o92_3L(P:Params):List DictEntry:=[de P "__module__" 284 (vs "changehall.errors" 241),de P "__firstlineno__" 288 (.int 28 287),de P "__static_attributes__" 289 (.ref 91),de P "__doc__" 290 .none]
abbrev zlK(P:Params):Obj:=⟨.type "dict",none,.dict (o92_3L P).toArray 2,#[]⟩
abbrev zlL:Obj:=⟨.type "type",none,.cls ({ name:=PySem.Str.ofString "NoBasket",bases:=[PySem.Value.ref 68],mro:=[PySem.Value.ref 93,PySem.Value.ref 68,PySem.Value.type "ValueError",PySem.Value.type "Exception",PySem.Value.type "BaseException",PySem.Value.type "object"],ns:=92,qualname:=PySem.Str.ofString "NoBasket" }),#[Option.some (PySem.Value.ref 84),Option.none,Option.some (PySem.Value.str (PySem.Str.ofString "NoBasket") 277),Option.some (PySem.Value.str (PySem.Str.ofString "NoBasket") 285),Option.some (PySem.Value.builtin "ValueError.__new__"),Option.some (PySem.Value.bool Bool.true)]⟩
abbrev o94_3:Obj:=⟨.type "super",none,.fields #[.ref 93,.ref 93,.ref 93],#[]⟩
abbrev o95_3:Obj:=⟨.type "builtin_function_or_method",none,.fields #[.builtin "object.__init_subclass__",.ref 93],#[]⟩
abbrev zlM:=tu []
abbrev o97_3:=fi []
abbrev zlN:=tu [vs "value" 302]
abbrev zlO:=tu []
abbrev zlP:=fo .none 16 0 .none .none
abbrev zeP:=co "are_kinds" "/claim/cut.py" 299 300 301 33 1 3 96 true 181 97 .none (.ref 98) (.ref 99) (.ref 100) 303 304
abbrev zeQ:=fo (.type "function") 16 3 (vs "changehall.halls" 293) (.ref 101)
abbrev zeR:=tu []
abbrev zlQ:=fi []
abbrev zlR:=fo .none 17 0 .none .none
abbrev zeS:=co "is_bill" "/claim/cut.py" 306 307 308 35 2 3 103 true 181 104 .none .none .none (.ref 105) 309 310
abbrev zeT:=fo (.type "function") 17 3 (vs "changehall.halls" 293) (.ref 106)
abbrev zeU:=tu []
abbrev zlS:=fi []
abbrev zeV:=tu [vs "kinds" 315]
abbrev zeW:=tu []
abbrev zlT:=fo .none 18 0 .none .none
abbrev zeX:=co "need_kinds" "/claim/cut.py" 312 313 314 37 1 3 108 true 181 109 .none (.ref 110) (.ref 111) (.ref 112) 316 317
abbrev zeY:=fo (.type "function") 18 3 (vs "changehall.halls" 293) (.ref 113)
abbrev zeZ:=tu []
abbrev zlU:=fi []
abbrev zf:=tu [vs "bill" 322,vs "kinds" 323]
abbrev zf0:=tu []
abbrev zlV:=fo .none 19 0 .none .none
abbrev zf1:=co "need_bill" "/claim/cut.py" 319 320 321 40 2 3 115 true 181 116 .none (.ref 117) (.ref 118) (.ref 119) 324 325
abbrev zf2:=fo (.type "function") 19 3 (vs "changehall.halls" 293) (.ref 120)
abbrev zf3:=tu []
abbrev zlW:=fi []
abbrev zf4:=tu [vs "kinds" 330,vs "bills" 331,vs "bill" 332]
abbrev zf5:=tu []
abbrev zlX:=fo .none 20 0 .none .none
abbrev zf6:=co "hall_of" "/claim/cut.py" 327 328 329 43 2 3 122 true 181 123 .none (.ref 124) (.ref 125) (.ref 126) 333 334
abbrev zf7:=fo (.type "function") 20 3 (vs "changehall.halls" 293) (.ref 127)
abbrev t3(P:Params):BT:=ins (t2 P) [(3,o3_3 P),(12,o12_3),(68,zlH),(84,zlI),(85,o85_3),(86,o86_3 P),(87,o87_3),(88,o88_3),(89,o89_3),(90,o90_3),(91,zlJ),(92,zlK P),(93,zlL),(94,o94_3),(95,o95_3),(96,zlM),(97,o97_3),(98,zlN),(99,zlO),(100,zlP),(101,zeP),(102,zeQ),(103,zeR),(104,zlQ),(105,zlR),(106,zeS),(107,zeT),(108,zeU),(109,zlS),(110,zeV),(111,zeW),(112,zlT),(113,zeX),(114,zeY),(115,zeZ),(116,zlU),(117,zf),(118,zf0),(119,zlV),(120,zf1),(121,zf2),(122,zf3),(123,zlW),(124,zf4),(125,zf5),(126,zlX),(127,zf6),(128,zf7)]
abbrev s3(w:World)(os:OsState):SharedT:=⟨t3 w.params,129,{ },#[],{ },336,os⟩
abbrev l2:List Stmt:=[top 12,top 13,top 14,top 15,top 16,top 17,top 18,top 19,top 20]
theorem run_2(w:World)(os:OsState):segRunT treeTable pw w 11 ann 1 386 (s2 w os) (piecesOf l2 env cE ⟨26,0,27,8⟩ fB)=some (.next,s3 w os,cE,⟨43,0,49,32⟩):=by
 rewrite[te_sT,te_tb];kernel_rfl
abbrev o3_4L(P:Params):List DictEntry:=de P "__name__" 165 (vs "changehall.stairs" 375)::(o3_3L P).tail++[de P "hall_by" 341 (.ref 133),de P "need_basket_of" 349 (.ref 140),de P "bridge" 357 (.ref 145),de P "rest" 365 (.ref 152),de P "product" 374 (.ref 159),de P "lowering" 389 (.ref 166),de P "lowered" 397 (.ref 173),de P "crossed" 409 (.ref 180),de P "turned_up" 416 (.ref 187),de P "with_row" 422 (.ref 192),de P "evened" 431 (.ref 199),de P "climbed" 440 (.ref 206)]
abbrev o3_4(P:Params):Obj:=⟨.type "dict",none,.dict (o3_4L P).toArray 39,#[]⟩
abbrev zlY:List Value:=zlG++[.int 50 0,.int 0 0,.ref 132,.int 52 0,.int 0 0,.ref 139,.int 56 0,.int 0 0,.ref 144,.int 67 0,.int 0 0,.ref 151,.int 71 0,.int 0 0,.ref 158,.int 77 0,.int 0 0,.ref 165,.int 87 0,.int 0 0,.ref 172,.int 89 0,.int 0 0,.ref 179,.int 95 0,.int 0 0,.ref 186,.int 97 0,.int 0 0,.ref 191,.int 108 0,.int 0 0,.ref 198,.int 113 0,.int 0 0,.ref 205]
abbrev o12_4:=fi zlY
abbrev zf8:=tu []
abbrev zlZ:=fi []
abbrev zm:=fo .none 21 0 .none .none
abbrev zf9:=co "hall_by" "/claim/cut.py" 336 337 338 50 2 3 129 true 181 130 .none .none .none (.ref 131) 339 340
abbrev zfa:=fo (.type "function") 21 3 (vs "changehall.halls" 293) (.ref 132)
abbrev zfb:=tu []
abbrev zm0:=fi []
abbrev zfc:=tu [vs "kinds" 345,vs "basket" 346]
abbrev zfd:=tu []
abbrev zm1:=fo .none 22 0 .none .none
abbrev zfe:=co "need_basket_of" "/claim/cut.py" 342 343 344 52 2 3 134 true 181 135 .none (.ref 136) (.ref 137) (.ref 138) 347 348
abbrev zff:=fo (.type "function") 22 3 (vs "changehall.halls" 293) (.ref 139)
abbrev zfg:=tu []
abbrev zm2:=fi []
abbrev zm3:=fo .none 24 0 .none .none
abbrev zfh:=co "bridge" "/claim/cut.py" 352 353 354 56 2 3 141 true 181 142 .none .none .none (.ref 143) 355 356
abbrev zfi:=fo (.type "function") 24 3 (vs "changehall.whole" 350) (.ref 144)
abbrev zfj:=tu []
abbrev zm4:=fi []
abbrev zfk:=tu [vs "a" 361,vs "part" 362]
abbrev zfl:=tu []
abbrev zm5:=fo .none 25 0 .none .none
abbrev zfm:=co "rest" "/claim/cut.py" 358 359 360 67 2 3 146 true 181 147 .none (.ref 148) (.ref 149) (.ref 150) 363 364
abbrev zfn:=fo (.type "function") 25 3 (vs "changehall.whole" 350) (.ref 151)
abbrev zfo:=tu []
abbrev zm6:=fi []
abbrev zfp:=tu [vs "numbers" 369,vs "found" 370,vs "number" 371]
abbrev zfq:=tu []
abbrev zm7:=fo .none 26 0 .none .none
abbrev zfr:=co "product" "/claim/cut.py" 366 367 368 71 1 3 153 true 181 154 .none (.ref 155) (.ref 156) (.ref 157) 372 373
abbrev zfs:=fo (.type "function") 26 3 (vs "changehall.whole" 350) (.ref 158)
abbrev zft:=tu []
abbrev zm8:=fi []
abbrev zfu:=tu [vs "row" 380,vs "rungs" 381,vs "left" 382,vs "counts" 383,vs "rung" 384,vs "spot" 385,vs "often" 386]
abbrev zfv:=tu []
abbrev zm9:=fo .none 28 0 .none .none
abbrev zfw:=co "lowering" "/claim/cut.py" 377 378 379 77 2 3 160 true 181 161 .none (.ref 162) (.ref 163) (.ref 164) 387 388
abbrev zfx:=fo (.type "function") 28 3 (vs "changehall.stairs" 375) (.ref 165)
abbrev zfy:=tu []
abbrev zma:=fi []
abbrev zfz:=tu [vs "row" 393,vs "rungs" 394]
abbrev zfA:=tu []
abbrev zmb:=fo .none 29 0 .none .none
abbrev zfB:=co "lowered" "/claim/cut.py" 390 391 392 87 2 3 167 true 181 168 .none (.ref 169) (.ref 170) (.ref 171) 395 396
abbrev zfC:=fo (.type "function") 29 3 (vs "changehall.stairs" 375) (.ref 172)
abbrev zfD:=tu []
abbrev zmc:=fi []
abbrev zfE:=tu [vs "rung" 401,vs "row" 402,vs "spot" 403,vs "found" 404,vs "upper" 405,vs "lower" 406]
abbrev zfF:=tu []
abbrev zmd:=fo .none 30 0 .none .none
abbrev zfG:=co "crossed" "/claim/cut.py" 398 399 400 89 2 3 174 true 181 175 .none (.ref 176) (.ref 177) (.ref 178) 407 408
abbrev zfH:=fo (.type "function") 30 3 (vs "changehall.stairs" 375) (.ref 179)
abbrev zfI:=tu []
abbrev zme:=fi []
abbrev zfJ:=tu [vs "row" 413]
abbrev zfK:=tu []
abbrev zmf:=fo .none 31 0 .none .none
abbrev zfL:=co "turned_up" "/claim/cut.py" 410 411 412 95 1 3 181 true 181 182 .none (.ref 183) (.ref 184) (.ref 185) 414 415
abbrev zfM:=fo (.type "function") 31 3 (vs "changehall.stairs" 375) (.ref 186)
abbrev zfN:=tu []
abbrev zmg:=fi []
abbrev zmh:=fo .none 32 0 .none .none
abbrev zfO:=co "with_row" "/claim/cut.py" 417 418 419 97 2 3 188 true 181 189 .none .none .none (.ref 190) 420 421
abbrev zfP:=fo (.type "function") 32 3 (vs "changehall.stairs" 375) (.ref 191)
abbrev zfQ:=tu []
abbrev zmi:=fi []
abbrev zfR:=tu [vs "rungs" 426,vs "found" 427,vs "rung" 428]
abbrev zfS:=tu []
abbrev zmj:=fo .none 33 0 .none .none
abbrev zfT:=co "evened" "/claim/cut.py" 423 424 425 108 1 3 193 true 181 194 .none (.ref 195) (.ref 196) (.ref 197) 429 430
abbrev zfU:=fo (.type "function") 33 3 (vs "changehall.stairs" 375) (.ref 198)
abbrev zfV:=tu []
abbrev zmk:=fi []
abbrev zfW:=tu [vs "rows" 435,vs "rungs" 436,vs "row" 437]
abbrev zfX:=tu []
abbrev zml:=fo .none 34 0 .none .none
abbrev zfY:=co "climbed" "/claim/cut.py" 432 433 434 113 1 3 200 true 181 201 .none (.ref 202) (.ref 203) (.ref 204) 438 439
abbrev zfZ:=fo (.type "function") 34 3 (vs "changehall.stairs" 375) (.ref 205)
abbrev t4(P:Params):BT:=ins (t3 P) [(3,o3_4 P),(12,o12_4),(129,zf8),(130,zlZ),(131,zm),(132,zf9),(133,zfa),(134,zfb),(135,zm0),(136,zfc),(137,zfd),(138,zm1),(139,zfe),(140,zff),(141,zfg),(142,zm2),(143,zm3),(144,zfh),(145,zfi),(146,zfj),(147,zm4),(148,zfk),(149,zfl),(150,zm5),(151,zfm),(152,zfn),(153,zfo),(154,zm6),(155,zfp),(156,zfq),(157,zm7),(158,zfr),(159,zfs),(160,zft),(161,zm8),(162,zfu),(163,zfv),(164,zm9),(165,zfw),(166,zfx),(167,zfy),(168,zma),(169,zfz),(170,zfA),(171,zmb),(172,zfB),(173,zfC),(174,zfD),(175,zmc),(176,zfE),(177,zfF),(178,zmd),(179,zfG),(180,zfH),(181,zfI),(182,zme),(183,zfJ),(184,zfK),(185,zmf),(186,zfL),(187,zfM),(188,zfN),(189,zmg),(190,zmh),(191,zfO),(192,zfP),(193,zfQ),(194,zmi),(195,zfR),(196,zfS),(197,zmj),(198,zfT),(199,zfU),(200,zfV),(201,zmk),(202,zfW),(203,zfX),(204,zml),(205,zfY),(206,zfZ)]
abbrev s4(w:World)(os:OsState):SharedT:=⟨t4 w.params,207,{ },#[],{ },441,os⟩
abbrev l3:List Stmt:=[top 21,top 22,top 23,top 24,top 25,top 26,top 27,top 28,top 29,top 30,top 31,top 32,top 33,top 34]
theorem run_3(w:World)(os:OsState):segRunT treeTable pw w 11 ann 1 378 (s3 w os) (piecesOf l3 env cE ⟨43,0,49,32⟩ fB)=some (.next,s4 w os,cE,⟨113,0,117,16⟩):=by
 rewrite[te_sT,te_tb];kernel_rfl
abbrev o3_5L(P:Params):List DictEntry:=de P "__name__" 165 (vs "changehall.scales" 511)::(o3_4L P).tail++[de P "tagged_stair" 446 (.ref 211),de P "tags_at_nought" 452 (.ref 216),de P "stair" 459 (.ref 223),de P "turned" 467 (.ref 228),de P "is_slant" 473 (.ref 233),de P "rests" 479 (.ref 238),de P "slanted" 485 (.ref 243),de P "linked" 498 (.ref 250),de P "chained" 504 (.ref 255),de P "measures" 510 (.ref 260),de P "scales" 518 (.ref 265),de P "tilt" 526 (.ref 272),de P "even" 536 (.ref 279)]
abbrev o3_5(P:Params):Obj:=⟨.type "dict",none,.dict (o3_5L P).toArray 52,#[]⟩
abbrev zmm:List Value:=zlY++[.int 118 0,.int 0 0,.ref 210,.int 120 0,.int 0 0,.ref 215,.int 122 0,.int 0 0,.ref 222,.int 125 0,.int 0 0,.ref 227,.int 127 0,.int 0 0,.ref 232,.int 132 0,.int 0 0,.ref 237,.int 134 0,.int 0 0,.ref 242,.int 144 0,.int 0 0,.ref 249,.int 151 0,.int 0 0,.ref 254,.int 159 0,.int 0 0,.ref 259,.int 169 0,.int 0 0,.ref 264,.int 171 0,.int 0 0,.ref 271,.int 173 0,.int 0 0,.ref 278]
abbrev o12_5:=fi zmm
abbrev zg0:=tu []
abbrev zmn:=fi []
abbrev zmo:=fo .none 35 0 .none .none
abbrev zg1:=co "tagged_stair" "/claim/cut.py" 441 442 443 118 2 3 207 true 181 208 .none .none .none (.ref 209) 444 445
abbrev zg2:=fo (.type "function") 35 3 (vs "changehall.stairs" 375) (.ref 210)
abbrev zg3:=tu []
abbrev zmp:=fi []
abbrev zmq:=fo .none 36 0 .none .none
abbrev zg4:=co "tags_at_nought" "/claim/cut.py" 447 448 449 120 2 3 212 true 181 213 .none .none .none (.ref 214) 450 451
abbrev zg5:=fo (.type "function") 36 3 (vs "changehall.stairs" 375) (.ref 215)
abbrev zg6:=tu []
abbrev zmr:=fi []
abbrev zg7:=tu [vs "hall" 456]
abbrev zg8:=tu []
abbrev zms:=fo .none 37 0 .none .none
abbrev zg9:=co "stair" "/claim/cut.py" 453 454 455 122 1 3 217 true 181 218 .none (.ref 219) (.ref 220) (.ref 221) 457 458
abbrev zga:=fo (.type "function") 37 3 (vs "changehall.stairs" 375) (.ref 222)
abbrev zgb:=tu []
abbrev zmt:=fi []
abbrev zmu:=fo .none 39 0 .none .none
abbrev zgc:=co "turned" "/claim/cut.py" 462 463 464 125 2 3 224 true 181 225 .none .none .none (.ref 226) 465 466
abbrev zgd:=fo (.type "function") 39 3 (vs "changehall.grids" 460) (.ref 227)
abbrev zge:=tu []
abbrev zmv:=fi []
abbrev zmw:=fo .none 40 0 .none .none
abbrev zgf:=co "is_slant" "/claim/cut.py" 468 469 470 127 1 3 229 true 181 230 .none .none .none (.ref 231) 471 472
abbrev zgg:=fo (.type "function") 40 3 (vs "changehall.grids" 460) (.ref 232)
abbrev zgh:=tu []
abbrev zmx:=fi []
abbrev zmy:=fo .none 41 0 .none .none
abbrev zgi:=co "rests" "/claim/cut.py" 474 475 476 132 2 3 234 true 181 235 .none .none .none (.ref 236) 477 478
abbrev zgj:=fo (.type "function") 41 3 (vs "changehall.grids" 460) (.ref 237)
abbrev zgk:=tu []
abbrev zmz:=fi []
abbrev zmA:=fo .none 42 0 .none .none
abbrev zgl:=co "slanted" "/claim/cut.py" 480 481 482 134 3 3 239 true 181 240 .none .none .none (.ref 241) 483 484
abbrev zgm:=fo (.type "function") 42 3 (vs "changehall.grids" 460) (.ref 242)
abbrev zgn:=tu []
abbrev zmB:=fi []
abbrev zgo:=tu [vs "one" 489,vs "other" 490,vs "found" 491,vs "common" 492,vs "least" 493,vs "upper" 494,vs "lower" 495]
abbrev zgp:=tu []
abbrev zmC:=fo .none 43 0 .none .none
abbrev zgq:=co "linked" "/claim/cut.py" 486 487 488 144 2 3 244 true 181 245 .none (.ref 246) (.ref 247) (.ref 248) 496 497
abbrev zgr:=fo (.type "function") 43 3 (vs "changehall.grids" 460) (.ref 249)
abbrev zgs:=tu []
abbrev zmD:=fi []
abbrev zmE:=fo .none 44 0 .none .none
abbrev zgt:=co "chained" "/claim/cut.py" 499 500 501 151 1 3 251 true 181 252 .none .none .none (.ref 253) 502 503
abbrev zgu:=fo (.type "function") 44 3 (vs "changehall.grids" 460) (.ref 254)
abbrev zgv:=tu []
abbrev zmF:=fi []
abbrev zmG:=fo .none 45 0 .none .none
abbrev zgw:=co "measures" "/claim/cut.py" 505 506 507 159 1 3 256 true 181 257 .none .none .none (.ref 258) 508 509
abbrev zgx:=fo (.type "function") 45 3 (vs "changehall.grids" 460) (.ref 259)
abbrev zgy:=tu []
abbrev zmH:=fi []
abbrev zmI:=fo .none 47 0 .none .none
abbrev zgz:=co "scales" "/claim/cut.py" 513 514 515 169 1 3 261 true 181 262 .none .none .none (.ref 263) 516 517
abbrev zgA:=fo (.type "function") 47 3 (vs "changehall.scales" 511) (.ref 264)
abbrev zgB:=tu []
abbrev zmJ:=fi []
abbrev zgC:=tu [vs "way" 522,vs "scale" 523]
abbrev zgD:=tu []
abbrev zmK:=fo .none 48 0 .none .none
abbrev zgE:=co "tilt" "/claim/cut.py" 519 520 521 171 2 3 266 true 181 267 .none (.ref 268) (.ref 269) (.ref 270) 524 525
abbrev zgF:=fo (.type "function") 48 3 (vs "changehall.scales" 511) (.ref 271)
abbrev zgG:=tu []
abbrev zmL:=fi []
abbrev zgH:=tu [vs "one" 530,vs "other" 531,vs "scale" 532,vs "kinds" 533]
abbrev zgI:=tu []
abbrev zmM:=fo .none 49 0 .none .none
abbrev zgJ:=co "even" "/claim/cut.py" 527 528 529 173 3 3 273 true 181 274 .none (.ref 275) (.ref 276) (.ref 277) 534 535
abbrev zgK:=fo (.type "function") 49 3 (vs "changehall.scales" 511) (.ref 278)
abbrev t5(P:Params):BT:=ins (t4 P) [(3,o3_5 P),(12,o12_5),(207,zg0),(208,zmn),(209,zmo),(210,zg1),(211,zg2),(212,zg3),(213,zmp),(214,zmq),(215,zg4),(216,zg5),(217,zg6),(218,zmr),(219,zg7),(220,zg8),(221,zms),(222,zg9),(223,zga),(224,zgb),(225,zmt),(226,zmu),(227,zgc),(228,zgd),(229,zge),(230,zmv),(231,zmw),(232,zgf),(233,zgg),(234,zgh),(235,zmx),(236,zmy),(237,zgi),(238,zgj),(239,zgk),(240,zmz),(241,zmA),(242,zgl),(243,zgm),(244,zgn),(245,zmB),(246,zgo),(247,zgp),(248,zmC),(249,zgq),(250,zgr),(251,zgs),(252,zmD),(253,zmE),(254,zgt),(255,zgu),(256,zgv),(257,zmF),(258,zmG),(259,zgw),(260,zgx),(261,zgy),(262,zmH),(263,zmI),(264,zgz),(265,zgA),(266,zgB),(267,zmJ),(268,zgC),(269,zgD),(270,zmK),(271,zgE),(272,zgF),(273,zgG),(274,zmL),(275,zgH),(276,zgI),(277,zmM),(278,zgJ),(279,zgK)]
abbrev s5(w:World)(os:OsState):SharedT:=⟨t5 w.params,280,{ },#[],{ },537,os⟩
abbrev l4:List Stmt:=[top 35,top 36,top 37,top 38,top 39,top 40,top 41,top 42,top 43,top 44,top 45,top 46,top 47,top 48,top 49]
theorem run_4(w:World)(os:OsState):segRunT treeTable pw w 11 ann 1 379 (s4 w os) (piecesOf l4 env cE ⟨113,0,117,16⟩ fB)=some (.next,s5 w os,cE,⟨173,0,177,46⟩):=by
 rewrite[te_sT,te_tb];kernel_rfl
abbrev o3_6L(P:Params):List DictEntry:=de P "__name__" 165 (vs "law_changehall_k14_scales_fair" 543)::(o3_5L P).tail++[de P "fair" 542 (.ref 284),de P "_law_cell_at" 552 (.ref 291),de P "_law_whole" 559 (.ref 298),de P "_law_is_row" 568 (.ref 305),de P "_law_number" 578 (.ref 312),de P "_law_row" 584 (.ref 317),de P "_law_bills" 590 (.ref 322),de P "_law_sum" 596 (.ref 327),de P "_law_plus" 602 (.ref 332),de P "_law_heavy" 612 (.ref 339),de P "_law_baskets" 624 (.ref 346),de P "_law_even" 634 (.ref 353),de P "_law_fair" 640 (.ref 358)]
abbrev o3_6(P:Params):Obj:=⟨.type "dict",none,.dict (o3_6L P).toArray 65,#[]⟩
abbrev zmN:List Value:=zmm++[.int 178 0,.int 0 0,.ref 283,.int 181 0,.int 0 0,.ref 290,.int 187 0,.int 0 0,.ref 297,.int 189 0,.int 0 0,.ref 304,.int 196 0,.int 0 0,.ref 311,.int 207 0,.int 0 0,.ref 316,.int 209 0,.int 0 0,.ref 321,.int 221 0,.int 0 0,.ref 326,.int 226 0,.int 0 0,.ref 331,.int 228 0,.int 0 0,.ref 338,.int 233 0,.int 0 0,.ref 345,.int 240 0,.int 0 0,.ref 352,.int 245 0,.int 0 0,.ref 357]
abbrev o12_6:=fi zmN
abbrev zgL:=tu []
abbrev zmO:=fi []
abbrev zmP:=fo .none 50 0 .none .none
abbrev zgM:=co "fair" "/claim/cut.py" 537 538 539 178 2 3 280 true 181 281 .none .none .none (.ref 282) 540 541
abbrev zgN:=fo (.type "function") 50 3 (vs "changehall.scales" 511) (.ref 283)
abbrev zgO:=tu []
abbrev zmQ:=fi []
abbrev zgP:=tu [vs "_law_script" 548,vs "_law_k" 549]
abbrev zgQ:=tu []
abbrev zmR:=fo .none 52 0 .none .none
abbrev zgR:=co "_law_cell_at" "/claim/cut.py" 545 546 547 181 2 3 285 true 181 286 .none (.ref 287) (.ref 288) (.ref 289) 550 551
abbrev zgS:=fo (.type "function") 52 3 (vs "law_changehall_k14_scales_fair" 543) (.ref 290)
abbrev zgT:=tu []
abbrev zmS:=fi []
abbrev zgU:=tu [vs "_law_found" 556]
abbrev zgV:=tu []
abbrev zmT:=fo .none 53 0 .none .none
abbrev zgW:=co "_law_whole" "/claim/cut.py" 553 554 555 187 1 3 292 true 181 293 .none (.ref 294) (.ref 295) (.ref 296) 557 558
abbrev zgX:=fo (.type "function") 53 3 (vs "law_changehall_k14_scales_fair" 543) (.ref 297)
abbrev zgY:=tu []
abbrev zmU:=fi []
abbrev zgZ:=tu [vs "_law_found" 563,vs "_law_size" 564,vs "_law_number_here" 565]
abbrev zh:=tu []
abbrev zmV:=fo .none 54 0 .none .none
abbrev zh0:=co "_law_is_row" "/claim/cut.py" 560 561 562 189 2 3 299 true 181 300 .none (.ref 301) (.ref 302) (.ref 303) 566 567
abbrev zh1:=fo (.type "function") 54 3 (vs "law_changehall_k14_scales_fair" 543) (.ref 304)
abbrev zh2:=tu []
abbrev zmW:=fi []
abbrev zh3:=tu [vs "_law_cell" 572,vs "_law_mode" 573,vs "_law_number_here" 574,vs "_law_wide" 575]
abbrev zh4:=tu []
abbrev zmX:=fo .none 55 0 .none .none
abbrev zh5:=co "_law_number" "/claim/cut.py" 569 570 571 196 2 3 306 true 181 307 .none (.ref 308) (.ref 309) (.ref 310) 576 577
abbrev zh6:=fo (.type "function") 55 3 (vs "law_changehall_k14_scales_fair" 543) (.ref 311)
abbrev zh7:=tu []
abbrev zmY:=fi []
abbrev zmZ:=fo .none 56 0 .none .none
abbrev zh8:=co "_law_row" "/claim/cut.py" 579 580 581 207 4 3 313 true 181 314 .none .none .none (.ref 315) 582 583
abbrev zh9:=fo (.type "function") 56 3 (vs "law_changehall_k14_scales_fair" 543) (.ref 316)
abbrev zha:=tu []
abbrev zn:=fi []
abbrev zn0:=fo .none 57 0 .none .none
abbrev zhb:=co "_law_bills" "/claim/cut.py" 585 586 587 209 1 3 318 true 181 319 .none .none .none (.ref 320) 588 589
abbrev zhc:=fo (.type "function") 57 3 (vs "law_changehall_k14_scales_fair" 543) (.ref 321)
abbrev zhd:=tu []
abbrev zn1:=fi []
abbrev zn2:=fo .none 58 0 .none .none
abbrev zhe:=co "_law_sum" "/claim/cut.py" 591 592 593 221 3 3 323 true 181 324 .none .none .none (.ref 325) 594 595
abbrev zhf:=fo (.type "function") 58 3 (vs "law_changehall_k14_scales_fair" 543) (.ref 326)
abbrev zhg:=tu []
abbrev zn3:=fi []
abbrev zn4:=fo .none 59 0 .none .none
abbrev zhh:=co "_law_plus" "/claim/cut.py" 597 598 599 226 3 3 328 true 181 329 .none .none .none (.ref 330) 600 601
abbrev zhi:=fo (.type "function") 59 3 (vs "law_changehall_k14_scales_fair" 543) (.ref 331)
abbrev zhj:=tu []
abbrev zn5:=fi []
abbrev zhk:=tu [vs "_law_weights" 606,vs "_law_row_here" 607,vs "_law_made" 608,vs "_law_k" 609]
abbrev zhl:=tu []
abbrev zn6:=fo .none 60 0 .none .none
abbrev zhm:=co "_law_heavy" "/claim/cut.py" 603 604 605 228 2 3 333 true 181 334 .none (.ref 335) (.ref 336) (.ref 337) 610 611
abbrev zhn:=fo (.type "function") 60 3 (vs "law_changehall_k14_scales_fair" 543) (.ref 338)
abbrev zho:=tu []
abbrev zn7:=fi []
abbrev zhp:=tu [vs "_law_script" 616,vs "_law_kinds" 617,vs "_law_bills_here" 618,vs "_law_one" 619,vs "_law_other" 620,vs "_law_uses" 621]
abbrev zhq:=tu []
abbrev zn8:=fo .none 61 0 .none .none
abbrev zhr:=co "_law_baskets" "/claim/cut.py" 613 614 615 233 3 3 340 true 181 341 .none (.ref 342) (.ref 343) (.ref 344) 622 623
abbrev zhs:=fo (.type "function") 61 3 (vs "law_changehall_k14_scales_fair" 543) (.ref 345)
abbrev zht:=tu []
abbrev zn9:=fi []
abbrev zhu:=tu [vs "_law_one" 628,vs "_law_other" 629,vs "_law_scale" 630,vs "_law_heavy_here" 631]
abbrev zhv:=tu []
abbrev zna:=fo .none 62 0 .none .none
abbrev zhw:=co "_law_even" "/claim/cut.py" 625 626 627 240 3 3 347 true 181 348 .none (.ref 349) (.ref 350) (.ref 351) 632 633
abbrev zhx:=fo (.type "function") 62 3 (vs "law_changehall_k14_scales_fair" 543) (.ref 352)
abbrev zhy:=tu []
abbrev znb:=fi []
abbrev znc:=fo .none 63 0 .none .none
abbrev zhz:=co "_law_fair" "/claim/cut.py" 635 636 637 245 3 3 354 true 181 355 .none .none .none (.ref 356) 638 639
abbrev zhA:=fo (.type "function") 63 3 (vs "law_changehall_k14_scales_fair" 543) (.ref 357)
abbrev t6(P:Params):BT:=ins (t5 P) [(3,o3_6 P),(12,o12_6),(280,zgL),(281,zmO),(282,zmP),(283,zgM),(284,zgN),(285,zgO),(286,zmQ),(287,zgP),(288,zgQ),(289,zmR),(290,zgR),(291,zgS),(292,zgT),(293,zmS),(294,zgU),(295,zgV),(296,zmT),(297,zgW),(298,zgX),(299,zgY),(300,zmU),(301,zgZ),(302,zh),(303,zmV),(304,zh0),(305,zh1),(306,zh2),(307,zmW),(308,zh3),(309,zh4),(310,zmX),(311,zh5),(312,zh6),(313,zh7),(314,zmY),(315,zmZ),(316,zh8),(317,zh9),(318,zha),(319,zn),(320,zn0),(321,zhb),(322,zhc),(323,zhd),(324,zn1),(325,zn2),(326,zhe),(327,zhf),(328,zhg),(329,zn3),(330,zn4),(331,zhh),(332,zhi),(333,zhj),(334,zn5),(335,zhk),(336,zhl),(337,zn6),(338,zhm),(339,zhn),(340,zho),(341,zn7),(342,zhp),(343,zhq),(344,zn8),(345,zhr),(346,zhs),(347,zht),(348,zn9),(349,zhu),(350,zhv),(351,zna),(352,zhw),(353,zhx),(354,zhy),(355,znb),(356,znc),(357,zhz),(358,zhA)]
abbrev s6(w:World)(os:OsState):SharedT:=⟨t6 w.params,359,{ },#[],{ },641,os⟩
abbrev l5:List Stmt:=[top 50,top 51,top 52,top 53,top 54,top 55,top 56,top 57,top 58,top 59,top 60,top 61,top 62,top 63]
theorem run_5(w:World)(os:OsState):segRunT treeTable pw w 11 ann 1 386 (s5 w os) (piecesOf l5 env cE ⟨173,0,177,46⟩ fB)=some (.next,s6 w os,cE,⟨245,0,250,15⟩):=by
 rewrite[te_sT,te_tb];kernel_rfl
abbrev o3_7L(P:Params):List DictEntry:=de P "__name__" 165 (vs "law_changehall_k14_scales_fair" 543)::(o3_6L P).tail++[de P "_law_is_scale" 648 (.ref 365),de P "law" 654 (.ref 370)]
abbrev o3_7(P:Params):Obj:=⟨.type "dict",none,.dict (o3_7L P).toArray 67,#[]⟩
abbrev o12_7L:List Value:=zmN++[.int 251 0,.int 0 0,.ref 364,.int 255 0,.int 0 0,.ref 369]
abbrev o12_7:=fi o12_7L
abbrev zhB:=tu []
abbrev znd:=fi []
abbrev zhC:=tu [vs "_law_scale" 644,vs "_law_kinds" 645]
abbrev zhD:=tu []
abbrev zne:=fo .none 64 0 .none .none
abbrev zhE:=co "_law_is_scale" "/claim/cut.py" 641 642 643 251 2 3 359 true 181 360 .none (.ref 361) (.ref 362) (.ref 363) 646 647
abbrev zhF:=fo (.type "function") 64 3 (vs "law_changehall_k14_scales_fair" 543) (.ref 364)
abbrev zhG:=tu []
abbrev znf:=fi []
abbrev zng:=fo .none 65 0 .none .none
abbrev zhH:=co "law" "/claim/cut.py" 649 650 651 255 1 3 366 true 181 367 .none .none .none (.ref 368) 652 653
abbrev zhI:=fo (.type "function") 65 3 (vs "law_changehall_k14_scales_fair" 543) (.ref 369)
abbrev t7(P:Params):BT:=ins (t6 P) [(3,o3_7 P),(12,o12_7),(359,zhB),(360,znd),(361,zhC),(362,zhD),(363,zne),(364,zhE),(365,zhF),(366,zhG),(367,znf),(368,zng),(369,zhH),(370,zhI)]
abbrev s7(w:World)(os:OsState):SharedT:=⟨t7 w.params,371,{ },#[],{ },655,os⟩
abbrev l6:List Stmt:=[top 64,top 65]
theorem run_6(w:World)(os:OsState):segRunT treeTable pw w 11 ann 1 57 (s6 w os) (piecesOf l6 env cE ⟨245,0,250,15⟩ fB)=some (.next,s7 w os,cE,⟨255,0,280,15⟩):=by
 rewrite[te_sT,te_tb];kernel_rfl
def h1(P:Params):Heap:=⟨⟨[boot_o_0 P,boot_o_1 P,boot_o_2 P,o3_7 P,boot_o_4 P,boot_o_5 P,boot_o_6 P,boot_o_7 P,boot_o_8 P,boot_o_9 P,boot_o_10 P,o11a,o12_7,o13a,o14a,zl5,o16_1,zl6,zl7,o19_1,zl8,zl9,zla,o23_1,o24_1,zlb,zlc,zld,o28_1,o29_1,zle,zlf,zlg,o33_1,o34_1,zlh,zli,zlj,o38_1,o39_1,zlk,zll,zlm,o43_1,o44_1,zln,zlo,zlp,o48_1,o49_1,zlq,zlr,zls,o53_1,zlt,zlu,o56_1,zlv,zlw,zly,o60_2,o61_2 P,o62_2,o63_2,o64_2,o65_2,zlz,zlA P,zlH,zlB,o70_2,o71_2,zlC,o73_2,o74_2 P,o75_2,o76_2,o77_2,o78_2,zlD,zlE P,zlF,o82_2,o83_2,zlI,o85_3,o86_3 P,o87_3,o88_3,o89_3,o90_3,zlJ,zlK P,zlL,o94_3,o95_3,zlM,o97_3,zlN,zlO,zlP,zeP,zeQ,zeR,zlQ,zlR,zeS,zeT,zeU,zlS,zeV,zeW,zlT,zeX,zeY,zeZ,zlU,zf,zf0,zlV,zf1,zf2,zf3,zlW,zf4,zf5,zlX,zf6,zf7,zf8,zlZ,zm,zf9,zfa,zfb,zm0,zfc,zfd,zm1,zfe,zff,zfg,zm2,zm3,zfh,zfi,zfj,zm4,zfk,zfl,zm5,zfm,zfn,zfo,zm6,zfp,zfq,zm7,zfr,zfs,zft,zm8,zfu,zfv,zm9,zfw,zfx,zfy,zma,zfz,zfA,zmb,zfB,zfC,zfD,zmc,zfE,zfF,zmd,zfG,zfH,zfI,zme,zfJ,zfK,zmf,zfL,zfM,zfN,zmg,zmh,zfO,zfP,zfQ,zmi,zfR,zfS,zmj,zfT,zfU,zfV,zmk,zfW,zfX,zml,zfY,zfZ,zg0,zmn,zmo,zg1,zg2,zg3,zmp,zmq,zg4,zg5,zg6,zmr,zg7,zg8,zms,zg9,zga,zgb,zmt,zmu,zgc,zgd,zge,zmv,zmw,zgf,zgg,zgh,zmx,zmy,zgi,zgj,zgk,zmz,zmA,zgl,zgm,zgn,zmB,zgo,zgp,zmC,zgq,zgr,zgs,zmD,zmE,zgt,zgu,zgv,zmF,zmG,zgw,zgx,zgy,zmH,zmI,zgz,zgA,zgB,zmJ,zgC,zgD,zmK,zgE,zgF,zgG,zmL,zgH,zgI,zmM,zgJ,zgK,zgL,zmO,zmP,zgM,zgN,zgO,zmQ,zgP,zgQ,zmR,zgR,zgS,zgT,zmS,zgU,zgV,zmT,zgW,zgX,zgY,zmU,zgZ,zh,zmV,zh0,zh1,zh2,zmW,zh3,zh4,zmX,zh5,zh6,zh7,zmY,zmZ,zh8,zh9,zha,zn,zn0,zhb,zhc,zhd,zn1,zn2,zhe,zhf,zhg,zn3,zn4,zhh,zhi,zhj,zn5,zhk,zhl,zn6,zhm,zhn,zho,zn7,zhp,zhq,zn8,zhr,zhs,zht,zn9,zhu,zhv,zna,zhw,zhx,zhy,znb,znc,zhz,zhA,zhB,znd,zhC,zhD,zne,zhE,zhF,zhG,znf,zng,zhH,zhI]⟩,{ }⟩
abbrev z0u:Drawn:={ }
theorem run_z(w:World)(os:OsState):topRun treeTable pw w 11 ann 2 (s7 w os).abs ⟨doneF .next,cE,⟨255,0,280,15⟩,fB⟩=some ⟨h1 w.params,#[],z0u,655,os⟩:=by
 rewrite[te_tr,te_tb];kernel_rfl
theorem zoo:behindTheImports pw=(l0++(l1++(l2++(l3++(l4++(l5++(l6++[]))))))):=by kernel_rfl
theorem run_all(w:World)(os:OsState):topRun treeTable pw w 11 ann (12+(1+(235+(400+(386+(378+(379+(386+(57+2))))))))) ⟨boot_heap w.params,#[],boot_drawn,boot_toks,os⟩ (topStub pw)=some ⟨h1 w.params,#[],z0u,655,os⟩ :=
 go_top (run_a w os) (piece_block (env:=env) (run_b w os) (by rw[zoo];exact(piece_app (segRun_of (run_0 w os)) (piece_app (segRun_of (run_1 w os)) (piece_app (segRun_of (run_2 w os)) (piece_app (segRun_of (run_3 w os)) (piece_app (segRun_of (run_4 w os)) (piece_app (segRun_of (run_5 w os)) (piece_app (segRun_of (run_6 w os)) (run_z w os))))))))))
abbrev keep:List Nat:=[1,2,3,4,5,6,7,8,10,11,12,14,15,16,17,18,19,20,21,22,24,25,26,28,29,30,31,32,33,34,35,36,37,39,40,41,42,43,44,45,47,48,49,50,52,53,54,55,56,57,58,59,60,61,62,63,64,65]
def K:Params→PySem.W.Frag:=fun P=>(nat_lit 2,boot_o_2 P)::(nat_lit 3,o3_7 P)::(nat_lit 15,zl5)::(nat_lit 17,zl6)::(nat_lit 18,zl7)::(nat_lit 20,zl8)::(nat_lit 21,zl9)::(nat_lit 22,zla)::(nat_lit 25,zlb)::(nat_lit 26,zlc)::(nat_lit 27,zld)::(nat_lit 30,zle)::(nat_lit 31,zlf)::(nat_lit 32,zlg)::(nat_lit 35,zlh)::(nat_lit 36,zli)::(nat_lit 37,zlj)::(nat_lit 40,zlk)::(nat_lit 41,zll)::(nat_lit 42,zlm)::(nat_lit 45,zln)::(nat_lit 46,zlo)::(nat_lit 47,zlp)::(nat_lit 50,zlq)::(nat_lit 51,zlr)::(nat_lit 52,zls)::(nat_lit 54,zlt)::(nat_lit 55,zlu)::(nat_lit 57,zlv)::(nat_lit 58,zlw)::(nat_lit 59,zly)::(nat_lit 66,zlz)::(nat_lit 67,zlA P)::(nat_lit 68,zlH)::(nat_lit 69,zlB)::(nat_lit 72,zlC)::(nat_lit 79,zlD)::(nat_lit 80,zlE P)::(nat_lit 81,zlF)::(nat_lit 84,zlI)::(nat_lit 91,zlJ)::(nat_lit 92,zlK P)::(nat_lit 93,zlL)::(nat_lit 96,zlM)::(nat_lit 98,zlN)::(nat_lit 99,zlO)::(nat_lit 101,zeP)::(nat_lit 102,zeQ)::(nat_lit 103,zeR)::(nat_lit 106,zeS)::(nat_lit 107,zeT)::(nat_lit 108,zeU)::(nat_lit 110,zeV)::(nat_lit 111,zeW)::(nat_lit 113,zeX)::(nat_lit 114,zeY)::(nat_lit 115,zeZ)::(nat_lit 117,zf)::(nat_lit 118,zf0)::(nat_lit 120,zf1)::(nat_lit 121,zf2)::(nat_lit 122,zf3)::(nat_lit 124,zf4)::(nat_lit 125,zf5)::(nat_lit 127,zf6)::(nat_lit 128,zf7)::(nat_lit 129,zf8)::(nat_lit 132,zf9)::(nat_lit 133,zfa)::(nat_lit 134,zfb)::(nat_lit 136,zfc)::(nat_lit 137,zfd)::(nat_lit 139,zfe)::(nat_lit 140,zff)::(nat_lit 141,zfg)::(nat_lit 144,zfh)::(nat_lit 145,zfi)::(nat_lit 146,zfj)::(nat_lit 148,zfk)::(nat_lit 149,zfl)::(nat_lit 151,zfm)::(nat_lit 152,zfn)::(nat_lit 153,zfo)::(nat_lit 155,zfp)::(nat_lit 156,zfq)::(nat_lit 158,zfr)::(nat_lit 159,zfs)::(nat_lit 160,zft)::(nat_lit 162,zfu)::(nat_lit 163,zfv)::(nat_lit 165,zfw)::(nat_lit 166,zfx)::(nat_lit 167,zfy)::(nat_lit 169,zfz)::(nat_lit 170,zfA)::(nat_lit 172,zfB)::(nat_lit 173,zfC)::(nat_lit 174,zfD)::(nat_lit 176,zfE)::(nat_lit 177,zfF)::(nat_lit 179,zfG)::(nat_lit 180,zfH)::(nat_lit 181,zfI)::(nat_lit 183,zfJ)::(nat_lit 184,zfK)::(nat_lit 186,zfL)::(nat_lit 187,zfM)::(nat_lit 188,zfN)::(nat_lit 191,zfO)::(nat_lit 192,zfP)::(nat_lit 193,zfQ)::(nat_lit 195,zfR)::(nat_lit 196,zfS)::(nat_lit 198,zfT)::(nat_lit 199,zfU)::(nat_lit 200,zfV)::(nat_lit 202,zfW)::(nat_lit 203,zfX)::(nat_lit 205,zfY)::(nat_lit 206,zfZ)::(nat_lit 207,zg0)::(nat_lit 210,zg1)::(nat_lit 211,zg2)::(nat_lit 212,zg3)::(nat_lit 215,zg4)::(nat_lit 216,zg5)::(nat_lit 217,zg6)::(nat_lit 219,zg7)::(nat_lit 220,zg8)::(nat_lit 222,zg9)::(nat_lit 223,zga)::(nat_lit 224,zgb)::(nat_lit 227,zgc)::(nat_lit 228,zgd)::(nat_lit 229,zge)::(nat_lit 232,zgf)::(nat_lit 233,zgg)::(nat_lit 234,zgh)::(nat_lit 237,zgi)::(nat_lit 238,zgj)::(nat_lit 239,zgk)::(nat_lit 242,zgl)::(nat_lit 243,zgm)::(nat_lit 244,zgn)::(nat_lit 246,zgo)::(nat_lit 247,zgp)::(nat_lit 249,zgq)::(nat_lit 250,zgr)::(nat_lit 251,zgs)::(nat_lit 254,zgt)::(nat_lit 255,zgu)::(nat_lit 256,zgv)::(nat_lit 259,zgw)::(nat_lit 260,zgx)::(nat_lit 261,zgy)::(nat_lit 264,zgz)::(nat_lit 265,zgA)::(nat_lit 266,zgB)::(nat_lit 268,zgC)::(nat_lit 269,zgD)::(nat_lit 271,zgE)::(nat_lit 272,zgF)::(nat_lit 273,zgG)::(nat_lit 275,zgH)::(nat_lit 276,zgI)::(nat_lit 278,zgJ)::(nat_lit 279,zgK)::(nat_lit 280,zgL)::(nat_lit 283,zgM)::(nat_lit 284,zgN)::(nat_lit 285,zgO)::(nat_lit 287,zgP)::(nat_lit 288,zgQ)::(nat_lit 290,zgR)::(nat_lit 291,zgS)::(nat_lit 292,zgT)::(nat_lit 294,zgU)::(nat_lit 295,zgV)::(nat_lit 297,zgW)::(nat_lit 298,zgX)::(nat_lit 299,zgY)::(nat_lit 301,zgZ)::(nat_lit 302,zh)::(nat_lit 304,zh0)::(nat_lit 305,zh1)::(nat_lit 306,zh2)::(nat_lit 308,zh3)::(nat_lit 309,zh4)::(nat_lit 311,zh5)::(nat_lit 312,zh6)::(nat_lit 313,zh7)::(nat_lit 316,zh8)::(nat_lit 317,zh9)::(nat_lit 318,zha)::(nat_lit 321,zhb)::(nat_lit 322,zhc)::(nat_lit 323,zhd)::(nat_lit 326,zhe)::(nat_lit 327,zhf)::(nat_lit 328,zhg)::(nat_lit 331,zhh)::(nat_lit 332,zhi)::(nat_lit 333,zhj)::(nat_lit 335,zhk)::(nat_lit 336,zhl)::(nat_lit 338,zhm)::(nat_lit 339,zhn)::(nat_lit 340,zho)::(nat_lit 342,zhp)::(nat_lit 343,zhq)::(nat_lit 345,zhr)::(nat_lit 346,zhs)::(nat_lit 347,zht)::(nat_lit 349,zhu)::(nat_lit 350,zhv)::(nat_lit 352,zhw)::(nat_lit 353,zhx)::(nat_lit 354,zhy)::(nat_lit 357,zhz)::(nat_lit 358,zhA)::(nat_lit 359,zhB)::(nat_lit 361,zhC)::(nat_lit 362,zhD)::(nat_lit 364,zhE)::(nat_lit 365,zhF)::(nat_lit 366,zhG)::(nat_lit 369,zhH)::(nat_lit 370,zhI)::[]
abbrev Ka:List Addr:=[2,3,15,17,18,20,21,22,25,26,27,30,31,32,35,36,37,40,41,42,45,46,47,50,51,52,54,55,57,58,59,66,67,68,69,72,79,80,81,84,91,92,93,96,98,99,101,102,103,106,107,108,110,111,113,114,115,117,118,120,121,122,124,125,127,128,129,132,133,134,136,137,139,140,141,144,145,146,148,149,151,152,153,155,156,158,159,160,162,163,165,166,167,169,170,172,173,174,176,177,179,180,181,183,184,186,187,188,191,192,193,195,196,198,199,200,202,203,205,206,207,210,211,212,215,216,217,219,220,222,223,224,227,228,229,232,233,234,237,238,239,242,243,244,246,247,249,250,251,254,255,256,259,260,261,264,265,266,268,269,271,272,273,275,276,278,279,280,283,284,285,287,288,290,291,292,294,295,297,298,299,301,302,304,305,306,308,309,311,312,313,316,317,318,321,322,323,326,327,328,331,332,333,335,336,338,339,340,342,343,345,346,347,349,350,352,353,354,357,358,359,361,362,364,365,366,369,370]
theorem Ke(P:Params):Ka=(K P).map (·.1):=by kernel_rfl
abbrev qv:Program:=view pw keep
abbrev Xt:Shared→Bool:=fun s=>xlAt qv [] s&&recOk [] s
theorem opened:∀ w:World,(fencedOpening treeTable pw w 4554).map (fun s=>(s.heap,s.gens,s.drawn,s.toks))=some (boot_heap w.params,Array.mk [],boot_drawn,boot_toks):=boot_open (by kernel_rfl) (by kernel_rfl) (fun s=>by kernel_rfl)
theorem sized(w:World):((boot_heap w.params).isNs mainGlobals&&(Array.mk []:Array GenState).size==0,(boot_heap w.params).objs.size,(boot_heap w.params).nsMap mainGlobals "__annotations__")=(true,11,ann):=by
 rewrite[te_ns];kernel_rfl
theorem lk0(w:World)(os:OsState):(staticsOk (importedModules pw.main.body) (boot_heap w.params) (h1 w.params)&&namesBound pw (h1 w.params)&&gensDone ⟨h1 w.params,#[],z0u,655,os⟩&&laidKept (boot_heap w.params) (h1 w.params))=true:=by
 rewrite[te_im];kernel_rfl
theorem lk1(w:World)(os:OsState):seen ((recsOf qv).map (·.name)) (ownsOf qv) [] { (⟨h1 w.params,#[],z0u,655,os⟩:Shared)with gens:=#[] }=expectedOf qv:=by
 rewrite[te_seen,te_recs,te_owns];kernel_rfl
theorem lk2(w:World)(os:OsState):(⟨h1 w.params,#[],z0u,655,os⟩:Shared).heap.bltView=bltViewBooted:=by
 kernel_rfl
theorem lk3(w:World)(os:OsState):((⟨h1 w.params,#[],z0u,655,os⟩:Shared).heap.keysOk (looseW qv []) ((recsOf qv).map (·.name)) ((litsOf qv).map (·.1)) ((clssOf qv (looseW qv [])).map (·.name))&&(⟨h1 w.params,#[],z0u,655,os⟩:Shared).heap.accountedOkI (importedModules pw.main.body)&&(⟨h1 w.params,#[],z0u,655,os⟩:Shared).heap.isNs mainGlobals&&(⟨h1 w.params,#[],z0u,655,os⟩:Shared).heap.isNs builtinsNs&&tablesOk qv (⟨h1 w.params,#[],z0u,655,os⟩:Shared).heap&&Xt ⟨h1 w.params,#[],z0u,655,os⟩&&(if true=true then(⟨h1 w.params,#[],z0u,655,os⟩:Shared).gens.size==0 else !leftWithCleanup (⟨h1 w.params,#[],z0u,655,os⟩:Shared).gens))=true:=by
 rewrite[te_keys,te_loose,te_recs,te_lits,te_clss,te_acc,te_im,te_tabl];kernel_rfl
theorem lk4(w:World)(os:OsState):tabsOk qv ⟨h1 w.params,#[],z0u,655,os⟩=true:=by
 rewrite[te_tabs];kernel_rfl
theorem lk5(w:World)(os:OsState):pinSeenD qv (drecsOf qv) ⟨h1 w.params,#[],z0u,655,os⟩=pinGoodD (drecsOf qv):=by
 rewrite[te_pin,te_drecs];kernel_rfl
theorem lk6(w:World)(os:OsState):plainSeenE qv (looseW qv []) ⟨h1 w.params,#[],z0u,655,os⟩=plainGoodE qv (looseW qv []):=by
 rewrite[te_pE,te_loose];kernel_rfl
theorem lk7(w:World)(os:OsState):plainSeenD qv [] ⟨h1 w.params,#[],z0u,655,os⟩=plainGoodD qv []:=by
 rewrite[te_pD];kernel_rfl
theorem lk8(w:World)(os:OsState):wideSeen qv ⟨h1 w.params,#[],z0u,655,os⟩=wideGood qv:=by
 rewrite[te_wide];kernel_rfl
theorem lk9(w:World)(os:OsState):clsSeenW qv [] ⟨h1 w.params,#[],z0u,655,os⟩=clsGoodW qv []:=by
 rewrite[te_cls];kernel_rfl
theorem lk10(w:World)(os:OsState):Hook.obs (kHook K Ka Ke) ⟨h1 w.params,#[],z0u,655,os⟩=Hook.val (kHook K Ka Ke) w:=by
 kernel_rfl
theorem sn(w:World)(os:OsState):openSeen qv [] (importedModules pw.main.body) Xt true ⟨h1 w.params,#[],z0u,655,os⟩=(seen ((recsOf qv).map (·.name)) (ownsOf qv) [] { (⟨h1 w.params,#[],z0u,655,os⟩:Shared)with gens:=#[] },(⟨h1 w.params,#[],z0u,655,os⟩:Shared).heap.bltView,((⟨h1 w.params,#[],z0u,655,os⟩:Shared).heap.keysOk (looseW qv []) ((recsOf qv).map (·.name)) ((litsOf qv).map (·.1)) ((clssOf qv (looseW qv [])).map (·.name))&&(⟨h1 w.params,#[],z0u,655,os⟩:Shared).heap.accountedOkI (importedModules pw.main.body)&&(⟨h1 w.params,#[],z0u,655,os⟩:Shared).heap.isNs mainGlobals&&(⟨h1 w.params,#[],z0u,655,os⟩:Shared).heap.isNs builtinsNs&&tablesOk qv (⟨h1 w.params,#[],z0u,655,os⟩:Shared).heap&&Xt ⟨h1 w.params,#[],z0u,655,os⟩&&(if true=true then(⟨h1 w.params,#[],z0u,655,os⟩:Shared).gens.size==0 else !leftWithCleanup (⟨h1 w.params,#[],z0u,655,os⟩:Shared).gens)),tabsOk qv ⟨h1 w.params,#[],z0u,655,os⟩,pinSeenD qv (drecsOf qv) ⟨h1 w.params,#[],z0u,655,os⟩,plainSeenE qv (looseW qv []) ⟨h1 w.params,#[],z0u,655,os⟩,plainSeenD qv [] ⟨h1 w.params,#[],z0u,655,os⟩,wideSeen qv ⟨h1 w.params,#[],z0u,655,os⟩,clsSeenW qv [] ⟨h1 w.params,#[],z0u,655,os⟩):=by kernel_rfl
theorem gd:openGood qv []=(expectedOf qv,bltViewBooted,true,true,pinGoodD (drecsOf qv),plainGoodE qv (looseW qv []),plainGoodD qv [],wideGood qv,clsGoodW qv []):=by kernel_rfl
theorem lkS(w:World)(os:OsState):openSeen qv [] (importedModules pw.main.body) Xt true ⟨h1 w.params,#[],z0u,655,os⟩=openGood qv []:=(sn w os).trans (Eq.trans (looks_pair (lk1 w os) (looks_pair (lk2 w os) (looks_pair (lk3 w os) (looks_pair (lk4 w os) (looks_pair (lk5 w os) (looks_pair (lk6 w os) (looks_pair (lk7 w os) (looks_pair (lk8 w os) (lk9 w os))))))))) gd.symm)
theorem left:LeftO pw qv [] Xt (Hook.obs (kHook K Ka Ke)) (Hook.val (kHook K Ka Ke)) 4554 :=
 LeftO.of_pieces (H₀:=boot_heap) (H₁:=h1) (gs₀:=Array.mk []) (gs₁:=#[]) (d₀:=boot_drawn) (d₁:=z0u) (k₀:=boot_toks) (k₁:=655) (m₀:=11) (ann:=ann) (M:=(12+(1+(235+(400+(386+(378+(379+(386+(57+2)))))))))) opened sized run_all (by kernel_rfl) (fun w=>funext fun os =>
  looks_pair (lk0 w os) (looks_pair (lkS w os) (lk10 w os)))
end
end H
end K14
open PySem PySem.W PyProof.Rows
set_option maxRecDepth 100000 in
set_option maxHeartbeats 0 in
theorem PySem.Challenge.cw_changehall_k14_scales_fair_holds : PySem.Challenge.rw_changehall_k14_scales_fair.Holds := by
 w_on;o_law
 refine PySem.W.holds_open (q:=K14.H.qv) (loose:=[]) (Xt:=K14.H.Xt) (XP:=XL K14.H.qv []) (Yf:=Hook.obs (kHook K14.H.K K14.H.Ka K14.H.Ke)) (Ya:=Hook.val (kHook K14.H.K K14.H.Ka K14.H.Ke)) (YP:=Hook.says (kHook K14.H.K K14.H.Ka K14.H.Ke)) (N:=4554) K14.H.left (Hook.of _) (Hook.keeps _) (fun s e=>xl_of s (Bool.and_eq_true_iff.mp e).1) XL.keeps (by rfl) (by rfl) (by rfl) (fun s e=>recFacts_of (Bool.and_eq_true_iff.mp e).2) (by rfl) (by first|assumption|decide +kernel) (by decide +kernel) ⟨rfl,rfl,rfl,rfl,rfl,by decide +kernel⟩ ?hw ?hc
 (case hw=>w_witness2)
 k_fill
 refine L2.zj2 (x := "_law_script") (k:=10) (fr:=true) (c:=K14.zii) (l:=PySem.Challenge.rw_changehall_k14_scales_fair) rfl rfl (fun w h Y=>PySem.W.kIn_of Y) ?F (fun ns hl=>K14.zkV ns hl) ⟨rfl,by decide,by decide⟩
 case F =>
  intro w mg fa h KX G hmg
  refine' K14.zl3 KX G hmg (L2.dh ?e0 ?l0 ?c0 ?k0) (L2.dh ?e1 ?l1 ?c1 ?k1) (L2.dh ?e2 ?l2 ?c2 ?k2) (L2.dh ?e3 ?l3 ?c3 ?k3) (L2.dh ?e4 ?l4 ?c4 ?k4) (L2.dh ?e5 ?l5 ?c5 ?k5) (L2.dh ?e6 ?l6 ?c6 ?k6) (L2.dh ?e7 ?l7 ?c7 ?k7) (L2.dh ?e8 ?l8 ?c8 ?k8) (L2.dh ?e9 ?l9 ?c9 ?k9) (L2.dh ?e10 ?l10 ?c10 ?k10) (L2.dh ?e11 ?l11 ?c11 ?k11) (L2.dh ?e12 ?l12 ?c12 ?k12) (L2.dh ?e13 ?l13 ?c13 ?k13) (L2.dh ?e14 ?l14 ?c14 ?k14) (L2.dh ?e15 ?l15 ?c15 ?k15) (L2.dh ?e16 ?l16 ?c16 ?k16) (L2.dh ?e17 ?l17 ?c17 ?k17) (L2.dh ?e18 ?l18 ?c18 ?k18) (L2.dh ?e19 ?l19 ?c19 ?k19) (L2.dh ?e20 ?l20 ?c20 ?k20) (L2.dh ?e21 ?l21 ?c21 ?k21) (L2.dh ?e22 ?l22 ?c22 ?k22) (L2.dh ?e23 ?l23 ?c23 ?k23) (L2.dh ?e24 ?l24 ?c24 ?k24) (L2.dh ?e25 ?l25 ?c25 ?k25) (L2.dh ?e26 ?l26 ?c26 ?k26) (L2.dh ?e27 ?l27 ?c27 ?k27) (L2.dh ?e28 ?l28 ?c28 ?k28) (L2.dh ?e29 ?l29 ?c29 ?k29) (L2.dh ?e30 ?l30 ?c30 ?k30) (L2.dh ?e31 ?l31 ?c31 ?k31) (L2.dh ?e32 ?l32 ?c32 ?k32) (L2.dh ?e33 ?l33 ?c33 ?k33) (L2.dh ?e34 ?l34 ?c34 ?k34) (L2.dh ?e35 ?l35 ?c35 ?k35) (L2.dh ?e36 ?l36 ?c36 ?k36) (L2.dh ?e37 ?l37 ?c37 ?k37) (L2.dh ?e38 ?l38 ?c38 ?k38) (L2.dh ?e39 ?l39 ?c39 ?k39) (L2.dh ?e40 ?l40 ?c40 ?k40) (L2.dh ?e41 ?l41 ?c41 ?k41) (L2.dh ?e42 ?l42 ?c42 ?k42) (L2.dh ?e43 ?l43 ?c43 ?k43) (L2.dh ?e44 ?l44 ?c44 ?k44) (L2.dh ?e45 ?l45 ?c45 ?k45) (L2.dh ?e46 ?l46 ?c46 ?k46) (L2.dh ?e47 ?l47 ?c47 ?k47) (L2.dh ?e48 ?l48 ?c48 ?k48) (L2.dh ?e49 ?l49 ?c49 ?k49) (L2.dh ?e50 ?l50 ?c50 ?k50) (L2.dh ?e51 ?l51 ?c51 ?k51) (L2.dh ?e52 ?l52 ?c52 ?k52) ?z_abs ?z_all ?z_any ?z_bool ?z_enumerate ?z_int ?z_isinstance ?z_len ?z_list ?z_range ?z_reversed ?z_sorted ?z_sum ?z_tuple ?z_zip ?y_MOST_BILLS ?y_MOST_KINDS
  all_goals try k_is

end
