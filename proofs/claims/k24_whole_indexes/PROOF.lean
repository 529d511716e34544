import PyProof.Rows.All
import Wide.All
import OpenK.AllK
import Wide.FinOn
import Lean
import PyProof.EqAt
import PyProof.EqKinds
import PyProof.TupleCall
import PyProof.CompFree
import PyProof.Cells
import PySem.Challenge.RW_changehall_k24_whole_indexes
set_option Elab.async false
set_option linter.all false
set_option maxRecDepth 100000
set_option exponentiation.threshold 20000
section
local macro_rules|`(tactic| omega)=>`(tactic| first|lia|omega +splitDisjunctions)
set_option Elab.async false
set_option linter.all false
set_option maxRecDepth 100000
namespace L2
open PySem PySem.Spec PyProof.Rows
abbrev Key:=Sum Int Str
def keyIs:Key→Value→Bool
 | .inl k,v=>Value.isInt k v
 | .inr x,v=>Value.isStrOf x v
def keyH(w:World):Key→Int
 | .inl k=>hashInt k
 | .inr x=>hashStr w x
theorem z0T:∀{k:Key} {v:Value},keyIs k v=true→(∃ i t,k=Sum.inl i∧v=Value.int i t)∨(∃ x t,k=Sum.inr x∧v=Value.str x t)
 | .inl i,v,h=>by
  obtain⟨t,e⟩:=Value.isInt_shape (k:=i) (v:=v) h
  exact .inl ⟨i,t,rfl,e⟩
 | .inr x,v,h=>by
  obtain⟨t,e⟩:=Value.isStrOf_shape (x:=x) (v:=v) h
  exact .inr ⟨x,t,rfl,e⟩
theorem key_ll(a b:Int):decide ((Sum.inl a:Key)=Sum.inl b)=(a==b):=by
 by_cases e:a=b
 · subst e;simp
 · have h:¬(Sum.inl a:Key)=Sum.inl b:=fun q=>e (Sum.inl.inj q)
   rw[decide_eq_false h]
   exact(beq_eq_false_iff_ne.mpr e).symm
theorem key_rr(a b:Str):decide ((Sum.inr a:Key)=Sum.inr b)=decide (a=b):=by
 by_cases e:a=b
 · subst e;simp
 · have h:¬(Sum.inr a:Key)=Sum.inr b:=fun q=>e (Sum.inr.inj q)
   rw[decide_eq_false h,decide_eq_false e]
theorem key_lr(a:Int)(b:Str):decide ((Sum.inl a:Key)=Sum.inr b)=false:=decide_eq_false (fun q=>nomatch q)
theorem key_rl(a:Str)(b:Int):decide ((Sum.inr a:Key)=Sum.inl b)=false:=decide_eq_false (fun q=>nomatch q)
def zap(prog:Program)(w:World):PySem.KeyKind prog w Key where
 is:=keyIs
 hash:=keyH w
 inj:=fun v a b ha hb=>by
  rcases z0T ha with⟨i,t,rfl,rfl⟩|⟨x,t,rfl,rfl⟩
  · rcases z0T hb with⟨j,u,rfl,e⟩|⟨y,u,rfl,e⟩
    · injection e with e1 _;rw[e1]
    · exact nomatch e
  · rcases z0T hb with⟨j,u,rfl,e⟩|⟨y,u,rfl,e⟩
    · exact nomatch e
    · injection e with e1 _;rw[e1]
 byValue:=fun k v h=>by
  rcases z0T h with⟨i,t,rfl,rfl⟩|⟨x,t,rfl,rfl⟩<;>rfl
 pyHash:=fun hv h=>by
  rcases z0T hv with⟨i,t,rfl,rfl⟩|⟨x,t,rfl,rfl⟩
  · exact wpAny_pyHash_int h
  · exact wpAny_pyHash_str h
 eqBool:=fun hu hv h=>by
  rcases z0T hu with⟨i,t,rfl,rfl⟩|⟨x,t,rfl,rfl⟩
  · rcases z0T hv with⟨j,u,rfl,rfl⟩|⟨y,u,rfl,rfl⟩
    · rw[key_ll]at h;exact wpAny_eqBool_int h
    · rw[key_lr]at h;exact SeqAt.EqAt.int_str i t y u _ _ _ _ h
  · rcases z0T hv with⟨j,u,rfl,rfl⟩|⟨y,u,rfl,rfl⟩
    · rw[key_rl]at h;exact SeqAt.EqAt.str_int x t j u _ _ _ _ h
    · rw[key_rr]at h;exact wpAny_eqBool_str h
 «strs»:=fun k x t v h=>by
  rcases z0T h with⟨i,u,rfl,e⟩|⟨y,u,rfl,e⟩
  · exact nomatch e
  · injection e with e1 _
    subst e1
    cases v<;>rfl
end L2
namespace L2
open PySem PySem.Spec PyProof.Rows
inductive V where
 | non|bl (b:Bool)|int (i:Int)|str (x:Str)|byt (b:Array UInt8)|flt (b:UInt64)|ref (a:Addr)|ty (n:String)
 deriving DecidableEq
def RelV:V→Value→Prop
 | .non,u=>u=Value.none
 | .bl b,u=>u=Value.bool b
 | .int i,u=>∃ t,u=Value.int i t
 | .str x,u=>∃ t,u=Value.str x t
 | .byt b,u=>∃ t,u=Value.bytes b t
 | .flt b,u=>∃ t,u=Value.float b t
 | .ref a,u=>u=Value.ref a
 | .ty n,u=>u=Value.type n
abbrev Vals:List V→List Value→Prop:=Paired RelV
theorem Vals.length{xs:List V}{us:List Value}(r:Vals xs us):xs.length=us.length:=Paired.length r
theorem Vals.get:∀{xs:List V} {us:List Value} {i:Nat} {x:V},Vals xs us→xs[i]?=some x→∃ u,us[i]?=some u∧RelV x u
 | _,_,_,_,.nil,e=>by simp at e
 | _,_,0,_,.cons r _,e=>by simp at e;subst e;exact⟨_,rfl,r⟩
 | _,_,i+1,x,.cons _ t,e=>by
  obtain⟨u,h1,h2⟩:=Vals.get (i:=i) (x:=x) t (by simpa using e)
  exact⟨u,by simpa using h1,h2⟩
theorem Vals.set{x:V}{u:Value}(r:RelV x u):∀{xs:List V} {us:List Value} (i:Nat),Vals xs us→Vals (xs.set i x) (us.set i u)
 | _,_,_,.nil => .nil
 | _,_,0,.cons _ t => .cons r t
 | _,_,i+1,.cons q t => .cons q (Vals.set r i t)
theorem Vals.append:∀{xs ys:List V} {us ws:List Value},Vals xs us→Vals ys ws→Vals (xs++ys) (us++ws)
 | _,_,_,_,.nil,s=>s
 | _,_,_,_,.cons r t,s => .cons r (Vals.append t s)
theorem Vals.take:∀{xs:List V} {us:List Value} (n:Nat),Vals xs us→Vals (xs.take n) (us.take n)
 | _,_,0,_ => .nil
 | _,_,_+1,.nil => .nil
 | _,_,n+1,.cons r t => .cons r (Vals.take n t)
theorem Vals.drop:∀{xs:List V} {us:List Value} (n:Nat),Vals xs us→Vals (xs.drop n) (us.drop n)
 | _,_,0,r=>r
 | _,_,_+1,.nil => .nil
 | _,_,n+1,.cons _ t=>Vals.drop n t
theorem Vals.none_of:∀{xs:List V} {us:List Value} {i:Nat},Vals xs us→xs[i]?=none→us[i]?=none:=fun{xs us i} r e=>by
 have h1:=r.length
 have h2:xs.length≤i:=List.getElem?_eq_none_iff.mp e
 exact List.getElem?_eq_none_iff.mpr (by omega)
def RelO:Option V→Option Value→Prop
 | some v,some u=>RelV v u
 | none,none=>True
 | _,_=>False
def KV{κ:Type}:List (κ×V)→List (κ×Value)→Prop:=Paired fun(p:κ×V) (q:κ×Value)=>p.1=q.1∧RelV p.2 q.2
def kV:Key→V
 | .inl i => .int i
 | .inr x => .str x
inductive HO where
 | lst (xs:List V)
 | tup (xs:List V)
 | dK (kvs:List (Key×V))|dT (kvs:List (List Key×V))
 | set (S:Int→Bool) (n:Nat)
 | ins (C dx:Addr) (fs:List (Str×V))
 | own (x:Addr)
 | xd (fs:List (Str×V))
 | met (f x:Addr)
 | rng (lo hi:Int)
 | frz (o:Obj) (u:HO)
 | tbl (ps:Array Value)
 | ext (φ:Heap→Prop)
abbrev Hp:=Addr→Option HO
def upd(H:Hp)(a:Addr)(o:HO):Hp:=fun b=>if b=a then some o else H b
theorem z0H{H:Hp}{a:Addr}{o:HO}:upd H a o a=some o:=by unfold upd;rw[if_pos rfl]
theorem z0q{H:Hp}{a b:Addr}{o:HO}(h:b≠a):upd H a o b=H b:=by unfold upd;rw[if_neg h]
theorem z21{H:Hp}{a b:Addr}{o:HO}(h:H a=some o)(h':H b=none):a≠b:=by
 intro e;subst e;rw[h]at h';cases h'
section
variable (P:Program)(w:World)
def ObjOk(H:Hp)(h:Heap)(a:Addr):HO→Prop
 | .lst xs=>xs.length≤sizeLine∧∃(its:List Value) (n:Nat),Vals xs its∧h.get? a=some { cls := .type "list",data := .seq its.toArray n }
 | .tup xs=>xs.length≤sizeLine∧∃ its:List Value,Vals xs its∧IsTup h a its.toArray
 | .dK kvs=>kvs.length≤sizeLine∧(a==sysModules)=false∧∃ vs,KV kvs vs∧h.DictOf (zap P w) a vs
 | .dT kvs=>kvs.length≤sizeLine∧(a==sysModules)=false∧∃ xs:List (List Key×Addr×Value),
  Paired (fun(p:List Key×V) (q:List Key×Addr×Value)=>p.1=q.1∧H q.2.1=some (.tup (p.1.map kV))∧RelV p.2 q.2.2) kvs xs ∧
  ∃ o es ep,h.get? a=some o∧o.ExactDict∧o.data = .dict es ep∧es.toList=xs.map (entryOfKey (tupleKind (zap P w)))∧(xs.map (·.1)).Nodup
 | .set S n=>h.SetOf (intKind P w) a S n
 | .ins C dx fs=>H dx=some (.own a)∧fs.length≤1000∧dx≠a∧h.get? a=some (PySem.W.instObj C dx) ∧
  ∃ mA,h.Ns1 dx mA∧(∀ f,RelO (fs.lookup f) (mA f))∧PySem.Within mA (fs.map (·.1))
 | .own _=>∃ o,h.get? a=some o
 | .xd fs=>∃ mA,h.Ns1 a mA∧∀ f,RelO (fs.lookup f) (mA f)
 | .rng lo hi=>∃ t u v,h.get? a=some { cls := .type "range",data := .fields #[.int lo t,.int hi u,.int 1 v] }
 | .frz o u=>h.get? a=some o∧ObjOk H h a u
 | .tbl ps=>h.get? a=some { cls := .none,data := .fields ps }
 | .met f x=>h.get? a=some (PySem.W.methodObj (.ref f) (.ref x))
 | .ext φ=>φ h∧(∃ o,h.get? a=some o)∧∀ h1 h2:Heap,φ h1→(∀ o,h1.get? a=some o→h2.get? a=some o)→φ h2
def HOk(H:Hp)(h:Heap):Prop:=∀ a o,H a=some o→ObjOk P w H h a o
end
section
variable {P:Program}{w:World}{H H':Hp}{h h':Heap}{a:Addr}{o:HO}
theorem ObjOk.lt(x:ObjOk P w H h a o):a<h.objs.size:=by
 cases o with
 | lst xs=>obtain⟨_,_,_,_,e⟩:=x;exact Heap.lt_size e
 | tup xs=>obtain⟨_,_,_,p⟩:=x;exact p.lt
 | dK kvs=>obtain⟨_,_,_,_,o,_,_,e,_⟩:=x;exact Heap.lt_size e
 | dT kvs=>obtain⟨_,_,_,_,o,_,_,e,_⟩:=x;exact Heap.lt_size e
 | set S n=>obtain⟨o,_,_,_,e,_⟩:=x;exact Heap.lt_size e
 | ins C dx fs=>obtain⟨_,_,_,e,_⟩:=x;exact Heap.lt_size e
 | own y=>obtain⟨_,e⟩:=x;exact Heap.lt_size e
 | xd fs=>obtain⟨_,⟨_,_,_,e,_⟩,_⟩:=x;exact Heap.lt_size e
 | rng lo hi=>obtain⟨_,_,_,e⟩:=x;exact Heap.lt_size e
 | frz ob u=>obtain⟨e,_⟩:=x;exact Heap.lt_size e
 | tbl ps=>exact Heap.lt_size (show h.get? a=some _ from x)
 | met f y=>exact Heap.lt_size (show h.get? a=some _ from x)
 | ext φ=>obtain⟨_,⟨_,e⟩,_⟩:=x;exact Heap.lt_size e
theorem Paired.mapP{α β:Type}{F G:α→β→Prop}:∀{l₁:List α} {l₂:List β},Paired F l₁ l₂→(∀ a b,F a b→G a b)→Paired G l₁ l₂
 | _,_,.nil,_ => .nil
 | _,_,.cons r t,f => .cons (f _ _ r) (Paired.mapP t f)
theorem ObjOk.stay(x:ObjOk P w H h a o)(k:∀ b u,(b=a∨H b=some (.own a))→h.get? b=some u→h'.get? b=some u)
  (ho:∀ b,H b=some (.own a)→H' b=some (.own a)) (ht:∀ b xs,H b=some (.tup xs)→H' b=some (.tup xs)):ObjOk P w H' h' a o:=by
 induction o with
 | lst xs=>obtain⟨z,its,n,r,e⟩:=x;exact⟨z,its,n,r,k _ _ (.inl rfl) e⟩
 | tup xs=>obtain⟨z,its,r,ob,e,c⟩:=x;exact⟨z,its,r,ob,k _ _ (.inl rfl) e,c⟩
 | dK kvs=>obtain⟨z,y,vs,r,ob,es,ep,e,c⟩:=x;exact⟨z,y,vs,r,ob,es,ep,k _ _ (.inl rfl) e,c⟩
 | dT kvs =>
  obtain⟨z,y,xs,r,ob,es,ep,e,c⟩:=x
  exact⟨z,y,xs,Paired.mapP r fun p q z=>⟨z.1,ht _ _ z.2.1,z.2.2⟩,ob,es,ep,k _ _ (.inl rfl) e,c⟩
 | set S n=>obtain⟨ob,es,ep,t,e,c⟩:=x;exact⟨ob,es,ep,t,k _ _ (.inl rfl) e,c⟩
 | ins C dx fs =>
  obtain⟨d,z,ne,e,mA,⟨od,es,ep,e2,c⟩,r⟩:=x
  exact⟨ho _ d,z,ne,k _ _ (.inl rfl) e,mA,⟨od,es,ep,k _ _ (.inr d) e2,c⟩,r⟩
 | own y=>obtain⟨ob,e⟩:=x;exact⟨ob,k _ _ (.inl rfl) e⟩
 | xd fs=>obtain⟨mA,⟨od,es,ep,e,c⟩,r⟩:=x;exact⟨mA,⟨od,es,ep,k _ _ (.inl rfl) e,c⟩,r⟩
 | rng lo hi=>obtain⟨t,u,v,e⟩:=x;exact⟨t,u,v,k _ _ (.inl rfl) e⟩
 | frz ob u ih=>obtain⟨e,q⟩:=x;exact⟨k _ _ (.inl rfl) e,ih q⟩
 | tbl ps =>
  have e:h.get? a=some { cls := .none,data := .fields ps }:=x
  show h'.get? a=some { cls := .none,data := .fields ps }
  exact k a _ (.inl rfl) e
 | met f y =>
  have e:h.get? a=some (PySem.W.methodObj (.ref f) (.ref y)):=x
  show h'.get? a=some (PySem.W.methodObj (.ref f) (.ref y))
  exact k a _ (.inl rfl) e
 | ext φ=>obtain⟨p,⟨o,e⟩,st⟩:=x;exact⟨st _ _ p fun o q=>k _ _ (.inl rfl) q,⟨o,k _ _ (.inl rfl) e⟩,st⟩
theorem HOk.lt(x:HOk P w H h)(e:H a=some o):a<h.objs.size:=(x a o e).lt
theorem HOk.fresh(x:HOk P w H h)(e:h.objs.size≤a):H a=none:=by
 cases q:H a with
 | none=>rfl
 | some u=>exact absurd (Nat.lt_of_lt_of_le (x.lt q) e) (Nat.lt_irrefl _)
theorem HOk.kept(x:HOk P w H h)(k:∀ b u,h.get? b=some u→h'.get? b=some u):HOk P w H h':=fun a o e =>
 (x a o e).stay (fun b u _ q=>k b u q) (fun _ q=>q) fun _ _ q=>q
theorem HOk.laid(x:HOk P w H h)(k:∀ b u,h.get? b=some u→h'.get? b=some u)(hp:h.objs.size≤a)(new:ObjOk P w (upd H a o) h' a o):HOk P w (upd H a o) h':=fun b u e=>by
 have hn:=x.fresh hp
 by_cases hb:b=a
 · subst hb;rw[z0H]at e;cases e;exact new
 · rw[z0q hb]at e
   exact(x b u e).stay (fun c v _ q=>k c v q) (fun c q=>by rw[z0q (z21 q hn)];exact q) fun c xs q=>by rw[z0q (z21 q hn)];exact q
end
def Rd(H:Hp)(a:Addr)(u:HO):Prop:=H a=some u∨∃ o,H a=some (.frz o u)
theorem Rd.of{H:Hp}{a:Addr}{u:HO}(h:H a=some u):Rd H a u := .inl h
theorem Rd.ok{P:Program}{w:World}{H:Hp}{h:Heap}{a:Addr}{u:HO}(r:Rd H a u)(x:HOk P w H h):ObjOk P w H h a u:=by
 rcases r with r|⟨o,r⟩
 · exact x a u r
 · obtain⟨_,q⟩:=x a _ r
   exact q
def Mut:Option HO→Prop
 | some (.lst _)=>True
 | some (.dK _)=>True
 | some (.dT _)=>True
 | some (.set _ _)=>True
 | some (.ins _ _ _)=>True
 | some (.ext _)=>True
 | _=>False
section
variable {P:Program}{w:World}{H:Hp}{h h':Heap}{x e:Addr}{o':HO}
theorem HOk.write(ok:HOk P w H h)(mu:Mut (H x))(he:e=x∨H e=some (.own x))(k:∀ b u,b≠e→h.get? b=some u→h'.get? b=some u)(heo:∃ u,h'.get? e=some u)
   (new:ObjOk P w (upd H x o') h' x o'):HOk P w (upd H x o') h':=fun b u q=>by
 have nown:∀ c y,H c=some (.own y)→c≠x:=fun c y r z=>by subst z;rw[r]at mu;exact mu
 have ntup:∀ c xs,H c=some (.tup xs)→c≠x:=fun c xs r z=>by subst z;rw[r]at mu;exact mu
 by_cases hb:b=x
 · subst hb;rw[z0H]at q;cases q;exact new
 · rw[z0q hb]at q
   by_cases hbe:b=e
   · have q':H b=some (.own x):=by
       rcases he with z|z
       · exact absurd (hbe.trans z) hb
       · rw[hbe];exact z
     rw[q]at q';cases q'
     obtain⟨v,hv⟩:=heo
     exact⟨v,by rw[hbe];exact hv⟩
   · refine(ok b u q).stay (fun c v hc r=>k c v ?_ r) (fun c r=>by rw[z0q (nown c b r)];exact r) fun c xs r=>by rw[z0q (ntup c xs r)];exact r
     rcases hc with rfl|hc
     · exact hbe
     · rintro rfl
       rcases he with z|z
       · exact nown c b hc z
       · rw[hc]at z;cases z;exact hb rfl
end
structure Un(fs ex:List Addr)(H H':Hp)(h h':Heap):Prop where
 keep:∀ b o,h.get? b=some o→H b=none→b ∉ fs→b ∉ ex→h'.get? b=some o
 slot:∀ b o,h.get? b=some o→H b=none→b∈fs→b ∉ ex→∃ sl,h'.get? b=some { o with slots:=sl }
 free:∀ b o,h.get? b=some o→H b=none→b ∉ ex→H' b=none
 there:∀ b o,h.get? b=some o→b ∉ ex→∃ o',h'.get? b=some o'
 tups:∀ b xs,H b=some (.tup xs)→H' b=some (.tup xs)
 frzs:∀ b o u,H b=some (.frz o u)→H' b=some (.frz o u)
 tbls:∀ b ps,H b=some (.tbl ps)→∃ more,H' b=some (.tbl (ps++more))
section
variable {fs fs' ex ex':List Addr}{H H1 H2:Hp}{h h1 h2 h':Heap}{a x e:Addr}{o:HO}
theorem Un.any(u:Un fs ex H H1 h h1){b:Addr}{ob:Obj}(q:h.get? b=some ob)(n:H b=none)(hx:b ∉ ex):∃ sl,h1.get? b=some { ob with slots:=sl }:=by
 by_cases hb:b∈fs
 · exact u.slot b ob q n hb hx
 · exact⟨ob.slots,u.keep b ob q n hb hx⟩
theorem Un.trans(a:Un fs ex H H1 h h1)(b:Un fs ex H1 H2 h1 h2):Un fs ex H H2 h h2 where
 keep:=fun c ob q n hc hx=>b.keep c ob (a.keep c ob q n hc hx) (a.free c ob q n hx) hc hx
 slot:=fun c ob q n hc hx=>by
  obtain⟨sl,e1⟩:=a.slot c ob q n hc hx
  obtain⟨sl',e2⟩:=b.slot c _ e1 (a.free c ob q n hx) hc hx
  exact⟨sl',e2⟩
 free:=fun c ob q n hx=>by
  obtain⟨o',e1⟩:=a.there c ob q hx
  exact b.free c o' e1 (a.free c ob q n hx) hx
 there:=fun c ob q hx=>by
  obtain⟨o',e1⟩:=a.there c ob q hx
  exact b.there c o' e1 hx
 tups:=fun c xs q=>b.tups c xs (a.tups c xs q)
 frzs:=fun c ob xs q=>b.frzs c ob xs (a.frzs c ob xs q)
 tbls:=fun c ps q=>by
  obtain⟨m1,e1⟩:=a.tbls c ps q
  obtain⟨m2,e2⟩:=b.tbls c _ e1
  exact⟨m1++m2,by rw[e2,Array.append_assoc]⟩
theorem Un.kept(k:∀ b u,h.get? b=some u→h'.get? b=some u):Un fs ex H H h h' :=
 ⟨fun b ob q _ _ _=>k b ob q,fun b ob q _ _ _=>⟨ob.slots,k b ob q⟩,fun _ _ _ n _=>n,fun b ob q _=>⟨ob,k b ob q⟩,fun _ _ q=>q,fun _ _ _ q=>q,fun _ ps q=>⟨#[],by rw[q];simp⟩⟩
theorem Un.refl:Un fs ex H H h h:=Un.kept fun _ _ q=>q
theorem Un.laid(k:∀ b u,h.get? b=some u→h'.get? b=some u)(hp:h.objs.size≤a)(hn:H a=none):Un fs ex H (upd H a o) h h' where
 keep:=fun b u q _ _ _=>k b u q
 slot:=fun b u q _ _ _=>⟨u.slots,k b u q⟩
 free:=fun b u q n _=>by rw[z0q (Nat.ne_of_lt (Nat.lt_of_lt_of_le (Heap.lt_size q) hp))];exact n
 there:=fun b u q _=>⟨u,k b u q⟩
 tups:=fun b xs q=>by rw[z0q (z21 q hn)];exact q
 frzs:=fun b u xs q=>by rw[z0q (z21 q hn)];exact q
 tbls:=fun b ps q=>⟨#[],by rw[z0q (z21 q hn),q];simp⟩
theorem Un.write(mu:Mut (H x))(he:e=x∨H e=some (.own x))(k:∀ b u,b≠e→h.get? b=some u→h'.get? b=some u)(heo:∃ u,h'.get? e=some u):Un fs ex H (upd H x o) h h':=by
 have hx:∀ b,H b=none→b≠x:=fun b n z=>by subst z;rw[n]at mu;exact mu
 have hb:∀ b,H b=none→b≠e:=fun b n z=>by
   subst z
   rcases he with r|r
   · exact hx b n r
   · rw[n]at r;cases r
 have hm:∀ b u,H b=some u→¬Mut (some u)→b≠x:=fun b u q nm z=>by subst z;rw[q]at mu;exact nm mu
 refine⟨fun b u q n _ _=>k b u (hb b n) q,fun b u q n _ _=>⟨u.slots,k b u (hb b n) q⟩,fun b u q n _=>by rw[z0q (hx b n)];exact n,fun b u q _=>?_,
   fun b xs q=>by rw[z0q (hm b _ q fun z=>z)];exact q,fun b u xs q=>by rw[z0q (hm b _ q fun z=>z)];exact q,fun b ps q=>⟨#[],by rw[z0q (hm b _ q fun z=>z),q];simp⟩⟩
 by_cases hbe:b=e
 · subst hbe;exact heo
 · exact⟨u,k b u hbe q⟩
theorem Un.mono(u:Un fs ex H H1 h h1)(hs:∀ b∈fs,b∈fs')(hx:∀ b∈ex,b∈ex'):Un fs' ex' H H1 h h1 :=
 ⟨fun b ob q n hb he=>u.keep b ob q n (fun z=>hb (hs b z)) fun z=>he (hx b z),fun _ _ q n _ he=>u.any q n fun z=>he (hx _ z),fun b ob q n he=>u.free b ob q n fun z=>he (hx b z),fun b ob q he=>u.there b ob q fun z=>he (hx b z),u.tups,u.frzs,u.tbls⟩
end
def trk(h:Heap)(H:Hp):List Addr:=(List.range h.objs.size).filter fun a=>(H a).isSome
def hidT(h:Heap)(H:Hp):Heap:=PySem.W.hideAll h (trk h H)
theorem zgE(h:Heap)(H:Hp):(hidT h H).objs.size=h.objs.size:=PySem.W.hideAll_size _ _
theorem zhz{h:Heap}{H:Hp}{b:Addr}{o:Obj}(e:h.get? b=some o)(n:H b=none):(hidT h H).get? b=some o :=
 PySem.W.hideAll_get _ e fun hm=>by
  have q:(H b).isSome=true:=(List.mem_filter.mp hm).2
  rw[n]at q;simp at q
theorem zli{h:Heap}{H:Hp}{b:Addr}{o:Obj}(e:(hidT h H).get? b=some o):h.get? b=some o∧H b=none:=by
 have e':h.get? b=some o:=PySem.W.of_hideAll (trk h H) e
 refine⟨e',?_⟩
 cases q:H b with
 | none=>rfl
 | some x =>
  have hm:b∈trk h H:=List.mem_filter.mpr ⟨List.mem_range.mpr (Heap.lt_size e'),by simp[q]⟩
  have z:(hidT h H).get? b=none:=PySem.W.hideAll_none (trk h H) hm
  rw[z]at e;cases e
def zlj(g h:Heap)(L:Addr):List (Addr×Obj):=(List.range h.objs.size).filterMap fun a=>if a=L∨(g.get? a).isSome=true then none else(h.get? a).map fun o=>(a,o)
def rest(g h:Heap)(L d:Addr):List (Addr×Obj):=(zlj g h L).filter fun p=>decide (p.1≠d)
end L2
namespace L2
open PySem PySem.Spec PyProof.Rows
structure Mod(K:PySem.W.Frag)(mg:Str→Option Value)(base:Heap):Prop where
 kin:K.In base
 glob:base.Ns mainGlobals mg
 blt:∃ mb,base.Ns builtinsNs mb∧∀ x:Str,x ≠ "__name__" → mb x=bootBuiltins x
 nolimit:base.NoLimit
structure Cx where
 prog:Program
 w:World
 K:PySem.W.Frag
 mg:Str→Option Value
 base:Heap
 A:Around
 N:List Str
 s₀:Shared
 H₀:Hp
 env:Env
 outer:List Env
 stack:List Env
 ex:List Addr
 fn:Str→Bool
 calm:Bool
 pn:List (Addr×Obj)
 xe:Value→Shared→Prop
def frs(l:List Env):List Addr:=l.filterMap (·.frame)
abbrev Cx.fs(X:Cx):List Addr:=frs X.outer
def Vis(sc:Scope)(x:Str):Prop:=sc.names.lookup x=some .local∨sc.names.lookup x=some .cell∨sc.names.lookup x=some .free
def Loc(sc:Scope)(x:Str):Prop:=sc.names.lookup x=some .local∨sc.names.lookup x=some .cell
def Look(env:Env)(h:Heap)(m:Str→Option Value)(x:Str)(u:Value):Prop :=
 (env.kindOf x=some .local∧m x=some u)∨((env.kindOf x=some .cell∨env.kindOf x=some .free)∧∃ c,env.cells.lookup x=some c∧h.IsCell c (some u))
structure Cx.Ok(X:Cx):Prop where
 mod:Mod X.K X.mg X.base
 kind:X.env.scope.kind = .function
 glob:X.env.globals=mainGlobals
 blt:X.env.builtins=builtinsNs
 above:X.s₀.heap.objs.size≤X.env.locals
 inj:∀ x y c,X.env.cells.lookup x=some c→X.env.cells.lookup y=some c→x=y
 has:∀ x,(X.env.kindOf x=some .cell∨X.env.kindOf x=some .free)→∃ c,X.env.cells.lookup x=some c
 cab:∀ x c,X.fn x=true→X.env.cells.lookup x=some c→X.s₀.heap.objs.size≤c
 hd:X.calm=true→X.A.handled=none
 frames:X.A.frames=some X.stack
 stk:X.stack=X.outer∨(X.stack=X.env::X.outer∧X.env.frame=some X.env.locals)
 exf:∀ b∈X.ex,b≠X.env.locals∧∀ x c,X.env.cells.lookup x=some c→c≠b
 bs:∀ b o,X.base.get? b=some o→X.s₀.heap.get? b=some o∧X.H₀ b=none
 bsz:X.base.objs.size≤X.s₀.heap.objs.size
 noex:∀ b o,X.base.get? b=some o→b ∉ X.ex
 exfs:∀ b∈X.ex,b ∉ X.fs
 funs:X.s₀.heap.FunFrames X.base X.outer
 frf:∀ b∈X.fs,X.H₀ b=none
structure Inv(X:Cx)(pins:List (Addr×Obj))(σ:List (Option V))(H:Hp)(s:Shared):Prop where
 ok:X.Ok
 os:s.os=X.s₀.os
 bare:AllBare s.gens
 base:Un X.fs X.ex X.H₀ H X.s₀.heap s.heap
 loc:∃ m,s.heap.Ns X.env.locals m∧∀(i:Nat) (x:Str) (v:V),X.N[i]?=some x→σ[i]?=some (some v)→Vis X.env.scope x→∃ u,RelV v u∧Look X.env s.heap m x u
 cell:∀ x c,X.env.cells.lookup x=some c→∃ v,s.heap.IsCell c v
 free:H X.env.locals=none
 freeC:∀ x c,X.env.cells.lookup x=some c→H c=none
 pin:∀ p∈X.pn++pins,s.heap.get? p.1=some p.2∧H p.1=none∧p.1≠X.env.locals∧p.1 ∉ X.fs∧∀ v,p.2.data ≠ .cell v
 hok:HOk X.prog X.w H s.heap
 len:σ.length=X.N.length
section
variable {X:Cx}{pins:List (Addr×Obj)}{σ:List (Option V)}{H H':Hp}{s:Shared}{h':Heap}
theorem Cx.Ok.nofr(ok:X.Ok){b:Addr}{o:Obj}(e:X.base.get? b=some o):b ∉ X.fs:=fun hb=>by
 have:=(ok.funs.mem hb).1
 rw[e]at this;cases this
theorem Inv.bs(I:Inv X pins σ H s):∀ b o,X.base.get? b=some o→s.heap.get? b=some o∧H b=none:=fun b o e =>
 ⟨I.base.keep b o (I.ok.bs b o e).1 (I.ok.bs b o e).2 (I.ok.nofr e) (I.ok.noex b o e),I.base.free b o (I.ok.bs b o e).1 (I.ok.bs b o e).2 (I.ok.noex b o e)⟩
theorem Inv.bk(I:Inv X pins σ H s):∀ b o,X.base.get? b=some o→s.heap.get? b=some o:=fun b o e=>(I.bs b o e).1
theorem Inv.mod(I:Inv X pins σ H s):Mod X.K X.mg X.base:=I.ok.mod
theorem Inv.kIn(I:Inv X pins σ H s):X.K.In s.heap:=I.ok.mod.kin.keeps I.bk
theorem Inv.nolimit(I:Inv X pins σ H s):s.heap.NoLimit:=I.ok.mod.nolimit.keeps I.bk
theorem Inv.fr(I:Inv X pins σ H s):∃ m,Fr X.base X.env.locals s.heap m :=
 let ⟨m,hn,_⟩:=I.loc
 ⟨m,hn,I.bk,Nat.le_trans I.ok.bsz I.ok.above⟩
theorem Inv.lt(I:Inv X pins σ H s):X.env.locals<s.heap.objs.size:=let ⟨_,hn,_⟩:=I.loc;hn.lt
theorem Inv.sz(I:Inv X pins σ H s):X.s₀.heap.objs.size≤s.heap.objs.size:=Nat.le_trans I.ok.above (Nat.le_of_lt I.lt)
theorem Inv.nofs(I:Inv X pins σ H s){a:Addr}(h:s.heap.objs.size≤a):a ∉ X.fs:=fun hb=>by
 obtain⟨_,o,ho,_⟩:=I.ok.funs.mem hb
 exact absurd (Nat.lt_of_lt_of_le (Heap.lt_size ho) (Nat.le_trans I.sz h)) (Nat.lt_irrefl _)
theorem Inv.cne(I:Inv X pins σ H s):∀ x c,X.env.cells.lookup x=some c→c≠X.env.locals:=fun x c e z=>by
 obtain⟨v,o,ho,hd⟩:=I.cell x c e
 obtain⟨m,⟨o',es,ep,ho',hd',_⟩,_⟩:=I.loc
 rw[z,ho']at ho;cases ho;rw[hd']at hd;cases hd
theorem Inv.funs(I:Inv X pins σ H s):s.heap.FunFrames X.base X.outer:=by
 have all:∀(l:List Env),(∀ b∈frs l,b∈X.fs)→X.s₀.heap.FunFrames X.base l→s.heap.FunFrames X.base l:=by
  intro l
  induction l with
  | nil=>intro _ _;trivial
  | cons env r ih =>
   intro hs hl
   obtain⟨hk,⟨L,o,hf,hn,ho,hd⟩,hr⟩:=hl
   have hL:L∈X.fs:=hs L (by unfold frs;rw[List.filterMap_cons,hf];exact List.mem_cons_self)
   obtain⟨sl,e⟩:=I.base.slot L o ho (I.ok.frf L hL) hL fun z=>I.ok.exfs L z hL
   exact⟨hk,⟨L,_,hf,hn,e,hd⟩,ih (fun b hb=>hs b (by unfold frs;rw[List.filterMap_cons,hf];exact List.mem_cons_of_mem _ hb)) hr⟩
 exact all X.outer (fun _ hb=>hb) I.ok.funs
theorem Inv.stack(I:Inv X pins σ H s):s.heap.FunFrames X.base X.stack:=by
 rcases I.ok.stk with e|⟨e,hf⟩
 · rw[e];exact I.funs
 · rw[e]
   obtain⟨m,hn,_⟩:=I.loc
   refine .cons (by rw[I.ok.kind];decide) hf hn ?_ I.funs
   exact Heap.get?_none_of_le (Nat.le_trans I.ok.bsz I.ok.above)
theorem Inv.stkSub(I:Inv X pins σ H s):∀ b∈frs X.stack,b∈X.env.locals::X.fs:=fun b hb=>by
 rcases I.ok.stk with e|⟨e,hf⟩
 · rw[e]at hb;exact List.mem_cons_of_mem _ hb
 · rw[e]at hb
   unfold frs at hb
   rw[List.filterMap_cons,hf]at hb
   exact hb
theorem Inv.stkFree(I:Inv X pins σ H s):∀ b∈frs X.stack,H b=none:=fun b hb=>by
 rcases List.mem_cons.mp (I.stkSub b hb)with e|hb
 · rw[e];exact I.free
 · obtain⟨_,o,ho,_⟩:=I.ok.funs.mem hb
   exact I.base.free b o ho (I.ok.frf b hb) fun z=>I.ok.exfs b z hb
theorem Inv.step{g':Array GenState}{t':Nat}{d':Drawn}{ch:List Addr}(I:Inv X pins σ H s)
   (hch:∀ b∈ch,(b∈X.ex∨X.s₀.heap.objs.size≤b)∧b≠X.env.locals∧(∀ x c,X.env.cells.lookup x=some c→c≠b)∧∀ p∈X.pn++pins,p.1≠b)
   (keep:∀ b o,b≠X.env.locals→b ∉ X.fs→b ∉ ch→s.heap.get? b=some o→H b=none→h'.get? b=some o)
   (slot:∀ b o,b≠X.env.locals→b∈X.fs→b ∉ ch→s.heap.get? b=some o→H b=none→∃ sl,h'.get? b=some { o with slots:=sl }) (free:∀ b o,b ∉ ch→s.heap.get? b=some o→H b=none→H' b=none)
   (there:∀ b o,b ∉ ch→s.heap.get? b=some o→∃ o',h'.get? b=some o')
   (tups:∀ b xs,H b=some (.tup xs)→H' b=some (.tup xs)) (frzs:∀ b o u,H b=some (.frz o u)→H' b=some (.frz o u)) (tbls:∀ b ps,H b=some (.tbl ps)→∃ more,H' b=some (.tbl (ps++more)))
   (ns:∀ m,s.heap.Ns X.env.locals m→h'.Ns X.env.locals m) (hok:HOk X.prog X.w H' h') (hg:AllBare g') :
   Inv X pins σ H' { s with heap:=h',gens:=g',drawn:=d',toks:=t' }:=by
 have neL:∀ b o,X.s₀.heap.get? b=some o→b≠X.env.locals:=fun b o e=>Nat.ne_of_lt (Nat.lt_of_lt_of_le (Heap.lt_size e) I.ok.above)
 have neC:∀ b o,X.s₀.heap.get? b=some o→b ∉ X.ex→b ∉ ch:=fun b o e hx hb=>by
   rcases(hch b hb).1 with z|z
   · exact hx z
   · exact absurd (Nat.lt_of_lt_of_le (Heap.lt_size e) z) (Nat.lt_irrefl _)
 have cellK:∀ x c,X.env.cells.lookup x=some c→∀ v,s.heap.IsCell c v→h'.IsCell c v:=fun x c e v hZ=>hZ.elim fun o hZ=>hZ.elim fun ho hd=>by
   have nch:c ∉ ch:=fun z=>(hch c z).2.2.1 x c e rfl
   by_cases hc:c∈X.fs
   · obtain⟨sl,q⟩:=slot c o (I.cne x c e) hc nch ho (I.freeC x c e)
     exact⟨_,q,hd⟩
   · exact⟨o,keep c o (I.cne x c e) hc nch ho (I.freeC x c e),hd⟩
 refine⟨I.ok,I.os,hg,⟨fun b o e n hb hx=>?_,fun b o e n hb hx=>?_,fun b o e n hx=>?_,fun b o e hx=>?_,fun b xs e=>tups b xs (I.base.tups b xs e),fun b o xs e=>frzs b o xs (I.base.frzs b o xs e),fun b ps e=>?_⟩,?_,fun x c e=>?_,?_,fun x c e=>?_,fun p hp=>?_,hok,I.len⟩
 · exact keep b o (neL b o e) hb (neC b o e hx) (I.base.keep b o e n hb hx) (I.base.free b o e n hx)
 · obtain⟨sl,e1⟩:=I.base.slot b o e n hb hx
   obtain⟨sl',e2⟩:=slot b _ (neL b o e) hb (neC b o e hx) e1 (I.base.free b o e n hx)
   exact⟨sl',e2⟩
 · obtain⟨o',e1⟩:=I.base.there b o e hx
   exact free b o' (neC b o e hx) e1 (I.base.free b o e n hx)
 · obtain⟨o',e1⟩:=I.base.there b o e hx
   exact there b o' (neC b o e hx) e1
 · obtain⟨m1,e1⟩:=I.base.tbls b ps e
   obtain⟨m2,e2⟩:=tbls b _ e1
   exact⟨m1++m2,by rw[e2,Array.append_assoc]⟩
 · obtain⟨m,hn,hl⟩:=I.loc
   refine⟨m,ns m hn,fun i x v e1 e2 e3=>?_⟩
   obtain⟨u,r,l⟩:=hl i x v e1 e2 e3
   refine⟨u,r,?_⟩
   rcases l with l|⟨k,c,e,z⟩
   · exact .inl l
   · exact .inr ⟨k,c,e,cellK x c e _ z⟩
 · obtain⟨v,z⟩:=I.cell x c e
   exact⟨v,cellK x c e v z⟩
 · obtain⟨m,⟨o,_,_,ho,_⟩,_⟩:=I.loc
   exact free _ o (fun z=>(hch _ z).2.1 rfl) ho I.free
 · obtain⟨v,o,ho,hd⟩:=I.cell x c e
   exact free c o (fun z=>(hch c z).2.2.1 x c e rfl) ho (I.freeC x c e)
 · obtain⟨e,n,ne,nf,d⟩:=I.pin p hp
   have nch:p.1 ∉ ch:=fun z=>(hch p.1 z).2.2.2 p hp rfl
   exact⟨keep p.1 p.2 ne nf nch e n,free p.1 p.2 nch e n,ne,nf,d⟩
theorem Inv.un{t':Nat}(I:Inv X pins σ H s)(u:Un X.fs [] H H' s.heap h')(hok:HOk X.prog X.w H' h'):Inv X pins σ H' { s with heap:=h',toks:=t' }:=by
 obtain⟨m,⟨o,es,ep,ho,r⟩,_⟩:=id I.loc
 obtain⟨sl,hL⟩:=u.any ho I.free (by simp)
 exact I.step (g':=s.gens) (d':=s.drawn) (ch:=[]) (fun _ z=>nomatch z) (fun b o _ hb _ e n=>u.keep b o e n hb (by simp)) (fun b o _ hb _ e n=>u.slot b o e n hb (by simp)) (fun b o _ e n=>u.free b o e n (by simp)) (fun b o _ e=>u.there b o e (by simp)) u.tups u.frzs u.tbls (fun m' hm=>by
  obtain⟨o',es',ep',ho',r'⟩:=hm
  rw[ho]at ho';cases ho'
  exact⟨_,es',ep',hL,r'⟩) hok I.bare
theorem Inv.call{g':Array GenState}{t':Nat}{d':Drawn}{ch:List Addr}(I:Inv X pins σ H s)(u:Un (frs X.stack) ch H H' s.heap h')(hok:HOk X.prog X.w H' h')(hg:AllBare g')
  (hch:∀ b∈ch,(b∈X.ex∨X.s₀.heap.objs.size≤b)∧b≠X.env.locals∧(∀ x c,X.env.cells.lookup x=some c→c≠b)∧∀ p∈X.pn++pins,p.1≠b) :
  Inv X pins σ H' { s with heap:=h',gens:=g',drawn:=d',toks:=t' }:=by
 obtain⟨m,⟨o,es,ep,ho,r⟩,_⟩:=id I.loc
 obtain⟨sl,hL⟩:=u.any ho I.free fun z=>(hch _ z).2.1 rfl
 exact I.step (ch:=ch) hch (fun b o hL hb hc e n=>u.keep b o e n (fun z=>(List.mem_cons.mp (I.stkSub b z)).elim hL hb) hc) (fun b o _ _ hc e n=>u.any e n hc) (fun b o hc e n=>u.free b o e n hc) (fun b o hc e=>u.there b o e hc) u.tups u.frzs u.tbls (fun m' hm=>by
  obtain⟨o',es',ep',ho',r'⟩:=hm
  rw[ho]at ho';cases ho'
  exact⟨_,es',ep',hL,r'⟩) hok hg
theorem Inv.turned{t':Nat}{it:Addr}(I:Inv X pins σ H s)(k:∀ b o,b≠it→s.heap.get? b=some o→h'.get? b=some o)(hn:H it=none)(hL:it≠X.env.locals)
   (h1:it∈X.ex∨X.s₀.heap.objs.size≤it) (h2:∀ x c,X.env.cells.lookup x=some c→c≠it) (h3:∀ p∈X.pn++pins,p.1≠it):Inv X pins σ H { s with heap:=h',toks:=t' }:=by
 have nit:∀ b u,H b=some u→b≠it:=fun b u e z=>by rw[z,hn]at e;cases e
 refine I.step (g':=s.gens) (d':=s.drawn) (ch:=[it]) (fun b hb=>?_) (fun b o _ _ hc e _=>k b o (fun z=>hc (by simp[z])) e) (fun b o _ _ hc e _=>⟨o.slots,k b o (fun z=>hc (by simp[z])) e⟩) (fun _ _ _ _ n=>n)
   (fun b o hc e=>⟨o,k b o (fun z=>hc (by simp[z])) e⟩) (fun _ _ e=>e) (fun _ _ _ e=>e) (fun b ps e=>⟨#[],by rw[e];simp⟩) (fun m hm=>?_) (fun b u e=>?_) I.bare
 · have e:b=it:=by simpa using hb
   subst e
   exact⟨h1,hL,h2,h3⟩
 · obtain⟨o,es,ep,ho,r⟩:=hm
   exact⟨o,es,ep,k _ o (Ne.symm hL) ho,r⟩
 · refine(I.hok b u e).stay (fun c v hc q=>k c v ?_ q) (fun _ q=>q) fun _ _ q=>q
   rcases hc with z|z
   · rw[z];exact nit b u e
   · exact nit c _ z
theorem Inv.tok(I:Inv X pins σ H s)(t:Nat):Inv X pins σ H { s with toks:=t }:=I.un (h':=s.heap) (t':=t) Un.refl I.hok
theorem Inv.kept{t':Nat}(I:Inv X pins σ H s)(k:∀ b u,s.heap.get? b=some u→h'.get? b=some u):Inv X pins σ H { s with heap:=h',toks:=t' }:=I.un (Un.kept k) (I.hok.kept k)
theorem Inv.laid{a:Addr}{o:HO}{t':Nat}(I:Inv X pins σ H s)(k:∀ b u,s.heap.get? b=some u→h'.get? b=some u)(hp:s.heap.objs.size≤a)(new:ObjOk X.prog X.w (upd H a o) h' a o):
 Inv X pins σ (upd H a o) { s with heap:=h',toks:=t' }:=I.un (Un.laid k hp (I.hok.fresh hp)) (I.hok.laid k hp new)
theorem Inv.write{x e:Addr}{o:HO}{t':Nat}(I:Inv X pins σ H s)(mu:Mut (H x))(he:e=x∨H e=some (.own x))(k:∀ b u,b≠e→s.heap.get? b=some u→h'.get? b=some u)(heo:∃ u,h'.get? e=some u)
 (new:ObjOk X.prog X.w (upd H x o) h' x o):Inv X pins σ (upd H x o) { s with heap:=h',toks:=t' }:=I.un (Un.write mu he k heo) (I.hok.write mu he k heo new)
theorem Inv.weak{σ':List (Option V)}(I:Inv X pins σ H s)(hl:σ'.length=σ.length)(w:∀(i:Nat) v,σ'[i]?=some (some v)→σ[i]?=some (some v)):Inv X pins σ' H s :=
 ⟨I.ok,I.os,I.bare,I.base,let ⟨m,hn,hl'⟩:=I.loc;⟨m,hn,fun i x v e1 e2 e3=>hl' i x v e1 (w i v e2) e3⟩,I.cell,I.free,I.freeC,I.pin,I.hok,hl.trans I.len⟩
theorem Inv.pins_of{pins':List (Addr×Obj)}(I:Inv X pins σ H s)(h:∀ p∈pins',s.heap.get? p.1=some p.2∧H p.1=none∧p.1≠X.env.locals∧p.1 ∉ X.fs∧∀ v,p.2.data ≠ .cell v):Inv X pins' σ H s :=
 ⟨I.ok,I.os,I.bare,I.base,I.loc,I.cell,I.free,I.freeC,fun p hp=>(List.mem_append.mp hp).elim (fun z=>I.pin p (List.mem_append_left _ z)) (h p),I.hok,I.len⟩
theorem zbc{N:List Str}(hN:N.Nodup){i j:Nat}{x:Str}(a:N[i]?=some x)(b:N[j]?=some x):i=j:=by
 obtain⟨h1,e1⟩:=List.getElem?_eq_some_iff.mp a
 obtain⟨h2,e2⟩:=List.getElem?_eq_some_iff.mp b
 exact(List.getElem_inj hN).mp (e1.trans e2.symm)
theorem z96{M:Model}{A:Around}{E:Value→Shared→Prop}{i:Nat}{x:Str}{v:V}{u:Value}{Q:Unit→Shared→Prop}(I:Inv X pins σ H s)(hN:X.N.Nodup)(hi:X.N[i]?=some x)(hx:Loc X.env.scope x)(r:RelV v u)
   (h:∀ s',Inv X pins (σ.set i (some v)) H s'→(∃ a,Heap.SameBut a s.heap s'.heap∧(a=X.env.locals∨X.env.cells.lookup x=some a))→Q () s') (hf:X.fn x=true∨X.env.scope.names.lookup x=some .local:=by first|exact .inl rfl|exact .inr rfl|assumption):wpAny M A (storeName X.env x u) Q E s:=by
 obtain⟨m,hn,hl⟩:=id I.loc
 have hcls:(X.env.scope.kind == .class||(X.env.scope.kind == .module&&X.env.locals != X.env.globals))=false:=by rw[I.ok.kind];rfl
 have hiσ:i<σ.length:=by rw[I.len];exact(List.getElem?_eq_some_iff.mp hi).1
 have cne:=I.cne
 have tracked:∀{a:Addr} {h':Heap},(∃ o,s.heap.get? a=some o∧H a=none)→Heap.SameBut a s.heap h'→HOk X.prog X.w H h':=fun{a h'} ha hs b ob e=>by
   obtain⟨_,_,hfree⟩:=ha
   refine(I.hok b ob e).stay (fun c w' hc q=>(hs.2 c ?_).trans q) (fun _ q=>q) fun _ _ q=>q
   rintro rfl
   rcases hc with rfl|hc
   · rw[hfree]at e;cases e
   · rw[hfree]at hc;cases hc
 rcases hx with hk|hk
 · refine wpAny_storeName_local hk hn (fun h' hn' hs=>?_) hcls
   obtain⟨oL,_,_,hoL,_⟩:=id hn
   refine h _ ⟨I.ok,I.os,I.bare,⟨fun b o e n hb hx=>?_,fun b o e n hb hx=>?_,I.base.free,fun b o e hx=>?_,I.base.tups,I.base.frzs,I.base.tbls⟩,⟨_,hn',fun j y v' e1 e2 e3=>?_⟩,fun y c e=>?_,I.free,I.freeC,fun p hp=>?_,tracked ⟨oL,hoL,I.free⟩ hs,by simpa using I.len⟩ ⟨_,hs,.inl rfl⟩
   · exact(hs.2 b (Nat.ne_of_lt (Nat.lt_of_lt_of_le (Heap.lt_size e) I.ok.above))).trans (I.base.keep b o e n hb hx)
   · obtain⟨sl,e1⟩:=I.base.slot b o e n hb hx
     exact⟨sl,(hs.2 b (Nat.ne_of_lt (Nat.lt_of_lt_of_le (Heap.lt_size e) I.ok.above))).trans e1⟩
   · obtain⟨o',e1⟩:=I.base.there b o e hx
     exact⟨o',(hs.2 b (Nat.ne_of_lt (Nat.lt_of_lt_of_le (Heap.lt_size e) I.ok.above))).trans e1⟩
   · by_cases hj:j=i
     · subst hj
       rw[hi]at e1;cases e1
       rw[List.getElem?_set_self hiσ]at e2
       cases e2
       exact⟨u,r,.inl ⟨hk,by simp⟩⟩
     · rw[List.getElem?_set_ne (Ne.symm hj)]at e2
       obtain⟨u',r',q⟩:=hl j y v' e1 e2 e3
       refine⟨u',r',?_⟩
       rcases q with⟨k,e⟩|⟨k,c,e,z⟩
       · refine .inl ⟨k,?_⟩
         have:y≠x:=fun e=>hj (zbc hN e1 (e ▸ hi))
         simp[this,e]
       · exact .inr ⟨k,c,e,z.sameBut hs (cne y c e)⟩
   · obtain⟨w',z⟩:=I.cell y c e
     exact⟨w',z.sameBut hs (cne y c e)⟩
   · obtain⟨e,n,ne,nf,d⟩:=I.pin p hp
     exact⟨(hs.2 p.1 ne).trans e,n,ne,nf,d⟩
 · have hfn:X.fn x=true:=by
     rcases hf with z|z
     · exact z
     · rw[z]at hk;cases hk
   obtain⟨c,hc⟩:=I.ok.has x (.inl hk)
   obtain⟨w',z⟩:=I.cell x c hc
   refine wpAny_storeName_cell I.ok.kind hk hc z (fun h' hc' hs=>?_)
   obtain⟨oc,hoc,hocd⟩:=id z
   refine h { s with heap:=h' } ⟨I.ok,I.os,I.bare,⟨fun b o e n hb hx=>?_,fun b o e n hb hx=>?_,I.base.free,fun b o e hx=>?_,I.base.tups,I.base.frzs,I.base.tbls⟩,⟨m,hn.sameBut hs (Ne.symm (cne x c hc)),fun j y v' e1 e2 e3=>?_⟩,fun y c' e=>?_,I.free,I.freeC,fun p hp=>?_,tracked ⟨oc,hoc,I.freeC x c hc⟩ hs,by simpa using I.len⟩ ⟨c,hs,.inr hc⟩
   · exact(hs.2 b (Nat.ne_of_lt (Nat.lt_of_lt_of_le (Heap.lt_size e) (I.ok.cab x c hfn hc)))).trans (I.base.keep b o e n hb hx)
   · obtain⟨sl,e1⟩:=I.base.slot b o e n hb hx
     exact⟨sl,(hs.2 b (Nat.ne_of_lt (Nat.lt_of_lt_of_le (Heap.lt_size e) (I.ok.cab x c hfn hc)))).trans e1⟩
   · obtain⟨o',e1⟩:=I.base.there b o e hx
     exact⟨o',(hs.2 b (Nat.ne_of_lt (Nat.lt_of_lt_of_le (Heap.lt_size e) (I.ok.cab x c hfn hc)))).trans e1⟩
   · by_cases hj:j=i
     · subst hj
       rw[hi]at e1;cases e1
       rw[List.getElem?_set_self hiσ]at e2
       cases e2
       exact⟨u,r,.inr ⟨.inl hk,c,hc,hc'⟩⟩
     · rw[List.getElem?_set_ne (Ne.symm hj)]at e2
       obtain⟨u',r',q⟩:=hl j y v' e1 e2 e3
       refine⟨u',r',?_⟩
       rcases q with q|⟨k,c',e,z'⟩
       · exact .inl q
       · refine .inr ⟨k,c',e,z'.sameBut hs ?_⟩
         rintro rfl
         exact hj (zbc hN e1 (I.ok.inj _ _ _ e hc ▸ hi))
   · by_cases hcc:c'=c
     · subst hcc;exact⟨_,hc'⟩
     · obtain⟨w2,z2⟩:=I.cell y c' e
       exact⟨w2,z2.sameBut hs hcc⟩
   · obtain⟨e,n,ne,nf,d⟩:=I.pin p hp
     refine⟨(hs.2 p.1 ?_).trans e,n,ne,nf,d⟩
     intro q
     rw[q,hoc]at e
     have q':oc=p.2:=Option.some.inj e
     exact d w' (by rw[←q'];exact hocd)
theorem zbd{M:Model}{A:Around}{E:Value→Shared→Prop}{i:Nat}{x:Str}{v:V}{u:Value}{Q:Unit→Shared→Prop}(I:Inv X pins σ H s)(hN:X.N.Nodup)(hi:X.N[i]?=some x)(hx:Loc X.env.scope x)(r:RelV v u)
  (h:∀ s',Inv X pins (σ.set i (some v)) H s'→Q () s') (hf:X.fn x=true∨X.env.scope.names.lookup x=some .local:=by first|exact .inl rfl|exact .inr rfl|assumption):wpAny M A (storeName X.env x u) Q E s :=
 z96 I hN hi hx r (fun s' I' _=>h s' I') hf
theorem Inv.call'{s':Shared}{ch:List Addr}(I:Inv X pins σ H s)(ho:s'.os=s.os)(u:Un (frs X.stack) ch H H' s.heap s'.heap)(hok:HOk X.prog X.w H' s'.heap)(hg:AllBare s'.gens)
  (hch:∀ b∈ch,(b∈X.ex∨X.s₀.heap.objs.size≤b)∧b≠X.env.locals∧(∀ x c,X.env.cells.lookup x=some c→c≠b)∧∀ p∈X.pn++pins,p.1≠b):Inv X pins σ H' s':=by
 obtain⟨h',g',d',t',o'⟩:=s'
 have e:o'=s.os:=ho
 subst e
 exact I.call (g':=g') (t':=t') (d':=d') u hok hg hch
end
abbrev XK:=Value→Option Addr→Hp→Prop
abbrev St:=List (Option V)
abbrev VK:=V→Hp→Prop
abbrev TE:=St→Hp→VK→Prop
abbrev TT:=St→Hp→(Bool→Hp→Prop)→Prop
abbrev TA:=St→Hp→(List V→Hp→Prop)→Prop
structure Ends where
 nx:St→Hp→Prop
 rt:VK
 bk:St→Hp→Prop:=fun _ _=>False
 ct:St→Hp→Prop:=fun _ _=>False
abbrev TS:=Ends→St→Hp→Prop
def EP(X:Cx)(pins:List (Addr×Obj))(σ:St)(Q:VK)(u:Value)(s':Shared):Prop:=∃ v H',Inv X pins σ H' s'∧RelV v u∧Q v H'
def TP(X:Cx)(pins:List (Addr×Obj))(σ:St)(Q:Bool→Hp→Prop)(b:Bool)(s':Shared):Prop:=∃ H',Inv X pins σ H' s'∧Q b H'
def AP(X:Cx)(pins:List (Addr×Obj))(σ:St)(Q:List V→Hp→Prop)(us:List Value)(s':Shared):Prop:=∃ vs H',Inv X pins σ H' s'∧Vals vs us∧Q vs H'
def SP(X:Cx)(pins:List (Addr×Obj))(D:Ends)(f:Flow)(s':Shared):Prop :=
 match f with
 | .next=>∃ σ' H',Inv X pins σ' H' s'∧D.nx σ' H'
 | .brk=>∃ σ' H',Inv X pins σ' H' s'∧D.bk σ' H'
 | .cont=>∃ σ' H',Inv X pins σ' H' s'∧D.ct σ' H'
 | .ret u=>∃ v σ' H',Inv X pins σ' H' s'∧RelV v u∧D.rt v H'
def PE(X:Cx)(e:Expr)(t:TE):Prop :=
 ∀(pins:List (Addr×Obj)) (s:Shared) (σ:St) (H:Hp) (Q:VK),Inv X pins σ H s→t σ H Q→wpAny (model X.prog X.w) X.A (eval e X.env) (EP X pins σ Q) X.xe s
def PT(X:Cx)(e:Expr)(t:TT):Prop :=
 ∀(pins:List (Addr×Obj)) (s:Shared) (σ:St) (H:Hp) (Q:Bool→Hp→Prop),Inv X pins σ H s→t σ H Q→wpAny (model X.prog X.w) X.A (isTrue e X.env (eval e X.env)) (TP X pins σ Q) X.xe s
def PW(X:Cx)(e:Expr)(t:TT):Prop :=
 ∀(whole:Sem Value) (pins:List (Addr×Obj)) (s:Shared) (σ:St) (H:Hp) (Q:Bool→Hp→Prop),Inv X pins σ H s→t σ H Q→wpAny (model X.prog X.w) X.A (isTrue e X.env whole) (TP X pins σ Q) X.xe s
theorem PW.pt{X:Cx}{e:Expr}{t:TT}(h:PW X e t):PT X e t:=h _
def PA(X:Cx)(es:List Expr)(t:TA):Prop :=
 ∀(pos:Pos) (pins:List (Addr×Obj)) (s:Shared) (σ:St) (H:Hp) (Q:List V→Hp→Prop),Inv X pins σ H s→t σ H Q→wpAny (model X.prog X.w) X.A (spliced (backTo pos (starEach es X.env))) (AP X pins σ Q) X.xe s
def PS(X:Cx)(st:Stmt)(t:TS):Prop :=
 ∀(pins:List (Addr×Obj)) (s:Shared) (σ:St) (H:Hp) (D:Ends),Inv X pins σ H s→t D σ H→wpAny (model X.prog X.w) X.A (exec st X.env) (SP X pins D) X.xe s
def PSs(X:Cx)(st:List Stmt)(t:TS):Prop :=
 ∀(pins:List (Addr×Obj)) (s:Shared) (σ:St) (H:Hp) (D:Ends),Inv X pins σ H s→t D σ H→wpAny (model X.prog X.w) X.A (execs st X.env) (SP X pins D) X.xe s
theorem thn{α:Type}{t:Sem α}{Q Q':α→Shared→Prop}{M:Model}{A:Around}{E:Value→Shared→Prop}{s:Shared}(h:wpAny M A t Q E s)(hQ:∀ a s,Q a s→Q' a s):wpAny M A t Q' E s:=wpAny_mono h hQ fun _ _ x=>x
end L2
namespace L2
open PySem PySem.Spec PyProof.Rows
section
variable {X:Cx}
def tVar(i:Nat):TE:=fun σ H Q=>∃ v,σ[i]?=some (some v)∧Q v H
def tC(v:V):TE:=fun _ H Q=>Q v H
theorem z56{i:Nat}{x:Str}{pos:Pos}(hN:X.N[i]?=some x)(hv:Vis X.env.scope x)(hd:(x==("__debug__" : Str))=false:=by decide)(hcd:(x==("__classdict__" : Str))=false:=by decide):PE X (.Name x pos) (tVar i):=by
 intro pins s σ H Q I h
 obtain⟨v,e,h⟩:=h
 obtain⟨m,hn,hl⟩:=I.loc
 obtain⟨u,r,l⟩:=hl i x v hN e hv
 have fin:EP X pins σ Q u s:=⟨v,H,I,r,h⟩
 rcases l with⟨hk,hm⟩|⟨hk,c,hc,hcell⟩
 · exact wpAny_Name (wpAny_loadName_local I.ok.kind hk hn hm fin) hd
 · rcases hk with hk|hk
   · exact wpAny_Name (wpAny_loadName_cell I.ok.kind hk hc hcell fin) hd
   · exact wpAny_Name (wpAny_loadName_free I.ok.kind hk hc hcell fin hcd) hd
theorem pe_int{i j pos}:PE X (.Constant (.int i) j pos) (tC (.int i)):=fun _ _ _ H _ I h=>wpAny_Constant_int ⟨.int i,H,I.tok _,⟨_,rfl⟩,h⟩
theorem pe_bl{b j pos}:PE X (.Constant (.bool b) j pos) (tC (.bl b)):=fun _ _ _ H _ I h=>Constant_bool ⟨.bl b,H,I,rfl,h⟩
theorem pe_non{j pos}:PE X (.Constant .none j pos) (tC .non):=fun _ _ _ H _ I h=>Constant_none ⟨.non,H,I,rfl,h⟩
def Gl(X:Cx)(x:Str):Prop:=X.env.kindOf x=some .globalImplicit
theorem zfS{E:Value→Shared→Prop}{pins:List (Addr×Obj)}{s:Shared}{σ:St}{H:Hp}{x:Str}{u:Value}{pos:Pos}{Q:Value→Shared→Prop}(I:Inv X pins σ H s)(hg:Gl X x)(hm:X.mg x=some u)(h:Q u s)
  (hd:(x==("__debug__" : Str))=false:=by decide):wpAny (model X.prog X.w) X.A (eval (.Name x pos) X.env) Q E s :=
 Calls.Name_function_global I.ok.kind hg (Calls.loadGlobal_global (by rw[I.ok.glob];exact I.mod.glob.keeps I.bk) hm h) hd
theorem z3u{E:Value→Shared→Prop}{pins:List (Addr×Obj)}{s:Shared}{σ:St}{H:Hp}{x:Str}{u:Value}{pos:Pos}{Q:Value→Shared→Prop}(I:Inv X pins σ H s)(hg:Gl X x)(hm:X.mg x=none)(hv:bootBuiltins x=some u)(h:Q u s)
  (hn:x ≠ "__name__" := by decide) (hd:(x==("__debug__" : Str))=false:=by decide):wpAny (model X.prog X.w) X.A (eval (.Name x pos) X.env) Q E s:=by
 obtain⟨mb,h1,h2⟩:=I.mod.blt
 exact Calls.Name_function_global I.ok.kind hg (Calls.loadGlobal_builtin (by rw[I.ok.glob];exact I.mod.glob.keeps I.bk) hm (by rw[I.ok.blt];exact h1.keeps I.bk) ((h2 x hn).trans hv) h) hd
theorem zfT{x:Str}{v:V}{u:Value}{pos:Pos}(hg:Gl X x)(hm:X.mg x=some u)(r:RelV v u)(hd:(x==("__debug__" : Str))=false:=by decide):PE X (.Name x pos) (tC v) :=
 fun _ _ _ H _ I h=>zfS I hg hm ⟨v,H,I,r,h⟩ hd
theorem zlk{x:Str}{v:V}{u:Value}{pos:Pos}(hg:Gl X x)(hm:X.mg x=none)(hv:bootBuiltins x=some u)(r:RelV v u)(hn:x ≠ "__name__" := by decide)(hd:(x==("__debug__" : Str))=false:=by decide):PE X (.Name x pos) (tC v) :=
 fun _ _ _ H _ I h=>z3u I hg hm hv ⟨v,H,I,r,h⟩ hn hd
variable {a b:Expr}{ta tb:TE}{pos:Pos}
variable {tA tB':TT}{rest:List Expr}
def tAnd(t u:TT):TT:=fun σ H Q=>t σ H fun c H1=>if c=true then u σ H1 Q else Q false H1
def tOr(t u:TT):TT:=fun σ H Q=>t σ H fun c H1=>if c=true then Q true H1 else u σ H1 Q
def tNot(t:TT):TT:=fun σ H Q=>t σ H fun c H1=>Q (!c) H1
theorem zll(ha:PT X a tA):PW X (.BoolOp .And [a] pos) tA:=by
 intro wh pins s σ H Q I h
 refine isTrue_and (thn (ha pins s σ H Q I h) fun c s1 e=>?_)
 cases c with
 | true=>exact isTrue_and_nil e
 | false=>exact e
theorem pw_or1(ha:PT X a tA):PW X (.BoolOp .Or [a] pos) tA:=by
 intro wh pins s σ H Q I h
 refine isTrue_or (thn (ha pins s σ H Q I h) fun c s1 e=>?_)
 cases c with
 | false=>exact isTrue_or_nil e
 | true=>exact e
theorem pw_and(ha:PT X a tA)(hb:PW X (.BoolOp .And (b::rest) pos) tB'):PW X (.BoolOp .And (a::b::rest) pos) (tAnd tA tB'):=by
 intro wh pins s σ H Q I h
 refine isTrue_and (thn (ha pins s σ H _ I h) ?_)
 rintro c s1 ⟨H1,I1,q1⟩
 cases c with
 | true=>exact hb wh pins s1 σ H1 Q I1 q1
 | false=>exact⟨H1,I1,q1⟩
theorem pw_or(ha:PT X a tA)(hb:PW X (.BoolOp .Or (b::rest) pos) tB'):PW X (.BoolOp .Or (a::b::rest) pos) (tOr tA tB'):=by
 intro wh pins s σ H Q I h
 refine isTrue_or (thn (ha pins s σ H _ I h) ?_)
 rintro c s1 ⟨H1,I1,q1⟩
 cases c with
 | true=>exact⟨H1,I1,q1⟩
 | false=>exact hb wh pins s1 σ H1 Q I1 q1
theorem pt_not(ha:PT X a tA):PT X (.UnaryOp .Not a pos) (tNot tA):=by
 intro pins s σ H Q I h
 exact isTrue_not (ha pins s σ H (fun c H1=>Q (!c) H1) I h)
def tAndV(ta tb:TE):TE:=fun σ H Q=>ta σ H fun x H1=>∃ c,x = .bl c∧if c=true then tb σ H1 Q else Q (.bl false) H1
def tNotV(ta:TE):TE:=fun σ H Q=>ta σ H fun x H1=>∃ c,x = .bl c∧Q (.bl (!c)) H1
theorem pe_one{op}{t:TE}(h:PE X a t):PE X (.BoolOp op [a] pos) t:=fun pins s σ H Q I hw=>BoolOp_one (h pins s σ H Q I hw)
theorem pe_and(ha:PE X a ta)(hb:PE X (.BoolOp .And (b::rest) pos) tb):PE X (.BoolOp .And (a::b::rest) pos) (tAndV ta tb):=by
 intro pins s σ H Q I h
 refine BoolOp_and (thn (ha pins s σ H _ I h) ?_)
 rintro v s1 ⟨x,H1,I1,r1,q1⟩
 obtain⟨c,rfl,q1⟩:=q1
 cases r1
 refine wpAny_truthy_bool ?_
 cases c with
 | true=>exact hb pins s1 σ H1 Q I1 q1
 | false=>exact⟨.bl false,H1,I1,rfl,q1⟩
theorem pe_not(ha:PE X a ta):PE X (.UnaryOp .Not a pos) (tNotV ta):=by
 intro pins s σ H Q I h
 refine UnaryOp_ (thn (ha pins s σ H _ I h) ?_)
 rintro v s1 ⟨x,H1,I1,r1,q1⟩
 obtain⟨c,rfl,q1⟩:=q1
 cases r1
 exact not_of (wpAny_truthy_bool ⟨.bl (!c),H1,I1,rfl,q1⟩)
def tIf(t:TT)(ta tb:TE):TE:=fun σ H Q=>t σ H fun c H1=>if c=true then ta σ H1 Q else tb σ H1 Q
theorem zhA{c:Expr}(hc:PT X c tA)(ha:PE X a ta)(hb:PE X b tb):PE X (.IfExp c a b pos) (tIf tA ta tb):=by
 intro pins s σ H Q I h
 refine wpAny_IfExp (thn (hc pins s σ H _ I h) ?_)
 rintro d s1 ⟨H1,I1,q1⟩
 cases d with
 | true=>exact ha pins s1 σ H1 Q I1 q1
 | false=>exact hb pins s1 σ H1 Q I1 q1
end
end L2
namespace L2
open PySem PySem.Spec PyProof.Rows
def SqL(K:PySem.W.Frag)(H:Hp)(a:Addr)(xs:List V):Prop :=
 Rd H a (.lst xs) ∨
  ∃(o:Obj) (its:Array Value) (n:Nat),K.lookup a=some o∧o.cls = .type "list" ∧ o.dict=none∧o.data = .seq its n∧its.size≤sizeLine∧Vals xs its.toList
def SqT(K:PySem.W.Frag)(H:Hp)(a:Addr)(xs:List V):Prop :=
 Rd H a (.tup xs) ∨
  ∃(o:Obj) (its:Array Value) (n:Nat),K.lookup a=some o∧o.cls = .type "tuple" ∧ o.data = .seq its n∧its.size≤sizeLine∧Vals xs its.toList
def absV:Value→Option V
 | .none=>some .non
 | .bool b=>some (.bl b)
 | .int i _=>some (.int i)
 | .str x _=>some (.str x)
 | .bytes b _=>some (.byt b)
 | .float b _=>some (.flt b)
 | .ref a=>some (.ref a)
 | .type n=>some (.ty n)
 | _=>none
theorem RelV.abs{x:V}{u:Value}(r:RelV x u):absV u=some x:=by
 cases x with
 | non=>cases r;rfl
 | bl _=>cases r;rfl
 | int _=>obtain⟨t,rfl⟩:=r;rfl
 | str _=>obtain⟨t,rfl⟩:=r;rfl
 | byt _=>obtain⟨t,rfl⟩:=r;rfl
 | flt _=>obtain⟨t,rfl⟩:=r;rfl
 | ref _=>cases r;rfl
 | ty _=>cases r;rfl
theorem RelV.inj{x y:V}{u:Value}(r:RelV x u)(q:RelV y u):x=y:=Option.some.inj (r.abs.symm.trans q.abs)
theorem Vals.inj:∀{xs ys:List V} {us:List Value},Vals xs us→Vals ys us→xs=ys
 | _,_,_,.nil,.nil=>rfl
 | _,_,_,.cons r t,.cons r' t'=>by rw[r.inj r',Vals.inj t t']
section
variable {X:Cx}{pins:List (Addr×Obj)}{σ:St}{H:Hp}{s:Shared}{a:Addr}{xs ys:List V}
theorem SqL.of{K:PySem.W.Frag}(h:H a=some (.lst xs)):SqL K H a xs := .inl (.inl h)
theorem SqT.of{K:PySem.W.Frag}(h:H a=some (.tup xs)):SqT K H a xs := .inl (.inl h)
theorem Inv.list(I:Inv X pins σ H s)(h:SqL X.K H a xs):∃ its:List Value,Vals xs its∧PlainL s.heap a its.toArray∧xs.length≤sizeLine:=by
 rcases h with h|⟨o,its,n,hk,hc,hd,hs,hz,r⟩
 · obtain⟨z,its,n,r,e⟩:=h.ok I.hok
   exact⟨its,r,⟨_,n,e,rfl,rfl,rfl⟩,z⟩
 · refine⟨its.toList,r,⟨o,n,I.kIn a o hk,hc,hd,by simpa using hs⟩,?_⟩
   have e:=r.length
   simp only[Array.length_toList]at e
   omega
theorem Inv.tuple(I:Inv X pins σ H s)(h:SqT X.K H a xs):∃ its:List Value,Vals xs its∧IsTup s.heap a its.toArray∧xs.length≤sizeLine:=by
 rcases h with h|⟨o,its,n,hk,hc,hs,hz,r⟩
 · obtain⟨z,its,r,p⟩:=h.ok I.hok
   exact⟨its,r,p,z⟩
 · refine⟨its.toList,r,⟨o,I.kIn a o hk,hc,n,by simpa using hs⟩,?_⟩
   have e:=r.length
   simp only[Array.length_toList]at e
   omega
theorem Inv.list_inj(I:Inv X pins σ H s)(h:SqL X.K H a xs)(h':SqL X.K H a ys):xs=ys:=by
 obtain⟨its,r,⟨o,n,e,_,_,d⟩,_⟩:=I.list h
 obtain⟨its',r',⟨o',n',e',_,_,d'⟩,_⟩:=I.list h'
 rw[e]at e';cases e'
 rw[d]at d'
 injection d' with d1 _
 have:its=its':=by simpa using congrArg Array.toList d1
 subst this
 exact r.inj r'
theorem Inv.tuple_inj(I:Inv X pins σ H s)(h:SqT X.K H a xs)(h':SqT X.K H a ys):xs=ys:=by
 obtain⟨its,r,⟨o,e,_,n,d⟩,_⟩:=I.tuple h
 obtain⟨its',r',⟨o',e',_,n',d'⟩,_⟩:=I.tuple h'
 rw[e]at e';cases e'
 rw[d]at d'
 injection d' with d1 _
 have:its=its':=by simpa using congrArg Array.toList d1
 subst this
 exact r.inj r'
end
abbrev Cx.wish(X:Cx)(E:Value→Shared→Prop):Cx:={ X with xe:=E }
abbrev Cx.nox(X:Cx):Cx:=X.wish fun _ _=>False
theorem Cx.Ok.wish{X:Cx}(ok:X.Ok)(E:Value→Shared→Prop):(X.wish E).Ok :=
 ⟨ok.mod,ok.kind,ok.glob,ok.blt,ok.above,ok.inj,ok.has,ok.cab,ok.hd,ok.frames,ok.stk,ok.exf,ok.bs,ok.bsz,ok.noex,ok.exfs,ok.funs,ok.frf⟩
theorem Cx.Ok.unwish{X:Cx}{E:Value→Shared→Prop}(ok:(X.wish E).Ok):X.Ok :=
 ⟨ok.mod,ok.kind,ok.glob,ok.blt,ok.above,ok.inj,ok.has,ok.cab,ok.hd,ok.frames,ok.stk,ok.exf,ok.bs,ok.bsz,ok.noex,ok.exfs,ok.funs,ok.frf⟩
section
variable {X:Cx}{pins:List (Addr×Obj)}{σ:St}{H:Hp}{s:Shared}{E:Value→Shared→Prop}
theorem Inv.wish(I:Inv X pins σ H s)(E:Value→Shared→Prop):Inv (X.wish E) pins σ H s:=⟨I.ok.wish E,I.os,I.bare,I.base,I.loc,I.cell,I.free,I.freeC,I.pin,I.hok,I.len⟩
theorem Inv.unwish(I:Inv (X.wish E) pins σ H s):Inv X pins σ H s:=⟨I.ok.unwish,I.os,I.bare,I.base,I.loc,I.cell,I.free,I.freeC,I.pin,I.hok,I.len⟩
theorem SP.unwish{D:Ends}{f:Flow}{s':Shared}(h:SP (X.wish E) pins D f s'):SP X pins D f s':=by
 cases f with
 | next=>obtain⟨σ',H',I,q⟩:=h;exact⟨σ',H',I.unwish,q⟩
 | brk=>obtain⟨σ',H',I,q⟩:=h;exact⟨σ',H',I.unwish,q⟩
 | cont=>obtain⟨σ',H',I,q⟩:=h;exact⟨σ',H',I.unwish,q⟩
 | ret u=>obtain⟨v,σ',H',I,r,q⟩:=h;exact⟨v,σ',H',I.unwish,r,q⟩
theorem PE.nox{e:Expr}{t:TE}(h:PE X.nox e t):PE X e t:=fun pins s σ H Q I hw =>
 wpAny_mono (h pins s σ H Q (I.wish _) hw) (fun _ _ hZ=>hZ.elim fun v hZ=>hZ.elim fun H' hZ=>hZ.elim fun I' hZ=>hZ.elim fun r q=>⟨v,H',I'.unwish,r,q⟩) fun _ _ z=>False.elim z
theorem PT.nox{e:Expr}{t:TT}(h:PT X.nox e t):PT X e t:=fun pins s σ H Q I hw =>
 wpAny_mono (h pins s σ H Q (I.wish _) hw) (fun _ _ hZ=>hZ.elim fun H' hZ=>hZ.elim fun I' q=>⟨H',I'.unwish,q⟩) fun _ _ z=>False.elim z
theorem PSs.nox{st:List Stmt}{t:TS}(h:PSs X.nox st t):PSs X st t:=fun pins s σ H D I hw =>
 wpAny_mono (h pins s σ H D (I.wish _) hw) (fun _ _ q=>q.unwish) fun _ _ z=>False.elim z
end
section
variable {X:Cx}{st:Stmt}{rest:List Stmt}{t u:TS}{e:Expr}{te:TE}{pos:Pos}
def tNext:TS:=fun D σ H=>D.nx σ H
def tSeq(t u:TS):TS:=fun D σ H=>t { D with nx:=u D } σ H
theorem zlm:PSs X [] tNext:=fun _ _ σ H _ I h=>wpAny_execs_nil ⟨σ,H,I,h⟩
theorem zhB(h1:PS X st t)(h2:PSs X rest u):PSs X (st::rest) (tSeq t u):=by
 intro pins s σ H D I h
 refine wpAny_execs_cons (thn (h1 pins s σ H { D with nx:=u D } I h) fun f s1 q=>?_)
 cases f with
 | next =>
  obtain⟨σ',H',I',q⟩:=q
  exact h2 pins s1 σ' H' D I' q
 | ret v=>exact q
 | brk=>exact q
 | cont=>exact q
theorem zln(h1:PS X st t):PSs X [st] t:=by
 intro pins s σ H D I h
 refine wpAny_execs_cons (thn (h1 pins s σ H D I h) fun f s1 q=>?_)
 cases f with
 | next=>exact wpAny_execs_nil q
 | ret v=>exact q
 | brk=>exact q
 | cont=>exact q
theorem Inv.quiet{pins:List (Addr×Obj)}{σ:St}{H:Hp}{s:Shared}(I:Inv X pins σ H s):interactive X.env=false:=by simp[interactive,I.ok.kind]
def tDrop(te:TE):TS:=fun D σ H=>te σ H fun _ H1=>D.nx σ H1
theorem zaq(he:PE X e te)(hs:swapsWith e none pos.line X.env=pure false:=by rfl):PS X (.Expr e pos) (tDrop te):=by
 intro pins s σ H D I h
 exact wpAny_Expr_any (thn (he pins s σ H _ I h) fun v s1 hZ=>hZ.elim fun x hZ=>hZ.elim fun H1 hZ=>hZ.elim fun I1 hZ=>hZ.elim fun r1 q1=>⟨σ,H1,I1,q1⟩) I.quiet hs
def tRet(te:TE):TS:=fun D σ H=>te σ H D.rt
theorem ps_ret(he:PE X e te):PS X (.Return (some e) pos) (tRet te):=by
 intro pins s σ H D I h
 exact wpAny_Return_some (thn (he pins s σ H _ I h) fun v s1 hZ=>hZ.elim fun x hZ=>hZ.elim fun H1 hZ=>hZ.elim fun I1 hZ=>hZ.elim fun r1 q1=>⟨x,σ,H1,I1,r1,q1⟩)
def tIfS(c:TT)(t u:TS):TS:=fun D σ H=>c σ H fun b H1=>if b=true then t D σ H1 else u D σ H1
theorem ps_if{c:Expr}{a b:List Stmt}{tc:TT}(hc:PT X c tc)(ha:PSs X a t)(hb:PSs X b u):PS X (.If c a b pos) (tIfS tc t u):=by
 intro pins s σ H D I h
 refine wpAny_If (thn (hc pins s σ H _ I h) ?_)
 rintro d s1 ⟨H1,I1,q1⟩
 cases d with
 | true=>exact ha pins s1 σ H1 D I1 q1
 | false=>exact hb pins s1 σ H1 D I1 q1
end
abbrev TG:=V→St→Hp→(St→Hp→Prop)→Prop
abbrev TGs:=List V→St→Hp→(St→Hp→Prop)→Prop
def PG(X:Cx)(target:Expr)(t:TG):Prop :=
 ∀(pins:List (Addr×Obj)) (s:Shared) (σ:St) (H:Hp) (v:V) (u:Value) (Q:St→Hp→Prop),Inv X pins σ H s→RelV v u→t v σ H Q →
  wpAny (model X.prog X.w) X.A (assign target X.env u) (fun _ s'=>∃ σ' H',Inv X pins σ' H' s'∧Q σ' H') X.xe s
def PGs(X:Cx)(ts:List Expr)(t:TGs):Prop :=
 ∀(pins:List (Addr×Obj)) (s:Shared) (σ:St) (H:Hp) (vs:List V) (us:List Value) (Q:St→Hp→Prop),Inv X pins σ H s→Vals vs us→t vs σ H Q →
  wpAny (model X.prog X.w) X.A (assignInOrder ((assignEach ts X.env).map (·.2)) us) (fun _ s'=>∃ σ' H',Inv X pins σ' H' s'∧Q σ' H') X.xe s
abbrev TSet:=V→V→V→Hp→(Hp→Prop)→Prop
def PSet(X:Cx)(t:TSet):Prop :=
 ∀(pins:List (Addr×Obj)) (s:Shared) (σ:St) (H:Hp) (o i v:V) (ov iv u:Value) (Q:Hp→Prop),Inv X pins σ H s→RelV o ov→RelV i iv→RelV v u→t o i v H Q →
  wpAny (model X.prog X.w) X.A (setItem ov iv u) (fun _ s'=>∃ H',Inv X pins σ H' s'∧Q H') X.xe s
section
variable {X:Cx}{pos:Pos}
def z7F(i:Nat):TG:=fun v σ H Q=>Q (σ.set i (some v)) H
theorem z1R{i:Nat}{x:Str}(hN:X.N.Nodup)(hi:X.N[i]?=some x)(hx:Loc X.env.scope x)(hf:X.fn x=true∨X.env.scope.names.lookup x=some .local:=by first|exact .inl rfl|exact .inr rfl|assumption):PG X (.Name x pos) (z7F i):=by
 intro pins s σ H v u Q I r h
 exact wpAny_assign_Name (zbd I hN hi hx r (fun s' I'=>⟨_,H,I',h⟩) hf)
def gNil:TGs:=fun vs σ H Q=>vs=[]∧Q σ H
def gCons(t:TG)(u:TGs):TGs:=fun vs σ H Q=>∃ v r,vs=v::r∧t v σ H fun σ' H'=>u r σ' H' Q
theorem zlo:PGs X [] gNil:=by
 intro pins s σ H vs us Q I r h
 obtain⟨e,h⟩:=h
 subst e
 cases r
 exact assignInOrder_nil ⟨σ,H,I,h⟩
theorem zhC{e:Expr}{es:List Expr}{t:TG}{u:TGs}(h1:PG X e t)(h2:PGs X es u)
  (hs:(assignEach (e::es) X.env).map (·.2)=assign e X.env::(assignEach es X.env).map (·.2):=by rfl):PGs X (e::es) (gCons t u):=by
 intro pins s σ H vs us Q I r h
 obtain⟨v,vr,e1,h⟩:=h
 subst e1
 cases r with
 | cons r rr =>
  rw[hs]
  refine assignInOrder_cons (thn (h1 pins s σ H _ _ _ I r h) ?_)
  rintro _ s1 ⟨σ1,H1,I1,q1⟩
  exact h2 pins s1 σ1 H1 _ _ Q I1 rr q1
def gTup(K:PySem.W.Frag)(n:Nat)(t:TGs):TG:=fun v σ H Q=>∃ a xs,v = .ref a∧SqT K H a xs∧xs.length=n∧t xs σ H Q
theorem pg_tup{es:List Expr}{k:Nat}{t:TGs}{n:Nat}(hc:X.calm=true)(h:PGs X es t)
  (hn:(assignEach es X.env).length=n:=by rfl) (hst:(assignEach es X.env).findIdx? (·.1)=none:=by rfl):PG X (.Tuple es k pos) (gTup X.K n t):=by
 intro pins s σ H v u Q I r hw
 obtain⟨a,xs,e1,hq,hl,hw⟩:=hw
 subst e1
 cases r
 obtain⟨its,rv,ht,hz⟩:=I.tuple hq
 refine assign_Tuple_tuple (I.ok.hd hc) ht (by simp[hn,←hl,rv.length]) hst fun h' hx=>?_
 have I1:Inv X pins σ H { s with heap:=h' }:=I.kept (t':=s.toks) fun b o e=>hx b o (Nat.ne_of_lt (Heap.lt_size e)) e
 exact h pins _ σ H xs _ Q I1 (by simpa using rv) hw
def gSub(to ti:TE)(t:TSet):TG:=fun v σ H Q=>to σ H fun o H1=>ti σ H1 fun i H2=>t o i v H2 fun H3=>Q σ H3
theorem zhD{o i:Expr}{to ti:TE}{t:TSet}(ho:PE X o to)(hi:PE X i ti)(hs:PSet X t)
  (ha:∀ v,assign (.Subscript o i pos) X.env v=(do
   let ov ←holding [v] (eval o X.env)
   let iv ←holding [v,ov] (eval i X.env)
   standAt pos
   holding [v,ov,iv] (setItem ov iv v)
   release [v,ov,iv] []):=by intro _;rfl):PG X (.Subscript o i pos) (gSub to ti t):=by
 intro pins s σ H v u Q I r h
 rw[ha]
 refine wpAny_bind (wpAny_holding (thn (ho pins s σ H _ I h) ?_))
 rintro ov s1 ⟨x,H1,I1,r1,q1⟩
 refine wpAny_bind (wpAny_holding (thn (hi pins s1 σ H1 _ I1 q1) ?_))
 rintro iv s2 ⟨y,H2,I2,r2,q2⟩
 refine wpAny_bind (wpAny_standAt (wpAny_bind (wpAny_holding (thn (hs pins s2 σ H2 x y v ov iv u _ I2 r1 r2 r q2) ?_))))
 rintro _ s3 ⟨H3,I3,q3⟩
 exact wpAny_release ⟨σ,H3,I3,q3⟩
def tAsg(te:TE)(g:TG):TS:=fun D σ H=>te σ H fun x H1=>g x σ H1 D.nx
theorem zhE{tg e:Expr}{te:TE}{g:TG}(he:PE X e te)(hg:PG X tg g)(hs:swapsWithSole [tg] e pos.line X.env=pure false:=by rfl)(hw:swappedStores [tg] e X.env=pure none:=by rfl)
  (h1:(assignEach [tg] X.env).map (·.2)=[assign tg X.env]:=by rfl):PS X (.Assign [tg] e pos) (tAsg te g):=by
 intro pins s σ H D I h
 refine wpAny_Assign_stores (thn (he pins s σ H _ I h) fun v s1 hZ=>hZ.elim fun x hZ=>hZ.elim fun H1 hZ=>hZ.elim fun I1 hZ=>hZ.elim fun r1 q1=>?_) hs hw
 rw[h1]
 exact thn (hg pins s1 σ H1 x v _ I1 r1 q1) fun _ s2 q=>q
theorem zhF{i:Nat}{x:Str}{e:Expr}{te:TE}{pos':Pos}(hN:X.N.Nodup)(hi:X.N[i]?=some x)(hx:Loc X.env.scope x)(he:PE X e te)(hs:swapsWith e (some (.Name x pos')) pos.line X.env=pure false:=by rfl)(hf:X.fn x=true∨X.env.scope.names.lookup x=some .local:=by first|exact .inl rfl|exact .inr rfl|assumption):
  PS X (.Assign [.Name x pos'] e pos) (tAsg te (z7F i)):=by
 intro pins s σ H D I h
 refine wpAny_Assign_Name (thn (he pins s σ H _ I h) fun v s1 hZ=>hZ.elim fun y hZ=>hZ.elim fun H1 hZ=>hZ.elim fun I1 hZ=>hZ.elim fun r1 q1=>?_) hs
 exact zbd I1 hN hi hx r1 (fun s2 I2=>⟨_,H1,I2,q1⟩) hf
end
section
variable {X:Cx}{pos:Pos}
def tWhile(c:TT)(tb:TS):TS:=fun D σ H=>∃ W:Nat→St→Hp→Prop,(∃ m,W m σ H)∧∀ m σ H,W m σ H →
 c σ H fun b H1=>if b=true then ∃ N:St→Hp→Prop,(∀ σ' H',N σ' H'→∃ m',m'<m∧W m' σ' H')∧tb { D with nx:=N,ct:=N,bk:=D.nx } σ H1 else D.nx σ H1
theorem zhG{c:Expr}{body:List Stmt}{tc:TT}{tb:TS}(hp:PassesOwn (model X.prog X.w) X.A X.env X.xe)(hc:PT X c tc)(hb:PSs X body tb):PS X (.While c body [] pos) (tWhile tc tb):=by
 intro pins s σ H D I h
 obtain⟨W,⟨m0,w0⟩,turn⟩:=h
 refine wpAny_While (codeAny_whileLoop (fun n s'=>∃ σ' H',Inv X pins σ' H' s'∧W n σ' H') ?_ m0 ⟨σ,H,I,w0⟩)
 rintro n s1 ⟨σ1,H1,I1,w1⟩
 refine wpAny_passesOwn hp (thn (hc pins s1 σ1 H1 _ I1 (turn n σ1 H1 w1)) ?_)
 rintro b s2 ⟨H2,I2,q2⟩
 cases b with
 | true =>
  obtain⟨N,hN,q2⟩:=q2
  rw[if_pos rfl]
  refine wpAny_passesOwn hp (thn (hb pins s2 σ1 H2 _ I2 q2) fun f s3 q3=>?_)
  cases f with
  | next =>
   obtain⟨σ3,H3,I3,n3⟩:=q3
   obtain⟨m',hm,w3⟩:=hN σ3 H3 n3
   exact⟨m',hm,σ3,H3,I3,w3⟩
  | cont =>
   obtain⟨σ3,H3,I3,n3⟩:=q3
   obtain⟨m',hm,w3⟩:=hN σ3 H3 n3
   exact⟨m',hm,σ3,H3,I3,w3⟩
  | brk=>exact q3
  | ret v=>exact q3
 | false =>
  rw[if_neg Bool.false_ne_true]
  exact wpAny_execs_nil ⟨σ1,H2,I2,q2⟩
end
structure It where
 go:Nat→Hp→Prop
 yld:Nat→Hp→V→Hp→Prop
 stop:Nat→Hp→Prop
def FpOk(X:Cx)(pins:List (Addr×Obj))(H:Hp)(b:Addr):Prop :=
 H b=none∧b≠X.env.locals∧b ∉ X.fs∧(b∈X.ex∨X.s₀.heap.objs.size≤b)∧(∀ x c,X.env.cells.lookup x=some c→c≠b)∧∀ p∈X.pn++pins,p.1≠b
theorem Inv.fpOk{X:Cx}{pins:List (Addr×Obj)}{σ:St}{H H':Hp}{s:Shared}{b:Addr}(I:Inv X pins σ H s)(hb:s.heap.objs.size≤b)(hn:H' b=none):FpOk X pins H' b:=by
 refine⟨hn,Nat.ne_of_gt (Nat.lt_of_lt_of_le I.lt hb),I.nofs hb,.inr (Nat.le_trans I.sz hb),fun x c e z=>?_,fun p hp z=>?_⟩
 · obtain⟨v,q⟩:=I.cell x c e
   exact absurd (Nat.lt_of_lt_of_le q.lt (by rw[z];exact hb)) (Nat.lt_irrefl _)
 · exact absurd (Nat.lt_of_lt_of_le (Heap.lt_size (I.pin p hp).1) (by rw[z];exact hb)) (Nat.lt_irrefl _)
structure Turn(P:Program)(w:World)(K:PySem.W.Frag)(tg:Expr)(J:It)(fp:List Addr)(it:Addr)(tn:Nat→Heap→Prop):Prop where
 mem:it∈fp
 obj:∀ i h,tn i h→∀ b∈fp,∃ o,h.get? b=some o∧∀ v,o.data ≠ .cell v
 keep:∀ i h h',tn i h→(∀ b∈fp,∀ o,h.get? b=some o→h'.get? b=some o)→tn i h'
 item:∀(X:Cx),X.prog=P→X.w=w→X.K=K→X.calm=true→∀(i:Nat) (pins:List (Addr×Obj)) (s:Shared) (σ:St) (H:Hp) (E:Value→Shared→Prop),Inv X pins σ H s→(∀ b∈fp,FpOk X pins H b)→tn i s.heap→J.go i H →
  wpAny (model P w) X.A (pyNext (.ref it)) (fun r s1=>∃ u,r=some u ∧
   wpAny (model P w) X.A (letOwnedTupleGo tg (.ref it) u) (fun _ s2=>∃ x H',Inv X pins σ H' s2∧RelV x u∧J.yld i H x H'∧tn (i+1) s2.heap∧∀ b∈fp,H' b=none) E s1) E s
 done:∀(X:Cx),X.prog=P→X.w=w→X.K=K→X.calm=true→∀(i:Nat) (pins:List (Addr×Obj)) (s:Shared) (σ:St) (H:Hp) (E:Value→Shared→Prop),Inv X pins σ H s→(∀ b∈fp,FpOk X pins H b)→tn i s.heap→J.stop i H →
  wpAny (model P w) X.A (pyNext (.ref it)) (fun r s1=>r=none∧Inv X pins σ H s1) E s
 self:∀(A:Around) (i:Nat) (s:Shared) (Q:Value→Shared→Prop) (E:Value→Shared→Prop),tn i s.heap→Q (.ref it) s→wpAny (model P w) A (pyIter (.ref it)) Q E s
abbrev TI:=St→Hp→(It→Hp→Prop)→Prop
def PIE(X:Cx)(pins:List (Addr×Obj))(σ:St)(tg:Expr)(R:It→Hp→Prop)(itv:Value)(s2:Shared):Prop :=
 ∃(it:Addr) (fp:List Addr) (tn:Nat→Heap→Prop) (J:It) (H':Hp),itv = .ref it∧Inv X pins σ H' s2∧Turn X.prog X.w X.K tg J fp it tn∧tn 0 s2.heap∧(∀ b∈fp,FpOk X pins H' b)∧R J H'
def PI(X:Cx)(tg iter:Expr)(wi:TI):Prop :=
 ∀(pins:List (Addr×Obj)) (s:Shared) (σ:St) (H:Hp) (R:It→Hp→Prop),Inv X pins σ H s→wi σ H R →
  wpAny (model X.prog X.w) X.A (eval iter X.env) (fun v s1=>wpAny (model X.prog X.w) X.A (pyIter v) (PIE X pins σ tg R) X.xe s1) X.xe s
theorem zfU{M:Model}{A:Around}{E:Value→Shared→Prop}{s:Shared}{tg:Expr}{it:Addr}{u:Value}{o:Obj}{n:String}{vs:Array Value}{Q:Unit→Shared→Prop}(ho:s.heap.get? it=some o)(hc:o.cls = .type n)(hd:o.data = .fields vs)
    (hn:["enumerate", "zip", "dict_itemiterator", "dict_reverseitemiterator", "odict_iterator", "itertools.zip_longest", "itertools.pairwise"].contains n=false) (hQ:Q () s):wpAny M A (letOwnedTupleGo tg (.ref it) u) Q E s:=by
  unfold letOwnedTupleGo
  cases tg<;>first
    | exact wpAny_pure hQ
    | (cases u<;>first
        | exact wpAny_pure hQ
        | (refine wpAny_bind (wpAny_load ho ?_)
           rw[hc,hd]
           show wpAny M A (if(["enumerate", "zip", "dict_itemiterator", "dict_reverseitemiterator", "odict_iterator", "itertools.zip_longest", "itertools.pairwise"].contains n&&vs[0]?==some (rawInt _))=true then _ else _) Q E s
           rw[if_neg (by intro h;rw[hn,Bool.false_and]at h;cases h)]
           exact wpAny_pure hQ))
def Itl(K:PySem.W.Frag)(a:Addr):It :=
 ⟨fun i H=>∃ xs x,SqL K H a xs∧xs[i]?=some x,fun i H x H'=>H'=H∧∀ xs,SqL K H a xs→xs[i]?=some x,fun i H=>∃ xs,SqL K H a xs∧xs.length≤i⟩
def Itt(K:PySem.W.Frag)(a:Addr):It :=
 ⟨fun i H=>∃ xs x,SqT K H a xs∧xs[i]?=some x,fun i H x H'=>H'=H∧∀ xs,SqT K H a xs→xs[i]?=some x,fun i H=>∃ xs,SqT K H a xs∧xs.length≤i⟩
def Itr(lo:Int)(n:Nat):It:=⟨fun i _=>i<n,fun i H x H'=>H'=H∧x = .int (lo+i),fun i _=>n≤i⟩
theorem zgF{P:Program}{w:World}{K:PySem.W.Frag}{tg:Expr}(a it:Addr):Turn P w K tg (Itl K a) [it] it (fun i h=>h.IsListIter it a i) where
 mem:=by simp
 obj:=fun i h st b hb=>by
  have e:b=it:=by simpa using hb
  subst e
  obtain⟨o,e,c,d⟩:=st
  exact⟨o,e,fun v z=>by rw[d]at z;cases z⟩
 keep:=fun i h h' st k=>st.at fun o e=>k it (by simp) o e
 item:=by
  intro X hP hw hK hc i pins s σ H E I hf st hg
  subst hP hw hK
  obtain⟨xs,x,hq,hx⟩:=hg
  obtain⟨its,rv,p,hz⟩:=I.list hq
  obtain⟨u,hu,ru⟩:=rv.get hx
  obtain⟨f0,f1,f2,f3,f4,f5⟩:=hf it (by simp)
  refine wpAny_pyNext_list_item st p.isList (x:=u) (by simpa using hu) fun h' st' sb=>?_
  have I1:Inv X pins σ H { s with heap:=h' }:=I.turned (t':=s.toks) (fun b o hb e=>(sb.2 b hb).trans e) f0 f1 f3 f4 f5
  obtain⟨o,e,c,d⟩:=id st'
  exact⟨u,rfl,zfU (s:={ s with heap:=h' }) e c d (by decide) ⟨x,H,I1,ru,⟨rfl,fun ys hy=>by rw[I.list_inj hy hq];exact hx⟩,st',fun b hb=>(hf b hb).1⟩⟩
 done:=by
  intro X hP hw hK hc i pins s σ H E I hf st hg
  subst hP hw hK
  obtain⟨xs,hq,hx⟩:=hg
  obtain⟨its,rv,p,hz⟩:=I.list hq
  obtain⟨f0,f1,f2,f3,f4,f5⟩:=hf it (by simp)
  have hl:=rv.length
  exact wpAny_pyNext_list_end (I.ok.hd hc) st p.isList (by simp;omega) fun h' eb=>⟨rfl,I.turned (t':=s.toks) (fun b o hb e=>eb b o hb e) f0 f1 f3 f4 f5⟩
 self:=fun _ _ _ _ _ st h=>wpAny_pyIter_listiter st h
theorem zcG{P:Program}{w:World}{K:PySem.W.Frag}{tg:Expr}(a it:Addr):Turn P w K tg (Itt K a) [it] it (fun i h=>h.IsTupleIter it a i) where
 mem:=by simp
 obj:=fun i h st b hb=>by
  have e:b=it:=by simpa using hb
  subst e
  obtain⟨o,e,c,d⟩:=st
  exact⟨o,e,fun v z=>by rw[d]at z;cases z⟩
 keep:=fun i h h' st k=>st.at fun o e=>k it (by simp) o e
 item:=by
  intro X hP hw hK hc i pins s σ H E I hf st hg
  subst hP hw hK
  obtain⟨xs,x,hq,hx⟩:=hg
  obtain⟨its,rv,p,hz⟩:=I.tuple hq
  obtain⟨u,hu,ru⟩:=rv.get hx
  obtain⟨f0,f1,f2,f3,f4,f5⟩:=hf it (by simp)
  refine wpAny_pyNext_tuple_item st (show s.heap.IsTuple a its.toArray from p) (x:=u) (by simpa using hu) fun h' st' sb=>?_
  have I1:Inv X pins σ H { s with heap:=h' }:=I.turned (t':=s.toks) (fun b o hb e=>(sb.2 b hb).trans e) f0 f1 f3 f4 f5
  obtain⟨o,e,c,d⟩:=id st'
  exact⟨u,rfl,zfU (s:={ s with heap:=h' }) e c d (by decide) ⟨x,H,I1,ru,⟨rfl,fun ys hy=>by rw[I.tuple_inj hy hq];exact hx⟩,st',fun b hb=>(hf b hb).1⟩⟩
 done:=by
  intro X hP hw hK hc i pins s σ H E I hf st hg
  subst hP hw hK
  obtain⟨xs,hq,hx⟩:=hg
  obtain⟨its,rv,p,hz⟩:=I.tuple hq
  obtain⟨f0,f1,f2,f3,f4,f5⟩:=hf it (by simp)
  have hl:=rv.length
  exact wpAny_pyNext_tuple_end (I.ok.hd hc) st (show s.heap.IsTuple a its.toArray from p) (by simp;omega) fun h' eb=>⟨rfl,I.turned (t':=s.toks) (fun b o hb e=>eb b o hb e) f0 f1 f3 f4 f5⟩
 self:=fun _ _ _ _ _ st h=>wpAny_pyIter_tupleiter st h
theorem zcH{P:Program}{w:World}{K:PySem.W.Frag}{tg:Expr}(it:Addr)(lo:Int)(n:Nat):Turn P w K tg (Itr lo n) [it] it (fun i h=>IsRangeIter h it (lo+(i:Nat)*1) ((n:Int)-(i:Nat)) 1) where
 mem:=by simp
 obj:=fun i h st b hb=>by
  have e:b=it:=by simpa using hb
  subst e
  exact⟨_,st,fun v z=>by
   have z':Data.fields _=Data.cell v:=z
   cases z'⟩
 keep:=fun i h h' st k=>k it (by simp) _ st
 item:=by
  intro X hP hw hK hc i pins s σ H E I hf st hg
  subst hP hw hK
  obtain⟨f0,f1,f2,f3,f4,f5⟩:=hf it (by simp)
  have W:=Walks.range (prog:=X.prog) (w:=X.w) (I.ok.hd hc) it lo 1 n
  refine W.item i s _ _ hg st fun v h' tk hv st' kk=>?_
  obtain⟨t,rfl⟩:=hv
  have I1:Inv X pins σ H { s with heap:=h',toks:=tk }:=I.turned (fun b o hb e=>kk b o (by simpa using hb) e) f0 f1 f3 f4 f5
  refine⟨_,rfl,zfU (s:={ s with heap:=h',toks:=tk }) (n := "range_iterator") st' rfl rfl (by decide) ⟨.int (lo+i),H,I1,⟨t,?_⟩,⟨rfl,rfl⟩,st',fun b hb=>(hf b hb).1⟩⟩
  rw[Int.mul_one]
 done:=by
  intro X hP hw hK hc i pins s σ H E I hf st hg
  subst hP hw hK
  obtain⟨f0,f1,f2,f3,f4,f5⟩:=hf it (by simp)
  exact wpAny_pyNext_range_end (I.ok.hd hc) st (by have:n≤i:=hg;omega) fun h' eb=>⟨rfl,I.turned (t':=s.toks) (fun b o hb e=>eb b o hb e) f0 f1 f3 f4 f5⟩
 self:=fun _ _ _ _ _ st h=>wpAny_pyIter_rangeiter st h
end L2
namespace L2
open PySem PySem.Spec PyProof.Rows
section
variable {X:Cx}{tg:Expr}
theorem zbe{pins:List (Addr×Obj)}{σ:St}{H:Hp}{s:Shared}{R:It→Hp→Prop}{E:Value→Shared→Prop}{lo hi:Int}{t u v:Tok}{tk:Nat}(I:Inv X pins σ H s)(h1 : -(2 ^ 62)≤lo)(h2:lo<2 ^ 62)(h3 : -(2 ^ 62)≤hi)(h4:hi<2 ^ 62)
   (q:R (Itr lo (hi-lo).toNat) H):wpAny (model X.prog X.w) X.A (pyIter (.ref s.heap.objs.size)) (PIE X pins σ tg R) E { s with heap:=s.heap.push { cls := .type "range",data := .fields #[.int lo t,.int hi u,.int 1 v] },toks:=tk }:=by
 refine wpAny_pyIter_range (IsRange.new ..) (small_one h1 h2 h3 h4) ?_
 have I1:Inv X pins σ H { s with heap:=s.heap.push { cls := .type "range",data := .fields #[.int lo t,.int hi u,.int 1 v] },toks:=tk }:=I.kept fun b o e=>Heap.get?_push_of_some _ e
 refine⟨(s.heap.push { cls := .type "range",data := .fields #[.int lo t,.int hi u,.int 1 v] }).objs.size,[(s.heap.push { cls := .type "range",data := .fields #[.int lo t,.int hi u,.int 1 v] }).objs.size],_,_,H,rfl,
   I1.kept (t':=tk) fun b o e=>Heap.get?_push_of_some _ e,zcH _ lo (hi-lo).toNat,?_,fun b hb=>?_,q⟩
 · have e1:lo+((0:Nat):Int)*1=lo:=by simp
   have e2:(((hi-lo).toNat:Nat):Int)-((0:Nat):Int)=Builtin.Range.rangeSize lo hi 1:=by rw[rangeSize_one];split<;>omega
   show IsRangeIter _ _ (lo+((0:Nat):Int)*1) ((((hi-lo).toNat:Nat):Int)-((0:Nat):Int)) 1
   rw[e1,e2]
   exact Heap.get?_push_size _ rfl
 · have e:b=(s.heap.push { cls := .type "range",data := .fields #[.int lo t,.int hi u,.int 1 v] }).objs.size:=by simpa using hb
   subst e
   exact I1.fpOk (Nat.le_refl _) (I1.hok.fresh (Nat.le_refl _))
def iRng1(ta:TA):TI:=fun σ H R=>ta σ H fun vs H1=>∃ j:Int,vs=[.int j] ∧ -(2 ^ 62)≤j∧j<2 ^ 62∧R (Itr 0 j.toNat) H1
def iRng2(ta:TA):TI:=fun σ H R=>ta σ H fun vs H1=>∃ i j:Int,vs=[.int i,.int j]∧(-(2 ^ 62)≤i∧i<2 ^ 62 ∧ -(2 ^ 62)≤j∧j<2 ^ 62)∧R (Itr i (j-i).toNat) H1
theorem z97{a:Expr}{ta:TA}{p pos:Pos}(hg:Gl X "range")(hm:X.mg "range" = none)(ha:PA X [a] ta)(hs:starEach [a] X.env=[(false,eval a X.env)]:=by rfl):PI X tg (.Call (.Name "range" p) [a] [] pos) (iRng1 ta):=by
 intro pins s σ H R I h
 refine Call_ (z3u I hg hm boot_range (PyProof.Rows.callWith_type1 (thn (ha pos pins s σ H _ I h) fun us s1 hZ=>hZ.elim fun vs hZ=>hZ.elim fun H1 hZ=>hZ.elim fun I1 hZ=>hZ.elim fun r1 q1=>?_) hs rfl))
 obtain⟨j,e,q1,q2,q⟩:=q1
 subst e
 cases r1 with
 | cons r rr =>
  cases rr
  obtain⟨t,rfl⟩:=r
  exact call_range_1 (zbe I1 (by omega) (by omega) q1 q2 (by simpa using q))
theorem zgG{a b:Expr}{ta:TA}{p pos:Pos}(hg:Gl X "range")(hm:X.mg "range" = none)(ha:PA X [a,b] ta)(hs:starEach [a,b] X.env=[(false,eval a X.env),(false,eval b X.env)]:=by rfl)(hs2:starEach [b] X.env=[(false,eval b X.env)]:=by rfl):
  PI X tg (.Call (.Name "range" p) [a,b] [] pos) (iRng2 ta):=by
 intro pins s σ H R I h
 refine Call_ (z3u I hg hm boot_range (PyProof.Rows.callWith_type1 (thn (ha pos pins s σ H _ I h) fun us s1 hZ=>hZ.elim fun vs hZ=>hZ.elim fun H1 hZ=>hZ.elim fun I1 hZ=>hZ.elim fun r1 q1=>?_) (by rw[hs,hs2]) (by rw[hs2];rfl)))
 obtain⟨i,j,e,⟨q1,q2,q3,q4⟩,q⟩:=q1
 subst e
 cases r1 with
 | cons r rr =>
  cases rr with
  | cons r' rr =>
   cases rr
   obtain⟨t,rfl⟩:=r
   obtain⟨t',rfl⟩:=r'
   exact call_range_2 (zbe I1 q1 q2 q3 q4 q)
def tFor(wi:TI)(g:TG)(tb:TS):TS:=fun D σ H=>wi σ H fun J H1=>∃ W:Nat→Nat→St→Hp→Prop,(∃ m,W 0 m σ H1)∧∀ i m σ H,W i m σ H →
 (J.stop i H∧D.nx σ H)∨(J.go i H∧∃ N:St→Hp→Prop,(∀ σ' H',N σ' H'→∃ m',m'<m∧W (i+1) m' σ' H')∧∀ x H',J.yld i H x H'→g x σ H' fun σ2 H2=>tb { D with nx:=N,ct:=N,bk:=D.nx } σ2 H2)
def z7G(fp:List Addr)(h:Heap):List (Addr×Obj):=fp.filterMap fun b=>(h.get? b).map fun o=>(b,o)
theorem z3v{fp:List Addr}{h:Heap}{b:Addr}{o:Obj}(hb:b∈fp)(e:h.get? b=some o):(b,o)∈z7G fp h:=List.mem_filterMap.mpr ⟨b,hb,by rw[e];rfl⟩
theorem zgH{fp:List Addr}{h:Heap}{p:Addr×Obj}(hp:p∈z7G fp h):p.1∈fp∧h.get? p.1=some p.2:=by
 obtain⟨b,hb,e⟩:=List.mem_filterMap.mp hp
 cases q:h.get? b with
 | none=>rw[q]at e;cases e
 | some o =>
  rw[q]at e
  have e':(b,o)=p:=Option.some.inj e
  subst e'
  exact⟨hb,q⟩
theorem Inv.pinned{pins:List (Addr×Obj)}{σ:St}{H:Hp}{s:Shared}{fp:List Addr}(I:Inv X pins σ H s)(hf:∀ b∈fp,FpOk X pins H b)(ho:∀ b∈fp,∃ o,s.heap.get? b=some o∧∀ v,o.data ≠ .cell v):Inv X (pins++z7G fp s.heap) σ H s :=
 I.pins_of fun p hp=>(List.mem_append.mp hp).elim (fun z=>I.pin p (List.mem_append_right _ z)) fun z=>by
  obtain⟨hb,e⟩:=zgH z
  obtain⟨f0,f1,f2,_⟩:=hf p.1 hb
  obtain⟨o,e',d⟩:=ho p.1 hb
  rw[e]at e';cases e'
  exact⟨e,f0,f1,f2,d⟩
theorem Inv.unpinned{pins pl:List (Addr×Obj)}{σ:St}{H:Hp}{s:Shared}(I:Inv X (pins++pl) σ H s):Inv X pins σ H s:=I.pins_of fun p hp=>I.pin p (List.mem_append_right _ (List.mem_append_left _ hp))
theorem zhH{iter:Expr}{body:List Stmt}{wi:TI}{g:TG}{tb:TS}{pos:Pos}(hp:PassesOwn (model X.prog X.w) X.A X.env X.xe)(hc:X.calm=true)(hi:PI X tg iter wi)(hg:PG X tg g)(hb:PSs X body tb)
   (hs:∀ x,foldedSetIterable iter X.env x=pure x:=by intro _;rfl):PS X (.For tg iter body [] pos) (tFor wi g tb):=by
 intro pins s σ H D I h
 refine wpAny_For (thn (hi pins s σ H _ I h) fun v s1 h1=>thn h1 fun itv s2 h2=>?_) hs
 obtain⟨it,fp,tn,J,H2,e,I2,T,st2,f2,W,⟨m0,w0⟩,turn⟩:=h2
 subst e
 have stat:∀{H':Hp},(∀ b∈fp,H' b=none)→∀ b∈fp,FpOk X pins H' b:=fun hn b hb=>⟨hn b hb,(f2 b hb).2⟩
 refine codeAny_forLoop_any (fun n s'=>∃ i σ' H',Inv X pins σ' H' s'∧tn i s'.heap∧(∀ b∈fp,H' b=none)∧W i n σ' H') ?_ m0 ⟨0,σ,H2,I2,st2,fun b hb=>(f2 b hb).1,w0⟩
 rintro n s3 ⟨i,σ3,H3,I3,st3,fr3,w3⟩
 rcases turn i n σ3 H3 w3 with⟨stop,qn⟩|⟨go,N,hN,step⟩
 · refine wpAny_passesOwn hp (thn (T.done X rfl rfl rfl hc i pins s3 σ3 H3 X.xe I3 (stat fr3) st3 stop) ?_)
   rintro r s4 ⟨hr,I4⟩
   subst hr
   exact wpAny_execs_nil ⟨σ3,H3,I4,qn⟩
 · refine wpAny_passesOwn hp (thn (T.item X rfl rfl rfl hc i pins s3 σ3 H3 X.xe I3 (stat fr3) st3 go) ?_)
   rintro r s4 ⟨u,hr,h4⟩
   subst hr
   refine wpAny_passesOwn hp (thn h4 ?_)
   rintro _ s5 ⟨x,H5,I5,r5,y5,st5,fr5⟩
   have I5':=I5.pinned (stat fr5) (T.obj _ _ st5)
   refine wpAny_passesOwn hp (thn (hg _ s5 σ3 H5 x u _ I5' r5 (step x H5 y5)) ?_)
   rintro _ s6 ⟨σ6,H6,I6,q6⟩
   refine wpAny_passesOwn hp (thn (hb _ s6 σ6 H6 _ I6 q6) fun f s7 q7=>?_)
   have again:∀{σ7:St} {H7:Hp},Inv X (pins++z7G fp s5.heap) σ7 H7 s7→N σ7 H7→∃ m,m<n∧∃ i σ' H',Inv X pins σ' H' s7∧tn i s7.heap∧(∀ b∈fp,H' b=none)∧W i m σ' H':=fun{σ7 H7} I7 n7=>by
    obtain⟨m',hm,w7⟩:=hN σ7 H7 n7
    refine⟨m',hm,i+1,σ7,H7,I7.unpinned,T.keep _ _ _ st5 fun b hb o e=>(I7.pin (b,o) (List.mem_append_right _ (List.mem_append_right _ (z3v hb e)))).1,fun b hb=>?_,w7⟩
    obtain⟨o,e,d⟩:=T.obj _ _ st5 b hb
    exact(I7.pin (b,o) (List.mem_append_right _ (List.mem_append_right _ (z3v hb e)))).2.1
   cases f with
   | next=>obtain⟨σ7,H7,I7,n7⟩:=q7;exact again I7 n7
   | cont=>obtain⟨σ7,H7,I7,n7⟩:=q7;exact again I7 n7
   | brk=>obtain⟨σ7,H7,I7,q7⟩:=q7;exact⟨σ7,H7,I7.unpinned,q7⟩
   | ret v=>obtain⟨x7,σ7,H7,I7,r7,q7⟩:=q7;exact⟨x7,σ7,H7,I7.unpinned,r7,q7⟩
end
end L2
namespace L2
open PySem PySem.Spec PyProof.Rows
abbrev R2:=V→V→Hp→VK→Prop
def OpR(X:Cx)(f:Value→Value→Sem Value)(r:R2):Prop :=
 ∀(pins:List (Addr×Obj)) (s:Shared) (σ:St) (H:Hp) (x y:V) (v u:Value) (Q:VK),Inv X pins σ H s→RelV x v→RelV y u→r x y H Q →
  wpAny (model X.prog X.w) X.A (f v u) (EP X pins σ Q) X.xe s
def UnR(X:Cx)(f:Value→Sem Value)(r:V→Hp→VK→Prop):Prop :=
 ∀(pins:List (Addr×Obj)) (s:Shared) (σ:St) (H:Hp) (x:V) (v:Value) (Q:VK),Inv X pins σ H s→RelV x v→r x H Q →
  wpAny (model X.prog X.w) X.A (f v) (EP X pins σ Q) X.xe s
def CallR(X:Cx)(f:Value)(r:List V→Hp→VK→Prop):Prop :=
 ∀(pins:List (Addr×Obj)) (s:Shared) (σ:St) (H:Hp) (xs:List V) (us:List Value) (Q:VK),Inv X pins σ H s→Vals xs us→r xs H Q →
  wpAny (model X.prog X.w) X.A (call f us) (EP X pins σ Q) X.xe s
def TruR(X:Cx)(r:V→Hp→(Bool→Hp→Prop)→Prop):Prop :=
 ∀(pins:List (Addr×Obj)) (s:Shared) (σ:St) (H:Hp) (x:V) (v:Value) (Q:Bool→Hp→Prop),Inv X pins σ H s→RelV x v→r x H Q →
  wpAny (model X.prog X.w) X.A (truthy v) (TP X pins σ Q) X.xe s
def tOp(r:R2)(ta tb:TE):TE:=fun σ H Q=>ta σ H fun x H1=>tb σ H1 fun y H2=>r x y H2 Q
def tUn(r:V→Hp→VK→Prop)(ta:TE):TE:=fun σ H Q=>ta σ H fun x H1=>r x H1 Q
def rI(C:Int→Int→Prop)(g:Int→Int→V):R2:=fun x y H Q=>∃ i j,x = .int i∧y = .int j∧C i j∧Q (g i j) H
def rI0(g:Int→Int→V):R2:=fun x y H Q=>∃ i j,x = .int i∧y = .int j∧Q (g i j) H
def rU(g:Int→V):V→Hp→VK→Prop:=fun x H Q=>∃ i,x = .int i∧Q (g i) H
section
variable {X:Cx}{a b c:Expr}{ta tb tc:TE}{pos:Pos}
theorem binT(ha:PE X a ta)(hb:PE X b tb){pins:List (Addr×Obj)}{s:Shared}{σ:St}{H:Hp}{R:V→V→Hp→Prop}(I:Inv X pins σ H s)
  (h:ta σ H fun x H1=>tb σ H1 fun y H2=>R x y H2) {Q:Value→Shared→Prop} {f:Value→Value→Sem Value}
  (hf:∀ v u s2 x y H2,Inv X pins σ H2 s2→RelV x v→RelV y u→R x y H2→wpAny (model X.prog X.w) X.A (f v u) Q X.xe s2) :
  wpAny (model X.prog X.w) X.A (eval a X.env) (fun v s₁=>wpAny (model X.prog X.w) X.A (eval b X.env) (fun u s₂=>wpAny (model X.prog X.w) X.A (f v u) Q X.xe s₂) X.xe s₁) X.xe s:=by
 refine thn (ha pins s σ H _ I h) ?_
 rintro v s1 ⟨x,H1,I1,r1,q1⟩
 refine thn (hb pins s1 σ H1 _ I1 q1) ?_
 rintro u s2 ⟨y,H2,I2,r2,q2⟩
 exact hf v u s2 x y H2 I2 r1 r2 q2
theorem pe_op{op:Operator}{r:R2}(ho:OpR X (binaryOp op) r)(ha:PE X a ta)(hb:PE X b tb):PE X (.BinOp a op b pos) (tOp r ta tb):=by
 intro pins s σ H Q I h
 exact wpAny_BinOp (binT ha hb I h fun v u s2 x y H2 I2 rx ry q=>ho pins s2 σ H2 x y v u Q I2 rx ry q)
theorem pe_un{op:UnaryOp}{r:V→Hp→VK→Prop}(ho:UnR X (unaryOp op) r)(ha:PE X a ta):PE X (.UnaryOp op a pos) (tUn r ta):=by
 intro pins s σ H Q I h
 exact UnaryOp_ (thn (ha pins s σ H _ I h) fun v s1 hZ=>hZ.elim fun x hZ=>hZ.elim fun H1 hZ=>hZ.elim fun I1 hZ=>hZ.elim fun r1 q1=>ho pins s1 σ H1 x v Q I1 r1 q1)
theorem opI{f:Value→Value→Sem Value}{C:Int→Int→Prop}{g:Int→Int→Int}
  (rule:∀(i j:Int) (t u:Tok) (s:Shared) (Q:Value→Shared→Prop) (E:Value→Shared→Prop),C i j→Q (.int (g i j) s.toks) { s with toks:=s.toks+1 }→wpAny (model X.prog X.w) X.A (f (.int i t) (.int j u)) Q E s) :
  OpR X f (rI C fun i j => .int (g i j)):=by
 intro pins s σ H x y v u Q I rx ry h
 obtain⟨i,j,rfl,rfl,hc,q⟩:=h
 obtain⟨t,rfl⟩:=rx
 obtain⟨t',rfl⟩:=ry
 exact rule i j t t' s _ _ hc ⟨.int (g i j),H,I.tok _,⟨_,rfl⟩,q⟩
theorem opI0{f:Value→Value→Sem Value}{g:Int→Int→Int}
  (rule:∀(i j:Int) (t u:Tok) (s:Shared) (Q:Value→Shared→Prop) (E:Value→Shared→Prop),Q (.int (g i j) s.toks) { s with toks:=s.toks+1 }→wpAny (model X.prog X.w) X.A (f (.int i t) (.int j u)) Q E s) :
  OpR X f (rI0 fun i j => .int (g i j)):=by
 intro pins s σ H x y v u Q I rx ry h
 obtain⟨i,j,rfl,rfl,q⟩:=h
 obtain⟨t,rfl⟩:=rx
 obtain⟨t',rfl⟩:=ry
 exact rule i j t t' s _ _ ⟨.int (g i j),H,I.tok _,⟨_,rfl⟩,q⟩
theorem opB0{f:Value→Value→Sem Value}{g:Int→Int→Bool}
  (rule:∀(i j:Int) (t u:Tok) (s:Shared) (Q:Value→Shared→Prop) (E:Value→Shared→Prop),Q (.bool (g i j)) s→wpAny (model X.prog X.w) X.A (f (.int i t) (.int j u)) Q E s) :
  OpR X f (rI0 fun i j => .bl (g i j)):=by
 intro pins s σ H x y v u Q I rx ry h
 obtain⟨i,j,rfl,rfl,q⟩:=h
 obtain⟨t,rfl⟩:=rx
 obtain⟨t',rfl⟩:=ry
 exact rule i j t t' s _ _ ⟨.bl (g i j),H,I,rfl,q⟩
def CPow(i j:Int):Prop:=0≤j∧j≤1000000∧i.natAbs<2 ^ 64
def CMul(i j:Int):Prop:=(-(2 ^ 64)<i∧i<2 ^ 64)∨(-(2 ^ 64)<j∧j<2 ^ 64)
theorem CMul.ok{i j:Int}(h:CMul i j):IntMulOk i j:=by
 rcases h with⟨h1,h2⟩|⟨h1,h2⟩
 · exact .of_left (intBits_le_64 h1 h2)
 · exact .of_right (intBits_le_64 h1 h2)
theorem op_add:OpR X (binaryOp .Add) (rI0 fun i j => .int (i+j)):=opI0 fun _ _ _ _ _ _ _ q=>add_int q
theorem op_sub:OpR X (binaryOp .Sub) (rI0 fun i j => .int (i-j)):=opI0 fun _ _ _ _ _ _ _ q=>sub_int q
theorem zlp:OpR X (binaryOp .Mod) (rI (fun _ j=>j≠0) fun i j => .int (i.fmod j)):=opI fun _ _ _ _ _ _ _ hc q=>mod_int' hc q
theorem op_pow:OpR X (binaryOp .Pow) (rI CPow fun i j => .int (i ^ j.toNat)):=opI fun _ _ _ _ _ _ _ hc q=>pow_int_small hc.1 hc.2.1 hc.2.2 q
theorem unI{f:Value→Sem Value}{g:Int→Int}
  (rule:∀(i:Int) (t:Tok) (s:Shared) (Q:Value→Shared→Prop) (E:Value→Shared→Prop),Q (.int (g i) s.toks) { s with toks:=s.toks+1 }→wpAny (model X.prog X.w) X.A (f (.int i t)) Q E s) :
  UnR X f (rU fun i => .int (g i)):=by
 intro pins s σ H x v Q I rx h
 obtain⟨i,rfl,q⟩:=h
 obtain⟨t,rfl⟩:=rx
 exact rule i t s _ _ ⟨.int (g i),H,I.tok _,⟨_,rfl⟩,q⟩
theorem un_neg:UnR X (unaryOp .USub) (rU fun i => .int (-i)):=unI fun _ _ _ _ _ q=>neg_int q
end
def scal:V→V→Bool
 | .non,.non=>true|.non,.int _=>true|.int _,.non=>true|.non,.bl _=>true|.bl _,.non=>true|.non,.str _=>true|.str _,.non=>true
 | .int _,.int _=>true|.bl _,.bl _=>true|.str _,.str _=>true|.byt _,.byt _=>true
 | .int _,.str _=>true|.str _,.int _=>true|.bl _,.str _=>true|.str _,.bl _=>true
 | _,_=>false
section
variable {X:Cx}{a b c:Expr}{ta tb tc:TE}{pos:Pos}
theorem zcI{pins:List (Addr×Obj)}{σ:St}{H:Hp}{s:Shared}{Q:VK}{k k':Bool}(I:Inv X pins σ H s)(q:Q (.bl k) H)(e:k=k'):EP X pins σ Q (.bool k') s:=by
 subst e
 exact⟨.bl k,H,I,rfl,q⟩
theorem op_lt:OpR X (compareOp .Lt) (rI0 fun i j => .bl (decide (i<j))):=opB0 fun _ _ _ _ _ _ _ q=>lt_int q
theorem op_le:OpR X (compareOp .LtE) (rI0 fun i j => .bl (decide (i≤j))):=opB0 fun _ _ _ _ _ _ _ q=>le_int q
theorem op_gt:OpR X (compareOp .Gt) (rI0 fun i j => .bl (decide (j<i))):=opB0 fun _ _ _ _ _ _ _ q=>gt_int q
theorem op_ge:OpR X (compareOp .GtE) (rI0 fun i j => .bl (decide (j≤i))):=opB0 fun _ _ _ _ _ _ _ q=>ge_int q
theorem op_isN:OpR X (compareOp .Is) (fun x y H Q=>y = .non∧Q (.bl (decide (x = .non))) H):=by
 intro pins s σ H x y v u Q I rx ry h
 obtain⟨rfl,q⟩:=h
 cases ry
 refine is_none_gen (zcI I q ?_)
 cases x<;>first
  | (cases rx;rfl)
  | (obtain⟨t,rfl⟩:=rx;rfl)
theorem zlq:OpR X (compareOp .IsNot) (fun x y H Q=>y = .non∧Q (.bl (!decide (x = .non))) H):=by
 intro pins s σ H x y v u Q I rx ry h
 obtain⟨rfl,q⟩:=h
 cases ry
 refine isnot_none_gen (zcI I q ?_)
 cases x<;>first
  | (cases rx;rfl)
  | (obtain⟨t,rfl⟩:=rx;rfl)
theorem OpR.or{f:Value→Value→Sem Value}{r r':R2}(h:OpR X f r)(h':OpR X f r'):OpR X f (fun x y H Q=>r x y H Q∨r' x y H Q):=by
 intro pins s σ H x y v u Q I rx ry q
 rcases q with q|q
 · exact h pins s σ H x y v u Q I rx ry q
 · exact h' pins s σ H x y v u Q I rx ry q
theorem z0o(b:Expr){op:CmpOp}(h:op ≠ .In:=by decide)(h2:op ≠ .NotIn:=by decide):behindInMarks op b=false:=by
 have e1:(op==CmpOp.In)=false:=by cases op<;>first|rfl|exact absurd rfl h
 have e2:(op==CmpOp.NotIn)=false:=by cases op<;>first|rfl|exact absurd rfl h2
 cases b<;>simp[behindInMarks,e1,e2]
theorem zlr{op:CmpOp}{r:R2}(ho:OpR X (compareOp op) r)(ha:PE X a ta)(hb:PE X b tb)(hm:behindInMarks op b=false):PE X (.Compare a [op] [b] pos) (tOp r ta tb):=by
 intro pins s σ H Q I h
 exact wpAny_Compare1 (binT ha hb I h fun v u s2 x y H2 I2 rx ry q=>ho pins s2 σ H2 x y v u Q I2 rx ry q) hm
def tTest(t:TE):TT:=fun σ H Q=>t σ H fun x H'=>∃ k,x = .bl k∧Q k H'
theorem zls{op:CmpOp}{r:R2}(ho:OpR X (compareOp op) r)(ha:PE X a ta)(hb:PE X b tb)(hm:behindInMarks op b=false):PT X (.Compare a [op] [b] pos) (tTest (tOp r ta tb)):=by
 intro pins s σ H Q I h
 refine wpAny_isTrue_Compare1 (thn (ha pins s σ H _ I h) fun v s1 hZ=>hZ.elim fun x hZ=>hZ.elim fun H1 hZ=>hZ.elim fun I1 hZ=>hZ.elim fun r1 q1=>thn (hb pins s1 σ H1 _ I1 q1) fun u s2 ⟨y,H2,I2,r2,q2⟩ =>
  thn (ho pins s2 σ H2 x y v u _ I2 r1 r2 q2) fun c s3 hZ=>hZ.elim fun z hZ=>hZ.elim fun H3 hZ=>hZ.elim fun I3 hZ=>hZ.elim fun r3 hZ=>hZ.elim fun k hZ=>hZ.elim fun e q3=>?_) hm
 subst e
 cases r3
 exact wpAny_truthy_bool ⟨H3,I3,q3⟩
def zhI(r r':R2)(ta tb tc:TE):TE:=fun σ H Q=>ta σ H fun x H1=>tb σ H1 fun y H2=>r x y H2 fun z H3=>∃ k,z = .bl k ∧
 (if k=true then tc σ H3 fun w' H4=>r' y w' H4 Q else Q (.bl false) H3)
theorem zhJ{op op':CmpOp}{r r':R2}(ho:OpR X (compareOp op) r)(ho':OpR X (compareOp op') r')(ha:PE X a ta)(hb:PE X b tb)(hc:PE X c tc)
  (hm:lastMarks [op,op'] [b,c]=false:=by with_unfolding_all rfl):PE X (.Compare a [op,op'] [b,c] pos) (zhI r r' ta tb tc):=by
 intro pins s σ H Q I h
 refine Compare_chain (thn (ha pins s σ H _ I h) fun v s1 hZ=>hZ.elim fun x hZ=>hZ.elim fun H1 hZ=>hZ.elim fun I1 hZ=>hZ.elim fun r1 q1=>chain_link (thn (hb pins s1 σ H1 _ I1 q1) fun u s2 ⟨y,H2,I2,r2,q2⟩ =>
  thn (ho pins s2 σ H2 x y v u _ I2 r1 r2 q2) fun d s3 hZ=>hZ.elim fun z hZ=>hZ.elim fun H3 hZ=>hZ.elim fun I3 hZ=>hZ.elim fun r3 hZ=>hZ.elim fun k hZ=>hZ.elim fun e q3=>?_)) hm
 subst e
 cases r3
 refine wpAny_truthy_bool ?_
 cases k with
 | false=>exact ite_ff ⟨.bl false,H3,I3,rfl,q3⟩
 | true=>exact ite_tt (chain_last (thn (hc pins s3 σ H3 _ I3 q3) fun w' s4 hZ=>hZ.elim fun z' hZ=>hZ.elim fun H4 hZ=>hZ.elim fun I4 hZ=>hZ.elim fun r4 q4=>ho' pins s4 σ H4 y z' u w' Q I4 r2 r4 q4))
def TruV(K:PySem.W.Frag)(x:V)(H:Hp)(k:Bool):Prop :=
 match x with
 | .non=>k=false
 | .bl b=>k=b
 | .int i=>k=(i != 0)
 | .str y=>y.length≤sizeLine∧k=((y.length:Int) != 0)
 | .byt y=>y.size≤sizeLine∧k=((y.size:Int) != 0)
 | .ref p=>(∃ xs,SqL K H p xs∧k=!xs.isEmpty)∨(∃ xs,SqT K H p xs∧k=!xs.isEmpty)∨∃ kvs,H p=some (.dK kvs)∧k=!kvs.isEmpty
 | _=>False
theorem zcJ{κ:Type}{kvs:List (κ×V)}{vs:List (κ×Value)}(r:KV kvs vs):(!vs.isEmpty)=!kvs.isEmpty:=by
 cases r<;>rfl
theorem z7H{xs:List V}{its:List Value}(r:Vals xs its):(!its.toArray.isEmpty)=!xs.isEmpty:=by
 cases r<;>simp
theorem z6d:(sizeLine:Nat)<2 ^ 63:=by rw[sizeLine_eq];decide
theorem tru_ok:TruR X (fun x H Q=>∃ k,TruV X.K x H k∧Q k H):=by
 intro pins s σ H x v Q I rx h
 obtain⟨k,e,q⟩:=h
 have hl:=z6d
 have hs:sizeLine=16777216:=sizeLine_eq
 cases x with
 | non =>
  cases rx
  have e':k=false:=e
  subst e'
  exact truthy_none ⟨H,I,q⟩
 | bl b =>
  cases rx
  have e':k=b:=e
  subst e'
  exact wpAny_truthy_bool ⟨H,I,q⟩
 | int i =>
  obtain⟨t,rfl⟩:=rx
  have e':k=(i != 0):=e
  subst e'
  exact PySem.P.truthy_int ⟨H,I,q⟩
 | str y =>
  obtain⟨t,rfl⟩:=rx
  obtain⟨hy,e'⟩:y.length≤sizeLine∧k=((y.length:Int) != 0):=e
  subst e'
  exact PySem.P.truthy_str (by omega) ⟨H,I.tok _,q⟩
 | byt y =>
  obtain⟨t,rfl⟩:=rx
  obtain⟨hy,e'⟩:y.size≤sizeLine∧k=((y.size:Int) != 0):=e
  subst e'
  exact PySem.W.truthy_bytes (by omega) ⟨H,I.tok _,q⟩
 | ref p =>
  cases rx
  have e':(∃ xs,SqL X.K H p xs∧k=!xs.isEmpty)∨(∃ xs,SqT X.K H p xs∧k=!xs.isEmpty)∨∃ kvs,H p=some (.dK kvs)∧k=!kvs.isEmpty:=e
  rcases e' with⟨xs,hx,e'⟩|⟨xs,hx,e'⟩|⟨kvs,hx,e'⟩
  · subst e'
    obtain⟨its,r,pl,hz⟩:=I.list hx
    have hlen:=r.length
    exact wpAny_truthy_list pl.isList (by simp only[List.size_toArray];omega) ⟨H,I.tok _,by rw[z7H r];exact q⟩
  · subst e'
    obtain⟨its,r,pl,hz⟩:=I.tuple hx
    have hlen:=r.length
    exact truthy_tuple pl (by simp only[List.size_toArray];omega) ⟨H,I.tok _,by rw[z7H r];exact q⟩
  · subst e'
    obtain⟨hz,hS,vs,r,m⟩:kvs.length≤sizeLine∧(p==sysModules)=false∧∃ vs,KV kvs vs∧s.heap.DictOf (zap X.prog X.w) p vs:=I.hok p _ hx
    have hlen:kvs.length=vs.length:=Paired.length r
    exact wpAny_truthy_dict hS m (by omega) ⟨H,I.tok _,by rw[zcJ r];exact q⟩
 | _=>exact(show False from e).elim
theorem zhK(ha:PE X a ta)(he:∀ whole,isTrue a X.env whole=(do let v ←whole;standAt a.pos;holding [v] (truthy v))):
  PT X a (fun σ H Q=>ta σ H fun x H'=>∃ k,TruV X.K x H' k∧Q k H'):=by
 intro pins s σ H Q I h
 exact isTrue_plain (thn (ha pins s σ H _ I h) fun v s1 hZ=>hZ.elim fun x hZ=>hZ.elim fun H1 hZ=>hZ.elim fun I1 hZ=>hZ.elim fun r1 q1=>tru_ok pins s1 σ H1 x v Q I1 r1 q1) (he _)
theorem z98{x:V}{us:List Value}(r:Vals [x] us):∃ u,us=[u]∧RelV x u:=by
 cases r with
 | cons r1 r2=>cases r2;exact⟨_,rfl,r1⟩
theorem vals2{x y:V}{us:List Value}(r:Vals [x,y] us):∃ u w',us=[u,w']∧RelV x u∧RelV y w':=by
 cases r with
 | cons r1 r2 =>
  cases r2 with
  | cons r3 r4=>cases r4;exact⟨_,_,rfl,r1,r3⟩
theorem zhL:CallR X (.builtin "abs") (fun xs H Q=>∃ i,xs=[.int i]∧Q (.int (if i<0 then -i else i)) H):=by
 intro pins s σ H xs us Q I r h
 obtain⟨i,rfl,q⟩:=h
 obtain⟨u,rfl,t,rfl⟩:=z98 r
 exact call_abs_int fun u tk=>⟨.int (if i<0 then -i else i),H,I.tok _,⟨_,rfl⟩,q⟩
theorem z99:CallR X (.type "int") (fun xs H Q=>(∃ i,xs=[.int i]∧Q (.int i) H)∨∃ k,xs=[.bl k]∧Q (.int (if k then 1 else 0)) H):=by
 intro pins s σ H xs us Q I r h
 rcases h with⟨i,rfl,q⟩|⟨k,rfl,q⟩
 · obtain⟨u,rfl,t,rfl⟩:=z98 r
   exact call_int_int ⟨.int i,H,I,⟨_,rfl⟩,q⟩
 · obtain⟨u,rfl,r1⟩:=z98 r
   cases r1
   exact call_int_bool ⟨.int (if k then 1 else 0),H,I.tok _,⟨_,rfl⟩,q⟩
end
end L2
namespace L2
open PySem PySem.Spec PyProof.Rows
structure ObjM(h:Heap)(x dx C:Addr)(mA:Str→Option Value):Prop where
 obj:h.get? x=some (PySem.W.instObj C dx)
 ns:h.Ns1 dx mA
 ne:dx≠x
theorem zgI{h:Heap}{dx:Addr}{mA:Str→Option Value}(n:h.Ns1 dx mA):∃ od,h.get? dx=some od∧∀ name,PySem.W.lookIn name od=some (mA name):=by
 obtain⟨o,es,ep,ho,hd,hk,_,hm⟩:=n
 refine⟨o,ho,fun name=>?_⟩
 have e:=hm name
 unfold nsFind findBy at e
 rw[←Array.find?_toList]at e
 unfold PySem.W.lookIn
 rw[hd]
 dsimp only
 split
 · rename_i y q
   rw[q]at e
   exact congrArg some e
 · rename_i q
   rw[q]at e
   have a:es.toList.any (·.refKey)=false:=by
    rw[List.any_eq_false]
    intro y hy
    obtain⟨z,t,hkey⟩:=hk y (Array.mem_toList_iff.mp hy)
    simp[DictEntry.refKey,hkey]
   have a':¬es.toList.any (·.refKey)=true:=by rw[a];exact Bool.false_ne_true
   rw[if_neg a']
   exact congrArg some e
theorem ObjM.look{h:Heap}{x dx C:Addr}{mA:Str→Option Value}(I:ObjM h x dx C mA):∃ od,PySem.W.InstAt h x (PySem.W.instObj C dx) C (some od)∧∀ name,PySem.W.lookIn name od=some (mA name) :=
 let ⟨od,ho,hl⟩:=zgI I.ns
 ⟨od,⟨I.obj,rfl,rfl,ho⟩,hl⟩
section
variable {prog:Program}{w:World}{A:Around}{E:Value→Shared→Prop}{s:Shared}{K:PySem.W.Frag}{x dx C f:Addr}{mA:Str→Option Value}{name:Str}{v:Value}
end
theorem RelO.none_of{o:Option Value}(r:RelO none o):o=none:=by
 cases o with
 | none=>rfl
 | some u=>exact(show False from r).elim
section
variable {P:Program}{w:World}{H H':Hp}{h h':Heap}{a C dx:Addr}{fs fs':List (Str×V)}
theorem zlt(hok:HOk P w H h)(e:H a=some (.ins C dx fs)):∃ mA,ObjM h a dx C mA∧(∀ f,RelO (fs.lookup f) (mA f))∧PySem.Within mA (fs.map (·.1))∧fs.length≤1000∧H dx=some (.own a):=by
 obtain⟨d,z,ne,ob,mA,n,r,q⟩:=(show ObjOk P w H h a (.ins C dx fs)from hok a _ e)
 exact⟨mA,⟨ob,n,ne⟩,r,q,z,d⟩
end
structure Cls(K:PySem.W.Frag)(C:Addr):Prop where
 pg:PySem.W.plainGet K C Str.empty=true
 hd:PySem.W.hasDictIn K C=true
 po:PySem.W.plainOver K C=true
 sa:PySem.W.findIn K (.ref C) "__setattr__" = some (some (.builtin "object.__setattr__"))
theorem Cls.get{K:PySem.W.Frag}{C:Addr}(c:Cls K C)(f:Str):PySem.W.plainGet K C f=true:=c.pg
section
variable {X:Cx}{pins:List (Addr×Obj)}{σ:St}{H:Hp}{s:Shared}{a C dx:Addr}{fs:List (Str×V)}{f:Str}{v:V}{A:Around}{E:Value→Shared→Prop}
theorem Inv.made(I:Inv X pins σ H s):Inv X pins σ (upd (upd H s.heap.objs.size (.own (s.heap.objs.size+1))) (s.heap.objs.size+1) (.ins C s.heap.objs.size []))
  { s with heap:=(s.heap.push PySem.W.emptyDict).push (PySem.W.instObj C s.heap.objs.size) }:=by
 have e1:(s.heap.push PySem.W.emptyDict).get? s.heap.objs.size=some PySem.W.emptyDict:=Heap.get?_push_size s.heap rfl
 have e2:((s.heap.push PySem.W.emptyDict).push (PySem.W.instObj C s.heap.objs.size)).get? (s.heap.objs.size+1)=some (PySem.W.instObj C s.heap.objs.size):=by
  have:=Heap.get?_push_size (s.heap.push PySem.W.emptyDict) (o:=PySem.W.instObj C s.heap.objs.size) rfl
  rwa [Heap.size_push]at this
 have e3:(s.heap.push PySem.W.emptyDict).Ns s.heap.objs.size (fun _=>none):=⟨PySem.W.emptyDict,#[],_,e1,rfl,(fun e he=>absurd he (by simp)),fun _=>rfl⟩
 have I1:=I.laid (a:=s.heap.objs.size) (o := .own (s.heap.objs.size+1)) (h':=s.heap.push PySem.W.emptyDict) (t':=s.toks) (fun b u q=>Heap.get?_push_of_some _ q) (Nat.le_refl _) ⟨_,e1⟩
 refine I1.laid (a:=s.heap.objs.size+1) (o := .ins C s.heap.objs.size []) (t':=s.toks) (fun b u q=>Heap.get?_push_of_some _ q) (Nat.le_of_eq (Heap.size_push _ _)) ?_
 have ne:s.heap.objs.size≠s.heap.objs.size+1:=Nat.ne_of_lt (Nat.lt_succ_self _)
 refine⟨by rw[z0q ne,z0H],Nat.zero_le _,ne,e2,fun _=>none,(Heap.Ns1.of_empty e3).at fun o q=>Heap.get?_push_of_some _ q,fun _=>True.intro,fun y hy=>absurd rfl hy⟩
end
section
variable {X:Cx}{o e value:Expr}{f:Str}{pos pos' tpos:Pos}{ta tv:TE}
end
section
variable {X:Cx}{pins:List (Addr×Obj)}{σ:St}{H:Hp}{s:Shared}{A:Around}{E:Value→Shared→Prop}{Q:Value→Shared→Prop}{c:Value}{b:Bool}
inductive TyOf (K:PySem.W.Frag) (H:Hp):V→Value→Prop where
 | non:TyOf K H .non (.type "NoneType")
 | bl (x:Bool):TyOf K H (.bl x) (.type "bool")
 | int (i:Int):TyOf K H (.int i) (.type "int")
 | str (x:Str):TyOf K H (.str x) (.type "str")
 | flt (x:UInt64):TyOf K H (.flt x) (.type "float")
 | lst {a:Addr} {xs:List V} (e:H a=some (.lst xs)):TyOf K H (.ref a) (.type "list")
 | frz {a:Addr} {o:Obj} {xs:List V} (e:H a=some (.frz o (.lst xs))):TyOf K H (.ref a) (.type "list")
 | tup {a:Addr} {xs:List V} (e:H a=some (.tup xs)):TyOf K H (.ref a) (.type "tuple")
 | dK {a:Addr} {kvs:List (Key×V)} (e:H a=some (.dK kvs)):TyOf K H (.ref a) (.type "dict")
 | dT {a:Addr} {kvs:List (List Key×V)} (e:H a=some (.dT kvs)):TyOf K H (.ref a) (.type "dict")
 | ins {a C dx:Addr} {fs:List (Str×V)} (e:H a=some (.ins C dx fs)) (cl:Cls K C) (ha:PySem.W.findIn K (.ref C) "__class__" = some (some (.builtin "object.__class__")))
  (hn:PySem.W.specialIn K (.builtin "object.__class__") "__get__" = some (some (.builtin "getset_descriptor.__get__"))) (htk:PySem.W.takesIn K (.builtin "object.__class__")=some true)
  (hm:PySem.W.mroIn K C (.type "object")=some true):TyOf K H (.ref a) (.ref C)
theorem z4D{x:V}{u t:Value}(I:Inv X pins σ H s)(rx:RelV x u)(ty:TyOf X.K H x t)(e:PySem.W.kitOne X.K t c=some b)(h:∀ tk,Q (.bool b) { s with toks:=tk }):
  wpAny (model X.prog X.w) A (call (.builtin "isinstance") [u,c]) Q E s:=by
 cases ty with
 | non=>cases (show u=Value.none from rx);exact PySem.W.kia_one PySem.W.kitx_none I.kIn True.intro e (fun z=>nomatch z) h
 | bl y=>cases (show u=Value.bool y from rx);exact PySem.W.kia_one PySem.W.kitx_bool I.kIn True.intro e (fun z=>nomatch z) h
 | int i=>obtain⟨t,q⟩:=(show ∃ t,u=Value.int i t from rx);cases q;exact PySem.W.kia_one PySem.W.kitx_int I.kIn True.intro e (fun z=>nomatch z) h
 | str y=>obtain⟨t,q⟩:=(show ∃ t,u=Value.str y t from rx);cases q;exact PySem.W.kia_one PySem.W.kitx_str I.kIn True.intro e (fun z=>nomatch z) h
 | flt y=>obtain⟨t,q⟩:=(show ∃ t,u=Value.float y t from rx);cases q;exact PySem.W.kia_one PySem.W.kitx_float I.kIn True.intro e (fun z=>nomatch z) h
 | @lst a xs ea =>
  cases (show u=Value.ref a from rx)
  obtain⟨_,_,n,_,h1⟩:=(show ObjOk X.prog X.w H s.heap a (.lst xs)from I.hok a _ ea)
  exact PySem.W.kia_one PySem.W.kitx_list I.kIn ⟨_,h1,rfl⟩ e (fun z=>nomatch z) h
 | @frz a ob xs ea =>
  cases (show u=Value.ref a from rx)
  obtain⟨_,_,_,n,_,h1⟩:=(show ObjOk X.prog X.w H s.heap a (.frz ob (.lst xs))from I.hok a _ ea)
  exact PySem.W.kia_one PySem.W.kitx_list I.kIn ⟨_,h1,rfl⟩ e (fun z=>nomatch z) h
 | @tup a xs ea =>
  cases (show u=Value.ref a from rx)
  obtain⟨_,_,_,p⟩:=(show ObjOk X.prog X.w H s.heap a (.tup xs)from I.hok a _ ea)
  obtain⟨o,h1,h2,_⟩:=p
  exact PySem.W.kia_one PySem.W.kitx_tuple I.kIn ⟨o,h1,h2⟩ e (fun z=>nomatch z) h
 | @dK a kvs ea =>
  cases (show u=Value.ref a from rx)
  obtain⟨_,_,vs,_,p⟩:=(show ObjOk X.prog X.w H s.heap a (.dK kvs)from I.hok a _ ea)
  obtain⟨o,es,ep,h1,h2,_⟩:=p
  exact PySem.W.kia_one PySem.W.kitx_dict I.kIn ⟨o,h1,h2.1⟩ e (fun z=>nomatch z) h
 | @dT a kvs ea =>
  cases (show u=Value.ref a from rx)
  obtain⟨_,_,xs,_,o,es,ep,h1,h2,_⟩:=(show ObjOk X.prog X.w H s.heap a (.dT kvs)from I.hok a _ ea)
  exact PySem.W.kia_one PySem.W.kitx_dict I.kIn ⟨o,h1,h2.1⟩ e (fun z=>nomatch z) h
 | @ins a C dx fs ea cl ha hn htk hm =>
  cases (show u=Value.ref a from rx)
  obtain⟨mA,O,_⟩:=zlt I.hok ea
  obtain⟨od,J,_⟩:=O.look
  exact PySem.W.kia_one (PySem.W.kitx_own (cl.get _) cl.hd ha hn htk hm) I.kIn J e (fun z=>nomatch z) h
end
end L2
namespace L2
open PySem PySem.Spec PyProof.Rows
structure Room(k:Nat)(A:Around):Prop where
 hd:A.handled=none
 dp:A.depth+3*k+5<recursionLimit
 un:A.units+16*k+200<cLine
theorem Room.mono{j k:Nat}{A:Around}(r:Room k A)(h:j≤k):Room j A:=⟨r.hd,by have:=r.dp;omega,by have:=r.un;omega⟩
theorem Room.deeper{k:Nat}{A:Around}(r:Room (k+1) A)(env:Env):Room k (A.deeper env) :=
 ⟨r.hd,by have:=r.dp;show A.depth+1+3*k+5<_;omega,by have:=r.un;show A.units+3+16*k+200<_;omega⟩
theorem Room.in1{k:Nat}{A:Around}(r:Room (k+1) A):Room k A.in1 :=
 ⟨r.hd,by have:=r.dp;show A.depth+3*k+5<_;omega,by have:=r.un;show A.units+1+16*k+200<_;omega⟩
theorem Room.depth{k:Nat}{A:Around}(r:Room k A):A.depth<recursionLimit:=by have:=r.dp;omega
theorem Room.units{k:Nat}{A:Around}(r:Room k A):A.units+64<cLine:=by have:=r.un;omega
def tNil:TA:=fun _ H Q=>Q [] H
def tCons(ta:TE)(tr:TA):TA:=fun σ H Q=>ta σ H fun x H1=>tr σ H1 fun xs H2=>Q (x::xs) H2
section
variable {X:Cx}{e:Expr}{es:List Expr}{te:TE}{t:TA}{pos:Pos}
theorem z7I:PA X [] tNil:=fun _ _ _ _ H Q I h=>Calls.spliced_nil ⟨[],H,I,.nil,h⟩
theorem z3w(ha:PE X e te)(hr:PA X es t)(hs:starEach (e::es) X.env=(false,eval e X.env)::starEach es X.env:=by rfl):PA X (e::es) (tCons te t):=by
 intro pos pins s σ H Q I h
 rw[hs]
 show wpAny _ _ (spliced ((false,eval e X.env)::backTo pos (starEach es X.env))) _ _ s
 refine Calls.spliced_cons (thn (ha pins s σ H _ I h) ?_)
 rintro u s1 ⟨x,H1,I1,r1,q1⟩
 exact thn (hr pos pins s1 σ H1 _ I1 q1) fun us s2 hZ=>hZ.elim fun xs hZ=>hZ.elim fun H2 hZ=>hZ.elim fun I2 hZ=>hZ.elim fun r2 q2=>⟨x::xs,H2,I2,.cons r1 r2,q2⟩
def tTup(t:TA):TE:=fun σ H Q=>t σ H fun xs H1=>xs.length≤sizeLine∧∀ p,H1 p=none→Q (.ref p) (upd H1 p (.tup xs))
def tLst(t:TA):TE:=fun σ H Q=>t σ H fun xs H1=>xs.length≤sizeLine∧∀ p,H1 p=none→Q (.ref p) (upd H1 p (.lst xs))
theorem pe_tup{x1}(h:PA X es t):PE X (.Tuple es x1 pos) (tTup t):=by
 intro pins s σ H Q I hq
 refine wpAny_Tuple_spliced (thn (h pos pins s σ H _ I hq) fun us s1 hZ=>hZ.elim fun xs hZ=>hZ.elim fun H1 hZ=>hZ.elim fun I1 hZ=>hZ.elim fun r hZ=>hZ.elim fun z q=>⟨by rw[←r.length];exact z,?_⟩)
 have hf:H1 s1.heap.objs.size=none:=I1.hok.fresh (Nat.le_refl _)
 refine⟨.ref s1.heap.objs.size,upd H1 s1.heap.objs.size (.tup xs),I1.laid (t':=s1.toks) (fun b u e=>Heap.get?_push_of_some _ e) (Nat.le_refl _) ?_,rfl,q _ hf⟩
 exact⟨z,us,r,⟨_,Heap.get?_push_size _ rfl,rfl,_,rfl⟩⟩
theorem pe_lst(h:PA X es t):PE X (.List es pos) (tLst t):=by
 intro pins s σ H Q I hq
 refine wpAny_List_spliced (thn (h pos pins s σ H _ I hq) fun us s1 hZ=>hZ.elim fun xs hZ=>hZ.elim fun H1 hZ=>hZ.elim fun I1 hZ=>hZ.elim fun r hZ=>hZ.elim fun z q=>⟨by rw[←r.length];exact z,?_⟩)
 have hf:H1 s1.heap.objs.size=none:=I1.hok.fresh (Nat.le_refl _)
 refine⟨.ref s1.heap.objs.size,upd H1 s1.heap.objs.size (.lst xs),I1.laid (t':=s1.toks) (fun b u e=>Heap.get?_push_of_some _ e) (Nat.le_refl _) ?_,rfl,q _ hf⟩
 exact⟨z,us,0,r,Heap.get?_push_size _ rfl⟩
end
abbrev Sp:=List V→Hp→VK→XK→Prop
abbrev CXT:=List Env→Hp→Shared→XK→Value→Shared→Prop
structure Env0(P:Program)(w:World)(K:PySem.W.Frag)(mg:Str→Option Value)(base:Heap)(A:Around)(outer:List Env)(s:Shared)(H:Hp):Prop where
 frames:A.frames=some outer
 mod:Mod K mg base
 bs:∀ b o,base.get? b=some o→s.heap.get? b=some o∧H b=none
 bsz:base.objs.size≤s.heap.objs.size
 funs:s.heap.FunFrames base outer
 frf:∀ b∈frs outer,H b=none
 hok:HOk P w H s.heap
 bare:AllBare s.gens
def CE(outer:List Env)(P:Program)(w:World)(H:Hp)(s:Shared)(Q:VK)(u:Value)(s':Shared):Prop :=
 ∃ v H',s'.os=s.os∧AllBare s'.gens∧Un (frs outer) [] H H' s.heap s'.heap∧HOk P w H' s'.heap∧RelV v u∧Q v H'
def CR(CX:CXT)(outer:List Env)(P:Program)(w:World)(H:Hp)(s:Shared)(Q:VK)(E:XK)(r:Result)(s':Shared):Prop :=
 match r with
 | .ok (.ret u)=>CE outer P w H s Q u s'
 | .ok _=>False
 | .error e=>CX outer H s E e s'
structure FnOk(P:Program)(w:World)(K:PySem.W.Frag)(mg:Str→Option Value)(base:Heap)(CX:CXT)(k:Nat)(f:Addr)(fd:FuncData)(ps:List Str)(sp:Sp):Prop where
 len:∀ vs H Q E,sp vs H Q E→vs.length=ps.length
 run:∀(A:Around) (outer:List Env) (s:Shared) (H:Hp) (args:Args) (us:List Value) (vs:List V) (Q:VK) (E:XK),Room k A→Env0 P w K mg base A outer s H→BindsTo s fd args (ps.zip us)→Vals vs us→sp vs H Q E →
  codeAny (model P w) A (.call (.ref f) args) (CR CX outer P w H s Q E) s
theorem FnOk.mono{P:Program}{w:World}{K:PySem.W.Frag}{mg:Str→Option Value}{base:Heap}{CX:CXT}{j k:Nat}{f:Addr}{fd:FuncData}{ps:List Str}{sp:Sp}(F:FnOk P w K mg base CX j f fd ps sp)(h:j≤k):
 FnOk P w K mg base CX k f fd ps sp:=⟨F.len,fun A outer s H args us vs Q E hr=>F.run A outer s H args us vs Q E (hr.mono h)⟩
theorem FnOk.imp{P:Program}{w:World}{K:PySem.W.Frag}{mg:Str→Option Value}{base:Heap}{CX:CXT}{k:Nat}{f:Addr}{fd:FuncData}{ps:List Str}{sp sp':Sp}(F:FnOk P w K mg base CX k f fd ps sp)
  (h:∀ vs H Q E,sp' vs H Q E→sp vs H Q E):FnOk P w K mg base CX k f fd ps sp' :=
 ⟨fun vs H Q E q=>F.len vs H Q E (h _ _ _ _ q),fun A outer s H args us vs Q E hr he hb hv hs=>F.run A outer s H args us vs Q E hr he hb hv (h _ _ _ _ hs)⟩
theorem Env0.in1{P:Program}{w:World}{K:PySem.W.Frag}{mg:Str→Option Value}{base:Heap}{A:Around}{outer:List Env}{s:Shared}{H:Hp}(e:Env0 P w K mg base A outer s H):
 Env0 P w K mg base A.in1 outer s H:=⟨e.frames,e.mod,e.bs,e.bsz,e.funs,e.frf,e.hok,e.bare⟩
section
variable {X:Cx}{pins:List (Addr×Obj)}{σ:St}{H:Hp}{s s':Shared}
theorem Inv.env0(I:Inv X pins σ H s):Env0 X.prog X.w X.K X.mg X.base X.A X.stack s H :=
 ⟨I.ok.frames,I.ok.mod,I.bs,Nat.le_trans I.ok.bsz I.sz,I.stack,I.stkFree,I.hok,I.bare⟩
theorem Inv.after{Q:VK}{u:Value}(I:Inv X pins σ H s)(h:CE X.stack X.prog X.w H s Q u s'):EP X pins σ Q u s':=by
 obtain⟨v,H',os,bare,un,hok,r,q⟩:=h
 obtain⟨hh,g,d,t,os'⟩:=s'
 obtain rfl:os'=s.os:=os
 exact⟨v,H',I.call (h':=hh) (g':=g) (d':=d) (t':=t) (ch:=[]) un hok bare (fun b z=>absurd z (by simp)),r,q⟩
end
def tCall(sp:Sp)(dvs:List V)(E:XK)(t:TA):TE:=fun σ H Q=>t σ H fun vs H1=>sp (vs++dvs) H1 Q E
def Binds(K:PySem.W.Frag)(fd:FuncData)(ps:List Str)(ds:List Value):Prop :=
 ∀(s:Shared) (us:List Value),K.In s.heap→(us++ds).length=ps.length→BindsTo s fd ⟨us,[]⟩ (ps.zip (us++ds))
theorem Binds.all{K:PySem.W.Frag}{fd:FuncData}{ps:List Str}(h:∀ us:List Value,us.length=ps.length→bindArgs fd ⟨us,[]⟩=pure (ps.zip us)):Binds K fd ps []:=fun s us _ hl=>by
 rw[List.append_nil]at hl ⊢
 exact .of_eq (h us hl)
def zar(CX:CXT)(X:Cx)(E:XK):Prop:=∀(pins:List (Addr×Obj)) (σ:St) (H:Hp) (s:Shared) (e:Value) (s':Shared),Inv X pins σ H s→CX X.stack H s E e s'→X.xe e s'
section
variable {X:Cx}{CX:CXT}{k:Nat}{f C:Addr}{fd:FuncData}{ps:List Str}{sp:Sp}{dvs:List V}{ds:List Value}{E:XK}{x m:Str}{p pos apos:Pos}{e o:Expr}{es:List Expr}{ta:TE}{t:TA}
theorem run_fn{pins:List (Addr×Obj)}{σ:St}{H:Hp}{s:Shared}{Q:VK}{us:List Value}{vs:List V}(F:FnOk X.prog X.w X.K X.mg X.base CX k f fd ps sp)(hr:Room k X.A)(hb:Binds X.K fd ps ds)(hd:Vals dvs ds)(hx:zar CX X E)
  (I:Inv X pins σ H s) (r:Vals vs us) (h:sp (vs++dvs) H Q E):wpAny (model X.prog X.w) X.A (call (.ref f) us) (EP X pins σ Q) X.xe s:=by
 have r2:Vals (vs++dvs) (us++ds):=r.append hd
 have hl:(us++ds).length=ps.length:=by rw[←r2.length];exact F.len _ _ _ _ h
 refine wpAny_call (codeAny_mono (F.run X.A X.stack s H ⟨us,[]⟩ (us++ds) (vs++dvs) Q E hr I.env0 (hb s us I.kIn hl) r2 h) fun r s' hq=>?_)
 cases r with
 | error e=>exact hx pins σ H s e s' I hq
 | ok fl =>
  cases fl with
  | ret u=>exact I.after hq
  | next=>exact False.elim hq
  | brk=>exact False.elim hq
  | cont=>exact False.elim hq
theorem zlu(F:FnOk X.prog X.w X.K X.mg X.base CX k f fd ps sp)(hr:Room k X.A)(hg:Gl X x)(hm:X.mg x=some (.ref f))(hk:PySem.W.keepIn X.K (.ref f)=true)(hb:Binds X.K fd ps ds)(hd:Vals dvs ds)(hx:zar CX X E)
  (ha:PA X (e::es) t) (hdb:(x==("__debug__" : Str))=false:=by decide) (he:starEach (e::es) X.env=(false,eval e X.env)::starEach es X.env:=by rfl) (hpl:(backTo pos (starEach es X.env)).any (·.1)=false:=by rfl) :
  PE X (.Call (.Name x p) (e::es) [] pos) (tCall sp dvs E t):=by
 intro pins s σ H Q I h
 refine wpAny_Call_Name_kw (zfS I hg hm ?_ hdb)
 refine PySem.W.callWith_K (h₀:=X.base) I.ok.mod.kin hk (thn (ha pos pins s σ H _ I h) fun us s1 hZ=>hZ.elim fun vs hZ=>hZ.elim fun H1 hZ=>hZ.elim fun I1 hZ=>hZ.elim fun r q=>⟨I1.kIn,?_⟩) he hpl
 exact run_fn F hr hb hd hx I1 r q
end
def PK(X:Cx)(kws:List Keyword)(t:TA):Prop :=
 ∀(pos:Pos) (pins:List (Addr×Obj)) (s:Shared) (σ:St) (H:Hp) (Q:List V→Hp→Prop),Inv X pins σ H s→t σ H Q→wpAny (model X.prog X.w) X.A (evalAll ((backToKw pos (keywordEach kws X.env)).map (·.2))) (AP X pins σ Q) X.xe s
section
variable {X:Cx}{CX:CXT}{k:Nat}{f C:Addr}{fd:FuncData}{ps ks:List Str}{sp:Sp}{E:XK}{x m:Str}{p pos apos kpos:Pos}{e o:Expr}{es:List Expr}{kws:List Keyword}{te ta:TE}{t tk:TA}{nm:Option Str}
theorem zhM:PK X [] tNil:=fun _ _ _ _ H Q I h=>wpAny_evalAll_nil ⟨[],H,I,.nil,h⟩
theorem zfV(ha:PE X e te)(hr:PK X kws t):PK X (⟨nm,e,kpos⟩::kws) (tCons te t):=by
 intro pos pins s σ H Q I h
 show wpAny _ _ (evalAll ((do let v ←eval e X.env;standAt pos;pure v)::(backToKw pos (keywordEach kws X.env)).map (·.2))) _ _ s
 refine wpAny_evalAll_cons (wpAny_bind (thn (ha pins s σ H _ I h) fun u s1 hZ=>hZ.elim fun x hZ=>hZ.elim fun H1 hZ=>hZ.elim fun I1 hZ=>hZ.elim fun r1 q1=>wpAny_bind (wpAny_standAt (wpAny_pure ?_))))
 exact thn (hr pos pins s1 σ H1 _ I1 q1) fun us s2 hZ=>hZ.elim fun xs hZ=>hZ.elim fun H2 hZ=>hZ.elim fun I2 hZ=>hZ.elim fun r2 q2=>⟨x::xs,H2,I2,.cons r1 r2,q2⟩
variable {g:List Value→List Value→List Value}{gV:List V→List V→List V}
end
structure FnScope(N P:List Str)(sc:Scope):Prop where
 kind:sc.kind = .function
 co:sc.isCoroutine=false
 gen:sc.isGenerator=false
 nd:N.Nodup
 pre:N.take P.length=P
 par:∀ x∈P,sc.names.lookup x=some .local∨sc.names.lookup x=some .cell
 nofree:∀ y∈sc.names,y.2 ≠ .free
theorem z9a{kindOf:Str→Option NameKind}{x:Str}:∀{binds:List (Str×Value)} {m:Str→Option Value},(∀ v,(x,v) ∉ binds)→bindL kindOf binds m x=m x
 | [],_,_=>rfl
 | (n,v)::r,m,h=>by
  unfold bindL
  rw[z9a fun w hw=>h w (List.mem_cons_of_mem _ hw)]
  split
  · have:x≠n:=by rintro rfl;exact h v List.mem_cons_self
    simp[this]
  · rfl
theorem z9b{kindOf:Str→Option NameKind}{x:Str}:∀{binds:List (Str×Value)} {m:Str→Option Value},(∀ v,(x,v) ∉ binds)→bindC kindOf binds m x=m x
 | [],_,_=>rfl
 | (n,v)::r,m,h=>by
  unfold bindC
  rw[z9b fun w hw=>h w (List.mem_cons_of_mem _ hw)]
  split
  · rfl
  · have:x≠n:=by rintro rfl;exact h v List.mem_cons_self
    simp[this]
theorem z9c{kindOf:Str→Option NameKind}{x:Str}{v:Value}:∀{P:List Str} {vs:List Value} {i:Nat} {m:Str→Option Value},P.Nodup→P[i]?=some x→vs[i]?=some v→kindOf x=some .local →
  bindL kindOf (P.zip vs) m x=some v
 | [],_,_,_,_,h,_,_=>by simp at h
 | _::_,[],_,_,_,_,h,_=>by simp at h
 | p::P,w::vs,0,m,nd,h1,h2,hk=>by
  simp at h1 h2;subst h1;subst h2
  show bindL kindOf ((p,w)::P.zip vs) m p=_
  unfold bindL
  rw[z9a fun v hv=>(List.nodup_cons.mp nd).1 (List.of_mem_zip hv).1,if_pos hk]
  simp
 | p::P,w::vs,i+1,m,nd,h1,h2,hk=>by
  show bindL kindOf ((p,w)::P.zip vs) m x=_
  unfold bindL
  exact z9c (i:=i) (List.nodup_cons.mp nd).2 (by simpa using h1) (by simpa using h2) hk
theorem z9d{kindOf:Str→Option NameKind}{x:Str}{v:Value}:∀{P:List Str} {vs:List Value} {i:Nat} {m:Str→Option Value},P.Nodup→P[i]?=some x→vs[i]?=some v→kindOf x≠some .local →
  bindC kindOf (P.zip vs) m x=some v
 | [],_,_,_,_,h,_,_=>by simp at h
 | _::_,[],_,_,_,_,h,_=>by simp at h
 | p::P,w::vs,0,m,nd,h1,h2,hk=>by
  simp at h1 h2;subst h1;subst h2
  show bindC kindOf ((p,w)::P.zip vs) m p=_
  unfold bindC
  rw[z9b fun v hv=>(List.nodup_cons.mp nd).1 (List.of_mem_zip hv).1,if_neg hk]
  simp
 | p::P,w::vs,i+1,m,nd,h1,h2,hk=>by
  show bindC kindOf ((p,w)::P.zip vs) m x=_
  unfold bindC
  exact z9d (i:=i) (List.nodup_cons.mp nd).2 (by simpa using h1) (by simpa using h2) hk
def start(N:List Str)(vs:List V):St:=vs.map some++List.replicate (N.length-vs.length) none
def cxOf(CX:CXT)(P:Program)(w:World)(K:PySem.W.Frag)(mg:Str→Option Value)(base:Heap)(N:List Str)(qual:Str)(scope:Scope)(f:Addr)(cd:Value)(A:Around)(outer:List Env)(s:Shared)(H:Hp)(E:XK):Cx where
 prog:=P
 w:=w
 K:=K
 mg:=mg
 base:=base
 A:=A.deeper (envOfC qual scope s.heap.objs.size f cd)
 N:=N
 s₀:=s
 H₀:=H
 env:=envOfC qual scope s.heap.objs.size f cd
 outer:=outer
 stack:=envOfC qual scope s.heap.objs.size f cd::outer
 ex:=[]
 calm:=true
 fn:=fun _=>true
 pn:=[]
 xe:=fun e s'=>wpAny (model P w) (A.deeper (envOfC qual scope s.heap.objs.size f cd)) (leaving (envOfC qual scope s.heap.objs.size f cd) e) (fun _ s''=>CX outer H s E e s'') (fun e' s''=>CX outer H s E e' s'') s'
theorem zbf{sc:Scope}{n:Nat}{x:Str}(h:sc.names.lookup x=some .cell):∃ c,(cellsFrom n sc.names []).lookup x=some c:=by
 have q:=PySem.W.cellsFrom_some sc.names n [] (.inl h)
 exact Option.isSome_iff_exists.mp q
theorem zgJ{CX:CXT}{P:Program}{w:World}{K:PySem.W.Frag}{mg:Str→Option Value}{base:Heap}{N ps:List Str}{qual:Str}{scope:Scope}{f:Addr}{cd:Value}{A:Around}{outer:List Env}{s s1:Shared}{H:Hp}{E:XK}{us:List Value}{vs:List V}
   (S:FnScope N ps scope) (hd:A.handled=none) (e0:Env0 P w K mg base A outer s H) (hl:vs.length=ps.length) (r:Vals vs us)
   (x:InCallC s s.heap.objs.size (bindL (envOfC qual scope s.heap.objs.size f cd).kindOf (ps.zip us) fun _=>none) (cellsFrom (s.heap.objs.size+1) scope.names []) (bindC (envOfC qual scope s.heap.objs.size f cd).kindOf (ps.zip us) fun _=>none) s1) :
   Inv (cxOf CX P w K mg base N qual scope f cd A outer s H E) [] (start N vs) H s1:=by
 have hpl:ps.length≤N.length:=by have:=congrArg List.length S.pre;rw[List.length_take]at this;omega
 obtain⟨h1,tk,rfl,hk⟩:=x.done
 have noA:∀ b:Addr,b ∉ (cxOf CX P w K mg base N qual scope f cd A outer s H E).ex:=fun b z=>absurd (show b∈([]:List Addr)from z) (by simp)
 refine⟨⟨e0.mod,S.kind,rfl,rfl,Nat.le_refl _,fun y z c h1 h2=>?_,fun y hy=>?_,fun y c _ h=>?_,fun _=>hd,Around.frames_deeper e0.frames,.inr ⟨rfl,rfl⟩,fun b z=>absurd z (noA b),e0.bs,e0.bsz,fun b _ _=>noA b,fun b z=>absurd z (noA b),e0.funs,e0.frf⟩,
   rfl,e0.bare,Un.kept hk,⟨_,x.toInCall.ns,fun i y v h1 h2 h3=>?_⟩,fun y c h=>⟨_,x.cell y c h⟩,e0.hok.fresh (Nat.le_refl _),fun y c h=>?_,fun p hp=>absurd (show p∈([]:List (Addr×Obj))from hp) (by simp),e0.hok.kept hk,?_⟩
 · exact name_of_addr x.apart (PySem.mem_of_lookup h1) (PySem.mem_of_lookup h2)
 · have hy:scope.names.lookup y=some .cell∨scope.names.lookup y=some .free:=hy
   rcases hy with hy|hy
   · exact zbf hy
   · exact absurd rfl (S.nofree _ (PySem.mem_of_lookup hy))
 · exact Nat.le_of_lt (x.above y c (PySem.mem_of_lookup h))
 · have hi:i<vs.length:=by
     unfold start at h2
     by_cases hi:i<vs.length
     · exact hi
     · rw[List.getElem?_append_right (by simpa using hi)]at h2
       rw[List.getElem?_replicate]at h2
       split at h2<;>cases h2
   have ha:vs[i]?=some v:=by
     unfold start at h2
     rw[List.getElem?_append_left (by simpa using hi),List.getElem?_map]at h2
     cases e:vs[i]? with
     | none=>rw[e]at h2;cases h2
     | some a=>rw[e]at h2;cases h2;rfl
   obtain⟨u,hu,rv⟩:=r.get ha
   have hp:ps[i]?=some y:=by
     rw[←S.pre,List.getElem?_take_of_lt (by omega)];exact h1
   have ndP:ps.Nodup:=by rw[←S.pre];exact S.nd.sublist (List.take_sublist _ _)
   refine⟨u,rv,?_⟩
   rcases S.par y (List.mem_of_getElem? hp)with k|k
   · exact .inl ⟨k,z9c ndP hp hu k⟩
   · obtain⟨c,e⟩:=zbf (n:=s.heap.objs.size+1) k
     refine .inr ⟨.inl k,c,e,?_⟩
     have q:=x.cell y c e
     rw[z9d ndP hp hu (by show scope.names.lookup y≠_;rw[k];decide)]at q
     exact q
 · exact e0.hok.fresh (Nat.le_of_lt (x.above y c (PySem.mem_of_lookup h)))
 · unfold start
   show _=N.length
   rw[List.length_append,List.length_map,List.length_replicate]
   omega
theorem fn_of{CX:CXT}{P:Program}{w:World}{K:PySem.W.Frag}{mg:Str→Option Value}{base:Heap}{k:Nat}{f:Addr}{name qual:Str}{params:Arguments}{body:List Stmt}{scope:Scope}{dV kV doc pm cdv ct oc:Value}{an od:Option Addr}
  {osl:Array (Option Value)} {N ps:List Str} {sp:Sp} (lk:K.lookup f=some ⟨oc,od,.func (PySem.W.fnOf name qual params body scope dV kV doc pm an cdv ct),osl⟩) (hcd:PySem.W.codeIn K cdv qual=true) (S:FnScope N ps scope)
  (len:∀ vs H Q E,sp vs H Q E→vs.length=ps.length)
  (hbody:∀(A:Around) (outer:List Env) (s:Shared) (H:Hp) (vs:List V) (Q:VK) (E:XK),Room k (A.deeper (envOfC qual scope s.heap.objs.size f cdv))→sp vs H Q E →
    ∃ t,PSs (cxOf CX P w K mg base N qual scope f cdv A outer s H E) body t∧t { nx:=fun _ H'=>Q .non H',rt:=Q } (start N vs) H) :
  FnOk P w K mg base CX (k+1) f (PySem.W.fnOf name qual params body scope dV kV doc pm an cdv ct) ps sp:=by
 refine⟨len,fun A outer s H args us vs Q E hr e0 hb r hsp=>?_⟩
 have hl:=len _ _ _ _ hsp
 have KX:K.In s.heap:=e0.mod.kin.keeps fun b o e=>(e0.bs b o e).1
 have lim:s.heap.NoLimit:=e0.mod.nolimit.keeps fun b o e=>(e0.bs b o e).1
 have hkind:∀ y∈ps.zip us,scope.names.lookup y.1=some .local∨(scope.names.lookup y.1=some .cell∧((cellsFrom (s.heap.objs.size+1) scope.names []).lookup y.1).isSome=true):=fun⟨n,v⟩ hy=>by
  rcases S.par n (List.of_mem_zip hy).1 with q|q
  · exact .inl q
  · exact .inr ⟨q,PySem.W.cellsFrom_some _ _ _ (.inl q)⟩
 refine codeAny_call_function hr.depth (KX _ _ lk) rfl S.co S.gen rfl (PySem.W.codeRec_of KX hcd) (hb _ _ _ _ ?_)
 refine wpAny_newFunctionEnv_cells S.kind hkind fun env he s1 x=>?_
 subst he
 refine⟨lim.keeps x.toInCall.keep,codeAny_func ?_⟩
 obtain⟨t,ht,hq⟩:=hbody A outer s H vs Q E (hr.deeper _) hsp
 have I:Inv (cxOf CX P w K mg base N qual scope f cdv A outer s H E) [] (start N vs) H s1:=zgJ S hr.hd e0 hl r x
 refine wpAny_mono (ht [] s1 (start N vs) H _ I hq) (fun fl s' hs=>?_) fun e s' hs=>hs
 have fin:∀{σ':St} {H':Hp} {v:V} {u:Value},Inv (cxOf CX P w K mg base N qual scope f cdv A outer s H E) [] σ' H' s'→RelV v u→Q v H'→CE outer P w H s Q u s' :=
  fun{σ' H' v u} J rv q=>⟨v,H',J.os,J.bare,J.base,J.hok,rv,q⟩
 cases fl with
 | ret u =>
  obtain⟨v,σ',H',J,rv,q⟩:=hs
  exact fin J rv q
 | next =>
  obtain⟨σ',H',J,q⟩:=hs
  exact fin (v:=V.non) (u:=Value.none) J rfl q
 | brk =>
  obtain⟨_,_,_,q⟩:=hs
  exact False.elim q
 | cont =>
  obtain⟨_,_,_,q⟩:=hs
  exact False.elim q
end L2
namespace L2
open PySem PySem.Spec PyProof.Rows
section
variable {X:Cx}{x:Str}{p pos:Pos}{e:Expr}{es:List Expr}{t:TA}{id T:String}{r:List V→Hp→VK→Prop}
def tCB(r:List V→Hp→VK→Prop)(t:TA):TE:=fun σ H Q=>t σ H fun vs H1=>r vs H1 Q
theorem zbg(hc:CallR X (.builtin id) r)(hg:Gl X x)(hm:X.mg x=none)(hv:bootBuiltins x=some (.builtin id))(ha:PA X (e::es) t)(hn:x ≠ "__name__" := by decide)(hdb:(x==("__debug__" : Str))=false:=by decide)
  (he:starEach (e::es) X.env=(false,eval e X.env)::starEach es X.env:=by rfl) (hpl:(backTo pos (starEach es X.env)).any (·.1)=false:=by rfl):PE X (.Call (.Name x p) (e::es) [] pos) (tCB r t):=by
 intro pins s σ H Q I h
 refine wpAny_Call_Name_kw (z3u I hg hm hv ?_ hn hdb)
 exact PyProof.Rows.callWith_builtin1 (thn (ha pos pins s σ H _ I h) fun us s1 hZ=>hZ.elim fun vs hZ=>hZ.elim fun H1 hZ=>hZ.elim fun I1 hZ=>hZ.elim fun r1 q1=>hc pins s1 σ H1 vs us Q I1 r1 q1) he hpl
theorem zgK(hc:CallR X (.type T) r)(hg:Gl X x)(hm:X.mg x=none)(hv:bootBuiltins x=some (.type T))(ha:PA X (e::es) t)(hn:x ≠ "__name__" := by decide)(hdb:(x==("__debug__" : Str))=false:=by decide)
  (he:starEach (e::es) X.env=(false,eval e X.env)::starEach es X.env:=by rfl) (hpl:(backTo pos (starEach es X.env)).any (·.1)=false:=by rfl):PE X (.Call (.Name x p) (e::es) [] pos) (tCB r t):=by
 intro pins s σ H Q I h
 refine wpAny_Call_Name_kw (z3u I hg hm hv ?_ hn hdb)
 exact PyProof.Rows.callWith_type1 (thn (ha pos pins s σ H _ I h) fun us s1 hZ=>hZ.elim fun vs hZ=>hZ.elim fun H1 hZ=>hZ.elim fun I1 hZ=>hZ.elim fun r1 q1=>hc pins s1 σ H1 vs us Q I1 r1 q1) he hpl
end
end L2
namespace HT
open PySem PyProof.Rows
section
open PySem.SeqAt
open PySem.AutoSeq1 (wpAny_loadPart')
open PySem.MeetsSeq PySem.MeetsSeq2 PySem.MeetsSeq3
end
section
variable {prog:Program}{w:World}{A:Around}{E:Value→Shared→Prop}{s:Shared}
theorem cat_tup{t b:Addr}{vs ws:List Value}{Q:Value→Shared→Prop}(ht:IsTup s.heap t vs.toArray)(hb:IsTup s.heap b ws.toArray)(hv:vs≠[])
   (h1:ws=[]→Q (.ref t) s) (h2:ws≠[]→Q (.ref s.heap.objs.size) { s with heap:=s.heap.push { cls := .type "tuple",data := .seq (vs++ws).toArray } })
   (hsz:vs.length+ws.length≤sizeLine):wpAny (model prog w) A (binaryOp .Add (.ref t) (.ref b)) Q E s:=by
 obtain⟨⟨cls,dd,data,sl⟩,ho,hc,n,hd⟩:=id ht
 obtain⟨⟨cls2,dd2,data2,sl2⟩,ho2,hc2,n2,hd2⟩:=id hb
 simp only at hc hd hc2 hd2
 subst hc hd hc2 hd2
 have e:vs.toArray++ws.toArray=(vs++ws).toArray:=by simp
 by_cases hw:ws=[]
 · exact concat_meets ⟨_,ho,rfl⟩ ⟨_,ho2,rfl⟩ noFill_tuple_add seq_tuple_add PySem.F.slot_tuple_add PySem.F.entry_tuple_add (PySem.F.args_tuple_add_2 _ _)
    (tuple_addW1 t b vs.toArray ws.toArray n n2 dd dd2 sl sl2 (by simpa using hv) (by simp[hw])) ⟨ho,ho2,h1 hw⟩
 · refine concat_meets ⟨_,ho,rfl⟩ ⟨_,ho2,rfl⟩ noFill_tuple_add seq_tuple_add PySem.F.slot_tuple_add PySem.F.entry_tuple_add (PySem.F.args_tuple_add_2 _ _)
    (tuple_addW2 t b vs.toArray ws.toArray n n2 dd dd2 sl sl2 (by simpa using hv) (by simpa using hw) (by rw[List.size_toArray,List.size_toArray];exact hsz)) ⟨ho,ho2,?_⟩
   rw[e]
   exact h2 hw
def sIx(n d:Nat):Option Int→Nat
 | none=>d
 | some v=>if v<0 then(v+(n:Int)).toNat else min v.toNat n
theorem sIx_none(n d:Nat):sIx n d none=d:=rfl
theorem sIx_nat(n d k:Nat):sIx n d (some (k:Int))=min k n:=by
 show(if(k:Int)<0 then((k:Int)+(n:Int)).toNat else min (k:Int).toNat n)=min k n
 rw[if_neg (by omega),Int.toNat_natCast]
end
end HT
namespace L2
open PySem PySem.Spec PyProof.Rows
abbrev TO:=St→Hp→(Option Int→Hp→Prop)→Prop
def PO(X:Cx)(e:Option Expr)(t:TO):Prop :=
 ∀(pins:List (Addr×Obj)) (s:Shared) (σ:St) (H:Hp) (Q:Option Int→Hp→Prop),Inv X pins σ H s→t σ H Q →
  wpAny (model X.prog X.w) X.A (evalPart e X.env) (fun u s'=>∃ o H',Inv X pins σ H' s'∧IsPart u o∧Q o H') X.xe s
def zlv:TO:=fun _ H Q=>Q none H
def tPart(t:TE):TO:=fun σ H Q=>t σ H fun x H1=>∃ i,x = .int i∧Q (some i) H1
section
variable {X:Cx}{e:Expr}{te:TE}{lo hi:Option Expr}{tl th:TO}{pos p2:Pos}
theorem zlw:PO X none zlv:=by
 intro pins s σ H Q I h
 rw[evalPart_none]
 exact wpAny_pure ⟨none,H,I,.none,h⟩
theorem zlx(h:PE X e te):PO X (some e) (tPart te):=by
 intro pins s σ H Q I hw
 rw[evalPart_some]
 refine thn (h pins s σ H _ I hw) ?_
 rintro u s1 ⟨x,H1,I1,r1,q1⟩
 obtain⟨i,rfl,q⟩:=q1
 obtain⟨t,rfl⟩:=r1
 exact⟨some i,H1,I1,.int i t,q⟩
def SlR(X:Cx)(r:V→Option Int→Option Int→Hp→VK→Prop):Prop :=
 ∀(pins:List (Addr×Obj)) (s:Shared) (σ:St) (H:Hp) (x:V) (v vl vu:Value) (lo hi:Option Int) (sl:Addr) (Q:VK),Inv X pins σ H s→RelV x v→s.heap.IsSliceOf sl vl vu .none→IsPart vl lo→IsPart vu hi→r x lo hi H Q →
  ∃ T id,typeLookup (.type T) "__getitem__" = pure (some (.builtin id))∧s.TypeIs v T∧wpAny (model X.prog X.w) X.A (getItem v (.ref sl)) (EP X pins σ Q) X.xe s
theorem SlR.or{r r':V→Option Int→Option Int→Hp→VK→Prop}(h:SlR X r)(h':SlR X r'):SlR X (fun x lo hi H Q=>r x lo hi H Q∨r' x lo hi H Q):=by
 intro pins s σ H x v vl vu lo hi sl Q I rx hs pl pu q
 rcases q with q|q
 · exact h pins s σ H x v vl vu lo hi sl Q I rx hs pl pu q
 · exact h' pins s σ H x v vl vu lo hi sl Q I rx hs pl pu q
def tSl(r:V→Option Int→Option Int→Hp→VK→Prop)(te:TE)(tl th:TO):TE:=fun σ H Q=>te σ H fun x H1=>tl σ H1 fun l H2=>th σ H2 fun u H3=>r x l u H3 Q
theorem zhN{r:V→Option Int→Option Int→Hp→VK→Prop}(hr:SlR X r)(he:PE X e te)(hl:PO X lo tl)(hu:PO X hi th):PE X (.Subscript e (.Slice lo hi none p2) pos) (tSl r te tl th):=by
 intro pins s σ H Q I h
 refine Subscript_ (thn (he pins s σ H _ I h) ?_)
 rintro v s1 ⟨x,H1,I1,r1,q1⟩
 refine wpAny_Slice (thn (hl pins s1 σ H1 _ I1 q1) fun vl s2 hZ=>hZ.elim fun l hZ=>hZ.elim fun H2 hZ=>hZ.elim fun I2 hZ=>hZ.elim fun pl q2=>thn (hu pins s2 σ H2 _ I2 q2) ?_)
 rintro vu s3 ⟨u,H3,I3,pu,q3⟩
 rw[evalPart_none]
 refine wpAny_pure ?_
 have I4:Inv X pins σ H3 { s3 with heap:=s3.heap.push { cls := .type "slice",data := .fields #[vl,vu,.none] } }:=I3.kept (t':=s3.toks) fun b ob q=>Heap.get?_push_of_some _ q
 obtain⟨T,id,hT,ht,hg⟩:=hr pins { s3 with heap:=s3.heap.push { cls := .type "slice",data := .fields #[vl,vu,.none] } } σ H3 x v vl vu l u s3.heap.objs.size Q I4 r1 (Heap.IsSliceOf.new ..) pl pu q3
 show wpAny (model X.prog X.w) X.A (subscriptTail e (.Slice lo hi none p2) v (.ref s3.heap.objs.size)) (EP X pins σ Q) X.xe { s3 with heap:=s3.heap.push { cls := .type "slice",data := .fields #[vl,vu,.none] } }
 exact tail_any (ops:=[.ref s3.heap.objs.size,v]) ht hT hg (by with_unfolding_all rfl)
def cutV(xs:List V)(lo hi:Option Int):List V:=(xs.drop (HT.sIx xs.length 0 lo)).take (HT.sIx xs.length xs.length hi-HT.sIx xs.length 0 lo)
theorem zbh(xs:List V)(lo hi:Option Int):(cutV xs lo hi).length≤xs.length:=by
 unfold cutV
 rw[List.length_take,List.length_drop]
 omega
def rCatT(K:PySem.W.Frag):R2:=fun x y H Q=>∃ a b xs ys,x = .ref a∧y = .ref b∧SqT K H a xs∧SqT K H b ys∧xs≠[]∧xs.length+ys.length≤sizeLine ∧
 (ys=[]→Q (.ref a) H)∧(ys≠[]→∀ p,H p=none→Q (.ref p) (upd H p (.tup (xs++ys))))
theorem Vals.nil_iff{xs:List V}{us:List Value}(r:Vals xs us):us=[]↔xs=[]:=by
 cases r with
 | nil=>simp
 | cons _ _=>simp
theorem zly:OpR X (binaryOp .Add) (rCatT X.K):=by
 intro pins s σ H x y v u Q I rx ry h
 obtain⟨a,b,xs,ys,rfl,rfl,ha,hb,hx,hz,q1,q2⟩:=h
 cases rx
 cases ry
 obtain⟨its,r1,p1,_⟩:=I.tuple ha
 obtain⟨its2,r2,p2,_⟩:=I.tuple hb
 refine HT.cat_tup p1 p2 (fun z=>hx (r1.nil_iff.mp z)) (fun z=>⟨.ref a,H,I,rfl,q1 (r2.nil_iff.mp z)⟩) (fun z=>?_) (by rw[←r1.length,←r2.length];exact hz)
 refine⟨.ref s.heap.objs.size,_,I.laid (t':=s.toks) (o := .tup (xs++ys)) (fun b ob q=>Heap.get?_push_of_some _ q) (Nat.le_refl _) ?_,rfl,q2 (fun w=>z (r2.nil_iff.mpr w)) _ (I.hok.fresh (Nat.le_refl _))⟩
 exact⟨by rw[List.length_append];exact hz,_,r1.append r2,IsTup.new _ _⟩
end
end L2
namespace L2
open PySem PySem.Spec PyProof.Rows
def ixN(n:Nat)(i:Int):Option Nat:=if 0≤i then(if i<n then some i.toNat else none) else if -(n:Int)≤i then some (i+n).toNat else none
def atI{α:Type}(xs:List α)(i:Int):Option α:=(ixN xs.length i).bind fun j=>xs[j]?
theorem zfW{n:Nat}{i:Int}{j:Nat}(h:ixN n i=some j):seqIndex? i n=some j∧j<n ∧ -(n:Int)≤i∧i<n:=by
 unfold ixN at h
 by_cases h0:0≤i
 · rw[if_pos h0]at h
   by_cases h1:i<n
   · rw[if_pos h1]at h
     have e:i.toNat=j:=Option.some.inj h
     exact⟨by rw[seqIndex_of h0 h1,e],by omega,by omega,h1⟩
   · rw[if_neg h1]at h;cases h
 · rw[if_neg h0]at h
   by_cases h1 : -(n:Int)≤i
   · rw[if_pos h1]at h
     have e:(i+n).toNat=j:=Option.some.inj h
     exact⟨by rw[seqIndex_neg (by omega) h1,e],by omega,h1,by omega⟩
   · rw[if_neg h1]at h;cases h
theorem zas{α:Type}{xs:List α}{i:Int}{v:α}(h:atI xs i=some v):∃ j,seqIndex? i xs.length=some j∧xs[j]?=some v∧j<xs.length ∧ -(xs.length:Int)≤i∧i<xs.length:=by
 unfold atI at h
 cases e:ixN xs.length i with
 | none=>rw[e]at h;cases h
 | some j =>
  rw[e]at h
  obtain⟨h1,h2,h3,h4⟩:=zfW e
  exact⟨j,h1,h,h2,h3,h4⟩
theorem z4E{α:Type}{xs:List α}{j:Nat}{v:α}(h:xs[j]?=some v):atI xs (j:Int)=some v:=by
 have hj:j<xs.length:=(List.getElem?_eq_some_iff.mp h).1
 have e:ixN xs.length (j:Int)=some j:=by
  unfold ixN
  rw[if_pos (by omega),if_pos (by omega)];simp
 unfold atI;rw[e];exact h
def z7p(b:Expr):Prop:=∀ o i,subscripted b false o i=operate [o,i] (getItem o i)
def IxR(X:Cx)(r:R2):Prop :=
 ∀(value slice:Expr) (pins:List (Addr×Obj)) (s:Shared) (σ:St) (H:Hp) (x y:V) (v u:Value) (Q:VK),Inv X pins σ H s→RelV x v→RelV y u→r x y H Q →
  subscripted slice false v u=operate [v,u] (getItem v u)→wpAny (model X.prog X.w) X.A (subscriptTail value slice v u) (EP X pins σ Q) X.xe s
def MtR(X:Cx)(id:String)(r:V→List V→Hp→VK→Prop):Prop :=
 ∀(pins:List (Addr×Obj)) (s:Shared) (σ:St) (H:Hp) (x:V) (xs:List V) (v:Value) (us:List Value) (Q:VK),Inv X pins σ H s→RelV x v→Vals xs us→r x xs H Q →
  wpAny (model X.prog X.w) X.A (call (.builtin id) (v::us)) (EP X pins σ Q) X.xe s
section
variable {X:Cx}{a b:Expr}{ta tb:TE}{pos:Pos}
theorem IxR.or{r r':R2}(h:IxR X r)(h':IxR X r'):IxR X (fun x y H Q=>r x y H Q∨r' x y H Q):=by
 intro value slice pins s σ H x y v u Q I rx ry q hs
 rcases q with q|q
 · exact h value slice pins s σ H x y v u Q I rx ry q hs
 · exact h' value slice pins s σ H x y v u Q I rx ry q hs
theorem MtR.or{id:String}{r r':V→List V→Hp→VK→Prop}(h:MtR X id r)(h':MtR X id r'):MtR X id (fun x xs H Q=>r x xs H Q∨r' x xs H Q):=by
 intro pins s σ H x xs v us Q I rx rs q
 rcases q with q|q
 · exact h pins s σ H x xs v us Q I rx rs q
 · exact h' pins s σ H x xs v us Q I rx rs q
theorem zhO{r:R2}(hr:IxR X r)(ha:PE X a ta)(hb:PE X b tb)(hs:z7p b):PE X (.Subscript a b pos) (tOp r ta tb):=by
 intro pins s σ H Q I h
 exact Subscript_ (binT ha hb I h fun v u s2 x y H2 I2 rx ry q=>hr a b pins s2 σ H2 x y v u Q I2 rx ry q (hs _ _))
def rIxL(K:PySem.W.Frag):R2:=fun x y H Q=>∃ p xs i v,x = .ref p∧y = .int i∧SqL K H p xs∧atI xs i=some v∧Q v H
def rIxT(K:PySem.W.Frag):R2:=fun x y H Q=>∃ p xs i v,x = .ref p∧y = .int i∧SqT K H p xs∧atI xs i=some v∧Q v H
def rIxS:R2:=fun x y H Q=>∃ z i c,x = .str z∧y = .int i∧z.length≤sizeLine∧atI z.cps.toList i=some c∧Q (.str ⟨#[c]⟩) H
theorem zat:IxR X (rIxL X.K):=by
 intro value slice pins s σ H x y v u Q I rx ry h hs
 obtain⟨p,xs,i,z,rfl,rfl,hq,he,q⟩:=h
 cases rx
 obtain⟨t,rfl⟩:=ry
 obtain⟨its,r,pl,hz⟩:=I.list hq
 obtain⟨j,h1,h2,h3,h4,h5⟩:=zas he
 obtain⟨w,ew,rw'⟩:=r.get h2
 have hl:=r.length
 have hn:=z6d
 have fin:EP X pins σ Q w s:=⟨z,H,I,rw',q⟩
 by_cases h0:0≤i
 · have hj:i.toNat=j:=by
    rw[seqIndex_of h0 h5]at h1
    exact Option.some.inj h1
   exact item_listR pl.isList h0 (by omega) (by rw[hj];simpa using ew) fin hs
 · have hj:(i+(its.toArray.size:Int)).toNat=j:=by
    rw[seqIndex_neg (by omega) h4]at h1
    rw[List.size_toArray,←hl]
    exact Option.some.inj h1
   exact subscriptTail_builtinR (x:=w) pl.isList.typeIs slot_list_getitem.lookup
    (wpAny_getItem_list_neg (Q:=fun r s'=>r=w∧EP X pins σ Q r s') pl.isList (by omega) (by rw[List.size_toArray]<;>omega) (by omega) (by rw[hj];simpa using ew) ⟨rfl,fin⟩) hs
theorem ix_tup:IxR X (rIxT X.K):=by
 intro value slice pins s σ H x y v u Q I rx ry h hs
 obtain⟨p,xs,i,z,rfl,rfl,hq,he,q⟩:=h
 cases rx
 obtain⟨t,rfl⟩:=ry
 obtain⟨its,r,pl,hz⟩:=I.tuple hq
 obtain⟨j,h1,h2,h3,h4,h5⟩:=zas he
 obtain⟨w,ew,rw'⟩:=r.get h2
 have hl:=r.length
 have hn:=z6d
 have fin:EP X pins σ Q w s:=⟨z,H,I,rw',q⟩
 exact subscriptTail_builtinR (x:=w) pl.typeIs slot_tuple_getitem.lookup
  (getItem_tuple (j:=j) (Q:=fun r s'=>r=w∧EP X pins σ Q r s') pl (by omega) (by omega) (by rw[List.size_toArray,←hl];exact h1) (by simpa using ew) ⟨rfl,fin⟩) hs
theorem ix_str:IxR X rIxS:=by
 intro value slice pins s σ H x y v u Q I rx ry h hs
 obtain⟨z,i,c,rfl,rfl,hz,he,q⟩:=h
 obtain⟨t,rfl⟩:=rx
 obtain⟨t',rfl⟩:=ry
 obtain⟨j,h1,h2,h3,h4,h5⟩:=zas he
 have hl:z.cps.toList.length=z.length:=by simp[Str.length]
 rw[hl]at h1 h4 h5
 have hn:=z6d
 exact tail_any (typeIs_str s z t) slot_str_getitem.lookup (getItem_str (c:=c) (by
  have e1:decide (i < -(2 ^ 63:Int))=false:=decide_eq_false (by omega)
  have e2:decide (i≥2 ^ 63)=false:=decide_eq_false (by omega)
  rw[e1,e2,Bool.or_false]) (by rw[h1];simpa using h2) ⟨.str ⟨#[c]⟩,H,I.tok _,⟨_,rfl⟩,q⟩) hs
def rIx(K:PySem.W.Frag):R2:=fun x y H Q=>rIxL K x y H Q∨rIxT K x y H Q∨rIxS x y H Q
theorem ix_seq:IxR X (rIx X.K):=zat.or (ix_tup.or ix_str)
theorem zcK(its:List Value)(n j:Nat)(u:Value):Obj.mapSeq (·.setIfInBounds j u) { cls := .type "list",data := .seq its.toArray n }={ cls := .type "list",data := .seq (its.set j u).toArray n }:=by
 simp[Obj.mapSeq]
theorem Inv.lst{pins:List (Addr×Obj)}{σ:St}{H:Hp}{s:Shared}{p:Addr}{xs:List V}(I:Inv X pins σ H s)(h:H p=some (.lst xs)):
  ∃(its:List Value) (n:Nat),Vals xs its∧s.heap.get? p=some { cls := .type "list",data := .seq its.toArray n }∧xs.length≤sizeLine:=by
 obtain⟨z,its,n,r,e⟩:=I.hok p _ h
 exact⟨its,n,r,e,z⟩
theorem Inv.lstUpd{pins:List (Addr×Obj)}{σ:St}{H:Hp}{s:Shared}{p:Addr}{xs ys:List V}{its its':List Value}{n n':Nat}{f:Obj→Obj}(I:Inv X pins σ H s)(h:H p=some (.lst xs))
  (ho:s.heap.get? p=some { cls := .type "list",data := .seq its.toArray n }) (hf:f { cls := .type "list",data := .seq its.toArray n }={ cls := .type "list",data := .seq its'.toArray n' }) (r:Vals ys its') (hz:ys.length≤sizeLine) (t:Nat) :
  Inv X pins σ (upd H p (.lst ys)) { s with heap:=s.heap.update p f,toks:=t }:=by
 have e:(s.heap.update p f).get? p=some { cls := .type "list",data := .seq its'.toArray n' }:=by
  rw[Heap.get?_update_self f ho (by rw[hf]<;>rfl),hf]
 refine I.write (x:=p) (e:=p) (by rw[h];trivial) (.inl rfl) (fun b u hb q=>(Heap.get?_update_other _ _ (Ne.symm hb)).trans q) ⟨_,e⟩ ?_
 exact⟨hz,its',n',r,e⟩
def rSetL:V→V→V→Hp→(Hp→Prop)→Prop:=fun o i v H Q=>∃ p xs k j,o = .ref p∧i = .int k∧H p=some (.lst xs)∧ixN xs.length k=some j∧Q (upd H p (.lst (xs.set j v)))
theorem zbi:PSet X rSetL:=by
 intro pins s σ H o i v ov iv u Q I ro ri rv h
 obtain⟨p,xs,k,j,rfl,rfl,hp,hj,q⟩:=h
 cases ro
 obtain⟨t,rfl⟩:=ri
 obtain⟨its,n,r,ho,hz⟩:=I.lst hp
 obtain⟨h1,h2,h3,h4⟩:=zfW hj
 have hl:=r.length
 have hn:=z6d
 have I':Inv X pins σ (upd H p (.lst (xs.set j v))) { s with heap:=s.heap.update p (Obj.mapSeq (·.setIfInBounds j u)) } :=
   I.lstUpd hp ho (zcK its n j u) (r.set rv j) (by rw[List.length_set];exact hz) s.toks
 by_cases h0:0≤k
 · have hk:k.toNat=j:=by
    rw[seqIndex_of h0 h4]at h1
    exact Option.some.inj h1
   exact PySem.W.ki_setAt ho h0 (by omega) (by rw[List.size_toArray,←hl];exact h4) (by rw[hk];exact⟨_,I',q⟩)
 · have hk:(k+(its.toArray.size:Int)).toNat=j:=by
    rw[seqIndex_neg (by omega) h3]at h1
    rw[List.size_toArray,←hl]
    exact Option.some.inj h1
   exact PySem.W.ki_setBack ho (by omega) (by rw[List.size_toArray,←hl];exact h3) (by omega) (by rw[hk];exact⟨_,I',q⟩)
theorem zau(lo hi:Option Int)(n:Nat):(sliceBounds lo hi none n).1=((HT.sIx n 0 lo:Nat):Int)∧(sliceBounds lo hi none n).2.1=((HT.sIx n n hi:Nat):Int)∧(sliceBounds lo hi none n).2.2=1:=by
 refine⟨?_,?_,rfl⟩
 · cases lo with
   | none=>simp[sliceBounds,HT.sIx]
   | some i =>
    simp only[sliceBounds,HT.sIx,Option.getD_none,show(1:Int) > 0 by decide,if_true]
    by_cases h:i<0
    · simp only[h,if_true]<;>omega
    · simp only[h,if_false]<;>omega
 · cases hi with
   | none=>simp[sliceBounds,HT.sIx]
   | some i =>
    simp only[sliceBounds,HT.sIx,Option.getD_none,show(1:Int) > 0 by decide,if_true]
    by_cases h:i<0
    · simp only[h,if_true]<;>omega
    · simp only[h,if_false]<;>omega
theorem z91(its:List Value)(lo hi:Option Int):slicePick its.toArray lo hi none=((its.drop (HT.sIx its.length 0 lo)).take (HT.sIx its.length its.length hi-HT.sIx its.length 0 lo)).toArray:=by
 obtain⟨h1,h2,h3⟩:=zau lo hi its.toArray.size
 unfold slicePick
 rw[h1,h2,h3]
 simp only[sliceRange_one,pick_run,List.size_toArray]<;>rfl
def rSlL(K:PySem.W.Frag):V→Option Int→Option Int→Hp→VK→Prop:=fun x lo hi H Q=>∃ a xs,x = .ref a∧SqL K H a xs∧∀ p,H p=none→Q (.ref p) (upd H p (.lst (cutV xs lo hi)))
theorem zlz:SlR X (rSlL X.K):=by
 intro pins s σ H x v vl vu lo hi sl Q I rx hs pl pu h
 obtain⟨a,xs,rfl,hx,q⟩:=h
 cases rx
 obtain⟨its,r,ht,hz⟩:=I.list hx
 have hlen:=r.length
 refine⟨"list",_,slot_list_getitem.lookup,ht.isList.typeIs,?_⟩
 refine wpAny_getItem_list_slice ht.isList hs pl pu .none (by simp) ?_ (by rw[List.size_toArray]<;>omega)
 rw[z91,←hlen]
 refine⟨.ref s.heap.objs.size,_,I.laid (t':=s.toks) (o := .lst (cutV xs lo hi)) (fun b ob q=>Heap.get?_push_of_some _ q) (Nat.le_refl _) ?_,rfl,q _ (I.hok.fresh (Nat.le_refl _))⟩
 exact⟨Nat.le_trans (zbh xs lo hi) hz,_,0,(r.drop (HT.sIx xs.length 0 lo)).take (HT.sIx xs.length xs.length hi-HT.sIx xs.length 0 lo),Heap.get?_push_size _ rfl⟩
theorem z3x:CallR X (.builtin "len") (fun xs H Q=>∃ p ys,xs=[.ref p]∧(SqL X.K H p ys∨SqT X.K H p ys)∧Q (.int ys.length) H):=by
 intro pins s σ H xs us Q I r h
 obtain⟨p,ys,rfl,hq,q⟩:=h
 obtain⟨u,rfl,rx⟩:=z98 r
 cases rx
 have hn:=z6d
 rcases hq with hq|hq
 · obtain⟨its,r',pl,hz⟩:=I.list hq
   have hlen:=r'.length
   exact Calls.call_len_list pl.isList (by simp only[List.size_toArray]<;>omega) ⟨.int ys.length,H,I.tok _,⟨s.toks+1,by rw[List.size_toArray,hlen]⟩,q⟩
 · obtain⟨its,r',pl,hz⟩:=I.tuple hq
   have hlen:=r'.length
   exact len_tuple pl (by simp only[List.size_toArray]<;>omega) ⟨.int ys.length,H,I.tok _,⟨s.toks+1,by rw[List.size_toArray,hlen]⟩,q⟩
theorem CallR.or{f:Value}{r r':List V→Hp→VK→Prop}(h:CallR X f r)(h':CallR X f r'):CallR X f (fun xs H Q=>r xs H Q∨r' xs H Q):=by
 intro pins s σ H xs us Q I rs q
 rcases q with q|q
 · exact h pins s σ H xs us Q I rs q
 · exact h' pins s σ H xs us Q I rs q
theorem z5z:CallR X (.type "list") (fun xs H Q=>∃ p ys,xs=[.ref p]∧(SqL X.K H p ys∨SqT X.K H p ys)∧∀ l,H l=none→Q (.ref l) (upd H l (.lst ys))):=by
 intro pins s σ H xs us Q I r h
 obtain⟨p,ys,rfl,hq,q⟩:=h
 obtain⟨u,rfl,rx⟩:=z98 r
 cases rx
 have fin:∀(its:List Value),Vals ys its→ys.length≤sizeLine→∀(h':Heap) (c':Nat),(∀ b o',s.heap.get? b=some o'→h'.get? b=some o') →
    h'.get? s.heap.objs.size=some { cls := .type "list",dict:=none,data := .seq its.toArray c',slots:=#[] }→EP X pins σ Q (.ref s.heap.objs.size) { s with heap:=h' }:=fun its r' hz h' c' kp e =>
   ⟨.ref s.heap.objs.size,_,I.laid (t':=s.toks) kp (Nat.le_refl _) (show ObjOk X.prog X.w _ h' _ (.lst ys) from⟨hz,its,c',r',e⟩),rfl,q _ (I.hok.fresh (Nat.le_refl _))⟩
 rcases hq with hq|hq
 · obtain⟨its,r',pl,hz⟩:=I.list hq
   have hlen:=r'.length
   obtain⟨o,ho,hc,n,hd⟩:=pl.isList
   exact call_list_seq p (.inl rfl) ho hc hd (fun h' c' kp e=>fin its r' hz h' c' kp e) (by simp only[List.size_toArray]<;>omega)
 · obtain⟨its,r',pl,hz⟩:=I.tuple hq
   have hlen:=r'.length
   obtain⟨o,ho,hc,n,hd⟩:=pl
   exact call_list_seq p (.inr rfl) ho hc hd (fun h' c' kp e=>fin its r' hz h' c' kp e) (by simp only[List.size_toArray]<;>omega)
theorem z52:CallR X (.type "tuple") (fun xs H Q=>∃ p ys,xs=[.ref p]∧((SqL X.K H p ys∧∀ l,H l=none→Q (.ref l) (upd H l (.tup ys)))∨(SqT X.K H p ys∧Q (.ref p) H))):=by
 intro pins s σ H xs us Q I r h
 obtain⟨p,ys,rfl,h⟩:=h
 obtain⟨u,rfl,rx⟩:=z98 r
 cases rx
 rcases h with⟨hq,q⟩|⟨hq,q⟩
 · obtain⟨its,r',pl,hz⟩:=I.list hq
   have hlen:=r'.length
   refine call_tuple_list pl.isList (fun h' kp=>?_) (by simp only[List.size_toArray]<;>omega)
   have I1:Inv X pins σ H { s with heap:=h' }:=I.kept (t':=s.toks) kp
   have I2:Inv X pins σ (upd H h'.objs.size (.tup ys)) { s with heap:=h'.push { cls := .type "tuple",data := .seq its.toArray } } :=
    I1.laid (t':=s.toks) (fun b o e=>Heap.get?_push_of_some _ e) (Nat.le_refl _) (show ObjOk X.prog X.w _ _ _ (.tup ys) from⟨hz,its,r',IsTup.new _ _⟩)
   exact⟨.ref h'.objs.size,_,I2,rfl,q _ (I1.hok.fresh (Nat.le_refl _))⟩
 · obtain⟨its,r',pl,hz⟩:=I.tuple hq
   exact call_tuple_same pl ⟨.ref p,H,I,rfl,q⟩
def tyV(K:PySem.W.Frag)(T:String)(x:V)(H:Hp):Prop:=match x with
 | .str _=>T = "str"
 | .int _=>T = "int"
 | .ref p=>(T = "list" ∧ ∃ xs,SqL K H p xs)∨(T = "tuple" ∧ ∃ o,K.lookup p=some o∧o.cls = .type "tuple" ∧ o.dict=none) ∨
  (T = "dict" ∧ ((∃ kvs,H p=some (.dK kvs))∨∃ kvs,H p=some (.dT kvs)))∨(T = "set" ∧ ∃ S n,H p=some (.set S n))
 | _=>False
theorem tyV_is{pins:List (Addr×Obj)}{σ:St}{H:Hp}{s:Shared}{T:String}{x:V}{v:Value}(I:Inv X pins σ H s)(r:RelV x v)(ty:tyV X.K T x H):
  s.TypeIs v T∧∀ a,v = .ref a→∃ ob,s.heap.get? a=some ob∧ob.dict=none:=by
 cases x with
 | str z =>
  obtain⟨t,rfl⟩:=r
  cases (show T = "str" from ty)
  exact⟨typeIs_str s z t,fun _ e=>nomatch e⟩
 | int i =>
  obtain⟨t,rfl⟩:=r
  cases (show T = "int" from ty)
  exact⟨typeIs_int s i t,fun _ e=>nomatch e⟩
 | ref p =>
  cases r
  rcases ty with⟨rfl,xs,hq⟩|⟨rfl,o,hk,hc,hd⟩|⟨rfl,hk⟩|⟨rfl,S,n,hk⟩
  · obtain⟨its,_,pl,_⟩:=I.list hq
    refine⟨pl.isList.typeIs,fun a e=>?_⟩
    cases e
    obtain⟨o,n,e,c,hd,_⟩:=pl
    exact⟨o,e,hd⟩
  · refine⟨⟨o,I.kIn p o hk,hc⟩,fun a e=>?_⟩
    cases e
    exact⟨o,I.kIn _ o hk,hd⟩
  · have z:∃ o,s.heap.get? p=some o∧o.ExactDict:=by
     rcases hk with⟨kvs,hk⟩|⟨kvs,hk⟩
     · obtain⟨_,_,_,_,o,_,_,e,ex,_⟩:=I.hok p _ hk
       exact⟨o,e,ex⟩
     · obtain⟨_,_,_,_,o,_,_,e,ex,_⟩:=I.hok p _ hk
       exact⟨o,e,ex⟩
    obtain⟨o,e,ex⟩:=z
    refine⟨⟨o,e,ex.1⟩,fun a e2=>?_⟩
    cases e2
    exact⟨o,e,ex.2.1⟩
  · obtain⟨o,_,_,_,e,ex,_⟩:=I.hok p _ hk
    refine⟨⟨o,e,ex.1⟩,fun a e2=>?_⟩
    cases e2
    exact⟨o,e,ex.2.1⟩
 | _=>exact False.elim ty
def tBM(K:PySem.W.Frag)(T:String)(r:V→List V→Hp→VK→Prop)(to:TE)(t:TA):TE:=fun σ H Q=>to σ H fun x H1=>tyV K T x H1∧t σ H1 fun xs H2=>r x xs H2 Q
variable {o e:Expr}{es:List Expr}{to:TE}{t:TA}{name:Str}{apos cpos:Pos}{T id:String}{r:V→List V→Hp→VK→Prop}
theorem pe_bm(pa:PlainAttrs T)(slot:Slot T name id)(hty:typeOf (.builtin id)=pure (.type "method_descriptor"))(hm:MtR X id r)(ho:PE X o to)(ha:PA X (e::es) t)
  (hbase:attributeBase o name X.env (eval o X.env)=eval o X.env:=by rfl)
  (hfew:((backTo cpos (starEach (e::es) X.env)).all (fun x=>!x.1)&&(backToKw cpos (keywordEach [] X.env)).all (fun x=>x.1.isSome)
   && decide ((e::es).length+([]:List Keyword).length+(if([]:List Keyword).isEmpty then 0 else 1)<30))=true:=by rfl)
  (hline:(apos.endLine==cpos.line)=true:=by rfl) (hs:starEach (e::es) X.env=(false,eval e X.env)::starEach es X.env:=by rfl) (hplain:(backTo cpos (starEach es X.env)).any (·.1)=false:=by rfl) :
  PE X (.Call (.Attribute o name apos) (e::es) [] cpos) (tBM X.K T r to t):=by
 intro pins s σ H Q I h
 refine wpAny_Call_method_late hbase hfew hline rfl (thn (ho pins s σ H _ I h) ?_)
 rintro v s1 ⟨x,H1,I1,r1,ty,q1⟩
 obtain⟨h1,h2⟩:=tyV_is I1 r1 ty
 refine⟨T,id,pa,slot,hty,h1,h2,?_⟩
 have hA:=ha cpos pins s1 σ H1 _ I1 q1
 rw[hs]at hA ⊢
 refine Calls.callWith_builtin (by show(false||(backTo cpos (starEach es X.env)).any (·.1))=false;rw[hplain]<;>rfl) (Calls.evalArgs_plain ?_)
 exact thn hA fun us s2 hZ=>hZ.elim fun vs hZ=>hZ.elim fun H2 hZ=>hZ.elim fun I2 hZ=>hZ.elim fun r2 q2=>hm pins s2 σ H2 x vs v us Q I2 r1 r2 q2
end
end L2
namespace L2
open PySem PySem.Spec PyProof.Rows
def MtM(X:Cx)(id:String)(r:V→List V→Hp→VK→Prop):Prop :=
 ∀(pins:List (Addr×Obj)) (s:Shared) (σ:St) (H:Hp) (x:V) (xs:List V) (v:Value) (us:List Value) (Q:VK),Inv X pins σ H s→RelV x v→Vals xs us→r x xs H Q →
  wpAny (model X.prog X.w) X.A (call (.builtin id) (v::us)) (EP X pins σ Q) X.xe s
theorem Vals.zero:∀{us:List Value},Vals [] us→us=[]
 | _,.nil=>rfl
theorem Vals.uncons{x:V}{xs:List V}{us:List Value}(h:Vals (x::xs) us):∃ u vs,us=u::vs∧RelV x u∧Vals xs vs:=by
 cases h with
 | cons r t=>exact⟨_,_,rfl,r,t⟩
theorem Vals.one{x:V}{us:List Value}(h:Vals [x] us):∃ u,us=[u]∧RelV x u:=by
 obtain⟨u,vs,e,r,t⟩:=h.uncons
 rw[t.zero]at e
 exact⟨u,e,r⟩
theorem Vals.two{x y:V}{us:List Value}(h:Vals [x,y] us):∃ u v,us=[u,v]∧RelV x u∧RelV y v:=by
 obtain⟨u,vs,e,r,t⟩:=h.uncons
 obtain⟨v,e2,q⟩:=t.one
 rw[e2]at e
 exact⟨u,v,e,r,q⟩
theorem Vals.reverse{xs:List V}{us:List Value}(h:Vals xs us):Vals xs.reverse us.reverse:=by
 induction h with
 | nil=>exact .nil
 | cons r t ih=>rw[List.reverse_cons,List.reverse_cons];exact Vals.append ih (.cons r .nil)
section
variable {X:Cx}{pins:List (Addr×Obj)}{σ:St}{H:Hp}{s:Shared}{l b:Addr}{xs ys zs:List V}
theorem Inv.lset{its its':List Value}{n:Nat}{f:Array Value→Array Value}{t':Nat}(I:Inv X pins σ H s)(hH:H l=some (.lst xs))
  (e:s.heap.get? l=some { cls := .type "list",data := .seq its.toArray n }) (hf:f its.toArray=its'.toArray) (hv:Vals ys its') (hz:ys.length≤sizeLine) :
  Inv X pins σ (upd H l (.lst ys)) { s with heap:=s.heap.update l (Obj.mapSeq f),toks:=t' }:=by
 have q:=PySem.IsL.update e f
 rw[hf]at q
 refine I.write (x:=l) (e:=l) (by rw[hH];exact trivial) (.inl rfl) (fun b' u hb hu=>(Heap.get?_update_other s.heap (Obj.mapSeq f) (Ne.symm hb)).trans hu) ⟨_,q⟩ ?_
 exact⟨hz,its',_,hv,q⟩
theorem Inv.lnew{its:List Value}{t':Nat}(I:Inv X pins σ H s)(hv:Vals ys its)(hz:ys.length≤sizeLine):
  Inv X pins σ (upd H s.heap.objs.size (.lst ys)) { s with heap:=s.heap.push { cls := .type "list",data := .seq its.toArray },toks:=t' } :=
 I.laid (fun _ _ q=>Heap.get?_push_of_some _ q) (Nat.le_refl _) ⟨hz,its,0,hv,Heap.get?_push_size _ rfl⟩
theorem Inv.fresh(I:Inv X pins σ H s):H s.heap.objs.size=none:=I.hok.fresh (Nat.le_refl _)
theorem Inv.lstM(I:Inv X pins σ H s)(hH:H l=some (.lst xs)):xs.length≤sizeLine∧∃(its:List Value) (n:Nat),Vals xs its∧xs.length=its.length∧s.heap.get? l=some { cls := .type "list",data := .seq its.toArray n }:=by
 obtain⟨z,its,n,r,e⟩:=I.hok l _ hH
 exact⟨z,its,n,r,r.length,e⟩
end
section
variable {X:Cx}
def zlA:V→List V→Hp→VK→Prop:=fun x vs H Q=>∃ l xs y,x = .ref l∧vs=[y]∧H l=some (.lst xs)∧xs.length<sizeLine∧Q .non (upd H l (.lst (xs++[y])))
theorem z9e:MtM X "list.append" zlA:=by
 intro pins s σ H x vs v us Q I rx rv h
 obtain⟨l,xs,y,rfl,rfl,hH,hz,q⟩:=h
 cases rx
 obtain⟨u,rfl,ru⟩:=rv.one
 obtain⟨z,its,n,r,hl,e⟩:=I.lstM hH
 refine call_meets F.slot_list_append ⟨_,e,rfl⟩ F.entry_list_append (F.args_list_append_2 _ _) (PySem.list_append l its.toArray n u (by rw[List.size_toArray];omega)) ⟨e,?_⟩
 refine⟨.non,_,I.lset (its':=its++[u]) hH e (by simp) (r.append (.cons ru .nil)) ?_,rfl,q⟩
 rw[List.length_append,List.length_singleton]
 omega
def rCat:R2:=fun x y H Q=>∃ l b xs zs,x = .ref l∧y = .ref b∧H l=some (.lst xs)∧H b=some (.lst zs)∧xs.length+zs.length≤sizeLine∧∀ p,H p=none→Q (.ref p) (upd H p (.lst (xs++zs)))
theorem op_cat:OpR X (binaryOp .Add) rCat:=by
 intro pins s σ H x y v u Q I rx ry h
 obtain⟨l,b,xs,zs,rfl,rfl,hH,hB,hz,q⟩:=h
 cases rx
 cases ry
 obtain⟨z,its,n,r,hl,e⟩:=I.lstM hH
 obtain⟨z2,its2,n2,r2,hl2,e2⟩:=I.lstM hB
 refine PySem.P.add_list e e2 ?_ (by rw[List.size_toArray,List.size_toArray];omega)
 have ea:its.toArray++its2.toArray=(its++its2).toArray:=by simp
 rw[ea]
 exact⟨.ref _,_,I.lnew (t':=s.toks) (r.append r2) (by rw[List.length_append];omega),rfl,q _ I.fresh⟩
end
section
variable {prog:Program}{w:World}{A:Around}{E:Value→Shared→Prop}{s:Shared}
end
section
variable {X:Cx}
end
end L2
namespace Att
open PySem PySem.W PySem.Calls PyProof.Rows
theorem z7m{P:Params}{h:Heap}:∀(ns:List Int) (vs:List Value),WellAll P h vs (ns.map WData.int)→IntsAre vs ns:=by
 intro ns
 induction ns with
 | nil =>
  intro vs w
  rw[List.map_nil]at w
  cases w
  exact .nil
 | cons n ns ih =>
  intro vs w
  rw[List.map_cons]at w
  cases w with
  | cons a b =>
   cases a
   exact .cons _ _ (ih _ b)
theorem zgL{l:OpenLaw}{n:Nat}(hn:l.most=some n){P:Params}{h:Heap}{args:List WData}{vals:List Value}
  (hpre:l.row.toRowW.claim.pre args=true) (hwl:WellAll P h vals args) :
  ∃ a vs ns,vals=[Value.ref a]∧args=[WData.list (ns.map WData.int)]∧h.get? a=some { cls := .type "list",data := .seq vs.toArray }∧IntsAre vs ns∧ns.length≤n:=by
 have hsh:WShape.hasAll [] args [.list .int]=true:=(pre_splitW hpre).1
 have hc:l.pre.holds [] { args:=args }=true:=(pre_splitW hpre).2
 obtain⟨d,r,rfl,h1,h2⟩:=hasAllW_cons hsh
 obtain rfl:=hasAllW_nil h2
 obtain⟨xs,rfl,h3⟩:=hasW_list h1
 obtain⟨ns,rfl⟩:=items_int h3
 have hlen:ns.length≤n:=by
  unfold OpenLaw.pre at hc
  have h4:(WTm.not (.lt (.lit (.int (n:Int))) (.len (.arg 0)))).holds [] { args:=[.list (ns.map .int)] }=true:=by
   have h4:=(holds_andW hc).1
   rw[hn]at h4
   exact h4
  have h5:=condW_of h4 (w_not (w_lt w_lit (w_len_list (w_arg rfl))))
  rw[List.length_map]at h5
  refine Nat.le_of_not_lt fun q=>?_
  have q':(n:Int)<((ns.length:Nat):Int):=by omega
  first
   | (rw[decide_eq_true q']at h5;exact absurd h5 (by decide))
   | (simp at h5;omega)
 cases hwl with
 | cons w1 w2 =>
  cases w2
  cases w1 with
  | list ho hall=>exact⟨_,_,ns,rfl,rfl,ho,z7m ns _ hall,hlen⟩
theorem zgM(l:OpenLaw)(args:List WData):l.row.toRowW.claim.post args (.bool true) args=true :=
 postW_of (r:=l.row.toRowW) (X:=(true==true))
  (show WShape.has [] (.bool true) .bool=true by first|rfl|decide|simp[WShape.has,WShape.arms,WShape.armsAll])
  (show(WTm.eq .res (.lit (.bool true))).value [] { args:=args,res:=some (.bool true),after:=args }=some (.bool (true==true))from w_eq_bool (w_res rfl) w_lit) rfl
theorem attach_call{l:OpenLaw}{n:Nat}{q:Program}{loose:List Str}{XP:(Str→Option Value)→Heap→Prop}{YP:World→Heap→Prop}{d:DefRec}
  (hn:l.most=some n) (hdf:d.params.defaults=[])
  (call:∀(w:World) (s₀ s₁:Shared) (mg mb:Str→Option Value) (fa:Addr) (o:Obj) (pm cd doc:Value) (a:Addr) (vs:List Value) (ns:List Int),
   Ground q loose [] XP w s₀ mg mb s₁.heap→YP w s₁.heap →
   s₁.heap.get? fa=some o→o.data = .func (docDef d.name d.params d.body d.scope pm cd doc)→s₁.heap.CodeRec cd d.name→mg d.name=some (.ref fa) →
   s₁.heap.get? a=some { cls := .type "list",data := .seq vs.toArray }→IntsAre vs ns→ns.length≤n→s₁.gens=#[] →
   codeAny (model l.prog w) callerA (.call (.ref fa) ⟨[.ref a],[]⟩) (fun r s'=>r = .ok (.ret (.bool true))∧OldK s₁.heap s'.heap∧s'.os=s₁.os∧AllBare s'.gens) s₁) :
  WalkO q loose XP YP l.row.toRowW d [] (fun f vs=>PySem.call f vs):=by
 intro w s₀ s₁ mg mb G Y fa o pm cd doc dV kV ho hd hcd hD hmg hg args vals as hpre hlay hrd hwl hlo
 obtain rfl:dV = .none:=Dflts.none hD hdf
 obtain rfl:kV = .none:=Dflts.noKw hD
 obtain⟨a,vs,ns,rfl,rfl,hobj,hints,hlen⟩:=zgL hn hpre hwl
 refine enter_call (codeAny_mono (call w s₀ s₁ mg mb fa o pm cd doc a vs ns G Y ho (fd_plain hd) hcd hmg hobj hints hlen hg) fun r s' hq=>?_)
 obtain⟨rfl,h2,h3,h4⟩:=hq
 exact⟨.inl ⟨.bool true,.bool true,[],rfl,fun _=>rfl,.bool true,zgM l _,fun _=>⟨List.Pairwise.nil,fun _ hm=>(nomatch hm)⟩⟩,h2,h3,h4⟩
section
variable {prog:Program}{w:World}{A:Around}{E:Value→Shared→Prop}{s:Shared}{K:Frag}
end
end Att
namespace L2
open PySem PySem.Spec PyProof.Rows
theorem z9f:∀{vs:List Value} {ns:List Int},IntsAre vs ns→Vals (ns.map V.int) vs
 | _,_,.nil => .nil
 | _,_,.cons n t h => .cons ⟨t,rfl⟩ (z9f h)
def Only(H:Hp):Prop:=∀ b,H b=none∨∃ o xs,H b=some (.frz o (.lst xs))
theorem zhP{P:Program}{w:World}{K:PySem.W.Frag}{mg mb:Str→Option Value}{CX:CXT}{k:Nat}{fa a:Addr}{fd:FuncData}{x:Str}{sp:Sp}{s₁:Shared}{vs:List Value}{ns:List Int}
  (KX:K.In s₁.heap) (hns:s₁.heap.Ns mainGlobals mg) (hb:s₁.heap.Ns builtinsNs mb) (hbb:∀ x:Str,x ≠ "__name__" → mb x=bootBuiltins x) (hlim:s₁.heap.NoLimit) (hg:s₁.gens=#[])
  (ha:s₁.heap.get? a=some { cls := .type "list",data := .seq vs.toArray }) (hi:IntsAre vs ns) (hl:ns.length≤sizeLine) (hr:Room k callerA)
  (F:∀ base:Heap,K.In base→base.Ns mainGlobals mg→FnOk P w K mg base CX k fa fd [x] sp) (hbind:∀(s:Shared) (u:Value),BindsTo s fd ⟨[u],[]⟩ [(x,u)])
  (hsp:∀ H:Hp,Only H→SqL K H a (ns.map V.int)→sp [.ref a] H (fun v _=>v = .bl true) fun _ _ _=>False)
  (hCX:∀ H e s',CX [] H s₁ (fun _ _ _=>False) e s'→False) :
  codeAny (model P w) callerA (.call (.ref fa) ⟨[.ref a],[]⟩) (fun r s'=>r = .ok (.ret (.bool true))∧OldK s₁.heap s'.heap∧s'.os=s₁.os∧AllBare s'.gens) s₁:=by
 have rv:=z9f hi
 have lenV:=hi.length
 have core:∀ H:Hp,Only H→SqL K H a (ns.map V.int)→HOk P w H s₁.heap→(∀ b,H b≠none→b=a)→(H a≠none→K.lookup a=none) →
    codeAny (model P w) callerA (.call (.ref fa) ⟨[.ref a],[]⟩) (fun r s'=>r = .ok (.ret (.bool true))∧OldK s₁.heap s'.heap∧s'.os=s₁.os∧AllBare s'.gens) s₁:=by
  intro H hO hS hok hA hK
  have base_of:∀{b:Addr} {o:Obj},s₁.heap.get? b=some o→H b=none→(hidT s₁.heap H).get? b=some o:=fun e n=>zhz e n
  have noA:∀{b:Addr} {o:Obj} {es:Array DictEntry} {ep:Nat},s₁.heap.get? b=some o→o.data = .dict es ep→H b=none:=fun{b o es ep} e d=>by
    cases q:H b with
    | none=>rfl
    | some u =>
      have e':b=a:=hA b (by rw[q];simp)
      subst e'
      rw[ha]at e;cases e
      have d':Data.seq vs.toArray _=Data.dict es ep:=d
      cases d'
  have nsK:∀{b:Addr} {m:Str→Option Value},s₁.heap.Ns b m→(hidT s₁.heap H).Ns b m:=fun{b m} ⟨o,es,ep,e,d,r⟩=>⟨o,es,ep,base_of e (noA e d),d,r⟩
  have hKb:K.In (hidT s₁.heap H):=fun b o e=>base_of (KX b o e) (by
    cases q:H b with
    | none=>rfl
    | some u =>
      have e':b=a:=hA b (by rw[q];simp)
      subst e'
      rw[hK (by rw[q];simp)]at e;cases e)
  have hM:Mod K mg (hidT s₁.heap H):=⟨hKb,nsK hns,⟨mb,nsK hb,hbb⟩,let ⟨mc,h1,h2⟩:=hlim;⟨mc,nsK h1,h2⟩⟩
  have e0:Env0 P w K mg (hidT s₁.heap H) callerA [] s₁ H:=⟨rfl,hM,fun b o e=>zli e,Nat.le_of_eq (zgE _ _),trivial,fun b hb=>absurd (show b∈([]:List Addr)from hb) (by simp),hok,.of_eq hg⟩
  refine codeAny_mono ((F _ hKb (nsK hns)).run callerA [] s₁ H ⟨[.ref a],[]⟩ [.ref a] [.ref a] _ _ hr e0 (hbind s₁ (.ref a)) (.cons rfl .nil) (hsp H hO hS)) fun r s' h=>?_
  cases r with
  | error e=>exact(hCX H e s' h).elim
  | ok fl =>
    cases fl with
    | next=>exact False.elim h
    | brk=>exact False.elim h
    | cont=>exact False.elim h
    | ret u =>
      obtain⟨v,H',os,bare,un,hok',r',q⟩:=h
      have q':v = .bl true:=q
      subst q'
      obtain rfl:u=Value.bool true:=r'
      refine⟨rfl,OldK.of_keep fun b o e=>?_,os,bare⟩
      cases q:H b with
      | none=>exact un.keep b o e q (by intro z;exact absurd (show b∈([]:List Addr)from z) (by simp)) (by simp)
      | some u =>
       rcases hO b with z|⟨ob,xs,z⟩
       · rw[q]at z;cases z
       · have z2:=un.frzs b ob _ z
         obtain⟨e1,_⟩:=hok b _ z
         obtain⟨e2,_⟩:=hok' b _ z2
         rw[e]at e1;cases e1
         exact e2
 cases hk:K.lookup a with
 | some o =>
  have e:=KX a o hk
  rw[ha]at e
  cases e
  refine core (fun _=>none) (fun _ => .inl rfl) (.inr ⟨_,vs.toArray,_,hk,rfl,rfl,rfl,by rw[List.size_toArray,lenV];exact hl,by simpa using rv⟩) (fun b u z=>by have z':(none:Option HO)=some u:=z;cases z') (fun b z=>absurd rfl z) fun z=>absurd rfl z
 | none =>
  refine core (fun b=>if b=a then some (.frz { cls := .type "list",data := .seq vs.toArray } (.lst (ns.map V.int))) else none) (fun b=>?_) (.inl (.inr ⟨{ cls := .type "list",data := .seq vs.toArray },if_pos rfl⟩)) (fun b u z=>?_) (fun b z=>?_) fun _=>hk
  · by_cases hb:b=a
    · exact .inr ⟨_,_,if_pos hb⟩
    · exact .inl (if_neg hb)
  · by_cases hb:b=a
    · have z':=(if_pos hb).symm.trans z
      cases z'
      subst hb
      exact⟨ha,by rw[List.length_map];exact hl,vs,_,rv,ha⟩
    · have z':=(if_neg hb).symm.trans z
      cases z'
  · by_cases hb:b=a
    · exact hb
    · exact absurd (if_neg hb) z
end L2
namespace L2
open PySem PySem.Spec PyProof.Rows
theorem zlB{l:PySem.W.OpenLaw}{n k:Nat}{q:Program}{loose:List Str}{XP:(Str→Option Value)→Heap→Prop}{YP:World→Heap→Prop}{d:DefRec}{K:Params→PySem.W.Frag}{CX:World→CXT}{sp:World→Sp}{x:Str}
  (hn:l.most=some n) (hn2:n≤sizeLine) (hdf:d.params.defaults=[]) (hr:Room k callerA)
  (hY:∀(w:World) (h:Heap),YP w h→(K w.params).In h)
  (F:∀(w:World) (mg:Str→Option Value) (fa:Addr) (h:Heap),(K w.params).In h→h.Ns mainGlobals mg→mg d.name=some (.ref fa) →
   ∃ fd:FuncData,(∀(s:Shared) (u:Value),BindsTo s fd ⟨[u],[]⟩ [(x,u)]) ∧
    ∀ base:Heap,(K w.params).In base→base.Ns mainGlobals mg→FnOk l.prog w (K w.params) mg base (CX w) k fa fd [x] (sp w))
  (hsp:∀(w:World) (H:Hp) (a:Addr) (ns:List Int),ns.length≤n→Only H→SqL (K w.params) H a (ns.map V.int)→sp w [.ref a] H (fun v _=>v = .bl true) fun _ _ _=>False)
  (hCX:∀(w:World) (H:Hp) (s:Shared) (e:Value) (s':Shared),CX w [] H s (fun _ _ _=>False) e s'→False) :
  PySem.W.WalkO q loose XP YP l.row.toRowW d [] (fun f vs=>PySem.call f vs):=by
 refine Att.attach_call hn hdf fun w s₀ s₁ mg mb fa o pm cd doc a vs ns G Y ho hd hcd hmg hobj hints hlen hg=>?_
 have KX:=hY w _ Y
 obtain⟨fd,hb,hF⟩:=F w mg fa _ KX G.T.g hmg
 exact zhP KX G.T.g G.T.b G.T.builtins G.T.nolimit hg hobj hints (Nat.le_trans hlen hn2) hr hF hb (fun H hO hS=>hsp w H a ns hlen hO hS) fun H e s'=>hCX w H s₁ e s'
end L2
namespace L2
open PySem PySem.Spec PyProof.Rows
def z2e(s:Stmt):Arguments:=match s with
 | .FunctionDef _ a _ _ _ _ _ _ _ _=>a
 | _=>{ posonlyargs:=[],args:=[],vararg:=none,kwonlyargs:=[],kw_defaults:=[],kwarg:=none,defaults:=[] }
def z1o(s:Stmt):List Stmt:=match s with
 | .FunctionDef _ _ b _ _ _ _ _ _ _=>b
 | _=>[]
def z06(s:Stmt):Scope:=match s with
 | .FunctionDef _ _ _ _ _ _ sc _ _ _=>sc
 | _=>{ kind := .function,names:=[],isGenerator:=false,isCoroutine:=false }
abbrev CX0:CXT:=fun _ _ _ _ _ _=>False
abbrev E0:XK:=fun _ _ _=>False
theorem pass0{X:Cx}:zar CX0 X E0:=fun _ _ _ _ _ _ _ h=>h.elim
structure Fun(K:PySem.W.Frag)(x qual:Str)(st:Stmt)(f:Addr)(fd:FuncData):Prop where
 ex:∃(oc:Value) (od:Option Addr) (kV doc pm:Value) (an:Option Addr) (cdv ct:Value) (osl:Array (Option Value)),
  fd=PySem.W.fnOf x qual (z2e st) (z1o st) (z06 st) .none kV doc pm an cdv ct∧K.lookup f=some ⟨oc,od,.func fd,osl⟩∧PySem.W.codeIn K cdv qual=true
 kp:PySem.W.keepIn K (.ref f)=true
section
variable {P:Program}{w:World}{K:PySem.W.Frag}{mg:Str→Option Value}{base:Heap}
theorem Fun.ok{x qual:Str}{st:Stmt}{f:Addr}{fd:FuncData}{N ps:List Str}{k:Nat}{sp:Sp}(F:Fun K x qual st f fd)(S:FnScope N ps (z06 st))(len:∀ vs H Q E,sp vs H Q E→vs.length=ps.length)
  (hbody:∀(cdv:Value) (A:Around) (outer:List Env) (s:Shared) (H:Hp) (vs:List V) (Q:VK) (E:XK),Room k (A.deeper (envOfC qual (z06 st) s.heap.objs.size f cdv))→sp vs H Q E →
   ∃ t,PSs (cxOf CX0 P w K mg base N qual (z06 st) f cdv A outer s H E).nox (z1o st) t∧t { nx:=fun _ H'=>Q .non H',rt:=Q } (start N vs) H):FnOk P w K mg base CX0 (k+1) f fd ps sp:=by
 obtain⟨oc,od,kV,doc,pm,an,cdv,ct,osl,rfl,lk,hcd⟩:=F.ex
 refine fn_of lk hcd S len fun A outer s H vs Q E hr hsp=>?_
 obtain⟨t,h,q⟩:=hbody cdv A outer s H vs Q E hr hsp
 exact⟨t,h.nox,q⟩
theorem Fun.binds{x qual:Str}{st:Stmt}{f:Addr}{fd:FuncData}{ps:List Str}(F:Fun K x qual st f fd)
  (h:∀(kV doc pm:Value) (an:Option Addr) (cdv ct:Value) (us:List Value),us.length=ps.length→bindArgs (PySem.W.fnOf x qual (z2e st) (z1o st) (z06 st) .none kV doc pm an cdv ct) ⟨us,[]⟩=pure (ps.zip us)):Binds K fd ps []:=by
 obtain⟨oc,od,kV,doc,pm,an,cdv,ct,osl,rfl,lk,hcd⟩:=F.ex
 exact .all (h kV doc pm an cdv ct)
theorem zhQ{x qual:Str}{st:Stmt}{f:Addr}{oc:Value}{od an:Option Addr}{osl:Array (Option Value)}{kV doc pm cdv ct:Value}(l:K.lookup f=some ⟨oc,od,.func (PySem.W.fnOf x qual (z2e st) (z1o st) (z06 st) .none kV doc pm an cdv ct),osl⟩)
 (c:PySem.W.codeIn K cdv qual=true) (k:PySem.W.keepIn K (.ref f)=true):Fun K x qual st f (PySem.W.fnOf x qual (z2e st) (z1o st) (z06 st) .none kV doc pm an cdv ct):=⟨⟨oc,od,kV,doc,pm,an,cdv,ct,osl,rfl,l,c⟩,k⟩
end
section
variable {X:Cx}
end
def Same(H H':Hp):Prop:=∀ b o,H b=some o→H' b=some o
theorem Same.refl(H:Hp):Same H H:=fun _ _ h=>h
theorem Same.trans{H H1 H2:Hp}(a:Same H H1)(b:Same H1 H2):Same H H2:=fun c o h=>b c o (a c o h)
theorem Same.free{H H':Hp}(e:Same H H'){l:Addr}(h:H' l=Option.none):H l=Option.none:=by
 cases q:H l with
 | none=>rfl
 | some o =>
  rw[e l o q]at h
  cases h
theorem Same.seq{K:PySem.W.Frag}{H H':Hp}{a:Addr}{xs:List V}(e:Same H H')(h:SqL K H a xs):SqL K H' a xs:=by
 rcases h with(h|⟨o,h⟩)|h
 · exact .inl (.inl (e _ _ h))
 · exact .inl (.inr ⟨o,e _ _ h⟩)
 · exact .inr h
end L2

end
section
set_option Elab.async false
set_option linter.all false
set_option maxRecDepth 100000
namespace L2
open PySem PySem.Spec PyProof.Rows
theorem zhR{x:Str}{lo:Nat}:∀(names:List (Str×NameKind)) (n:Nat) (acc:List (Str×Addr)) (c:Addr),lo≤n→(∀ c,acc.lookup x=some c→lo≤c)→(cellsFrom n names acc).lookup x=some c→lo≤c
 | [],_,_,_,_,h,e=>h _ e
 | (y,k)::r,n,acc,c,hn,h,e=>by
  unfold cellsFrom at e
  split at e
  · refine zhR r (n+1) _ c (Nat.le_succ_of_le hn) (fun c' e'=>?_) e
    rw[List.lookup_cons]at e'
    split at e'
    · cases e';exact hn
    · exact h c' e'
  · exact zhR r n acc c hn h e
theorem zcL{x:Str}:∀(names:List (Str×NameKind)) (n:Nat) (acc:List (Str×Addr)) (c:Addr),names.lookup x=some .cell→(cellsFrom n names acc).lookup x=some c→n≤c
 | [],_,_,_,h,_=>by cases h
 | (y,k)::r,n,acc,c,h,e=>by
  rw[List.lookup_cons]at h
  unfold cellsFrom at e
  cases hb:x==y with
  | true =>
   rw[hb]at h
   have hk:k = .cell:=by cases h;rfl
   subst hk
   rw[if_pos (show(NameKind.cell==NameKind.cell)=true from rfl)]at e
   refine zhR r (n+1) _ c (Nat.le_succ _) (fun c' e'=>?_) e
   rw[List.lookup_cons,hb]at e'
   cases e'
   exact Nat.le_refl _
  | false =>
   rw[hb]at h
   split at e
   · exact Nat.le_of_succ_le (zcL r (n+1) _ c h e)
   · exact zcL r n acc c h e
theorem zcM{x:Str}:∀(names:List (Str×NameKind)) (n:Nat) (acc:List (Str×Addr)),(∀ y∈names,y.1=x→y.2 ≠ .cell)→(cellsFrom n names acc).lookup x=acc.lookup x
 | [],_,_,_=>rfl
 | (y,k)::r,n,acc,h=>by
  unfold cellsFrom
  have hr:∀ y∈r,y.1=x→y.2 ≠ .cell:=fun z hz=>h z (List.mem_cons_of_mem _ hz)
  split
  · rename_i hk
    rw[zcM r (n+1) _ hr,List.lookup_cons]
    have hne:(x==y)=false:=by
     cases hb:x==y with
     | false=>rfl
     | true=>exact absurd (beq_iff_eq.mp hk) (h (y,k) List.mem_cons_self (beq_iff_eq.mp hb).symm)
    rw[hne]
  · exact zcM r n acc hr
theorem zcN:∀(names:List (Str×NameKind)) (n:Nat) (acc:List (Str×Addr)) (p:Str×Addr),p∈cellsFrom n names acc→n≤p.2∨p∈acc
 | [],_,_,_,e => .inr e
 | (y,k)::r,n,acc,p,e=>by
  unfold cellsFrom at e
  split at e
  · rcases zcN r (n+1) _ p e with q|q
    · exact .inl (Nat.le_of_succ_le q)
    · rcases List.mem_cons.mp q with q|q
      · subst q;exact .inl (Nat.le_refl _)
      · exact .inr q
  · exact zcN r n acc p e
theorem z7J:∀(names:List (Str×NameKind)) (n:Nat) (acc:List (Str×Addr)),(∀ p∈acc,p.2<n)→(acc.Pairwise fun x y=>x.2≠y.2)→(cellsFrom n names acc).Pairwise fun x y=>x.2≠y.2
 | [],_,_,_,h=>h
 | (y,k)::r,n,acc,hl,h=>by
  unfold cellsFrom
  split
  · refine z7J r (n+1) _ (fun p hp=>?_) (List.pairwise_cons.mpr ⟨fun p hp e=>?_,h⟩)
    · rcases List.mem_cons.mp hp with q|q
      · subst q;exact Nat.lt_succ_self _
      · exact Nat.lt_succ_of_lt (hl p q)
    · have e':n=p.2:=e
      have q:=hl p hp
      rw[←e']at q
      exact absurd q (Nat.lt_irrefl _)
  · exact z7J r n acc hl h
theorem z7K:∀(names:List (Str×NameKind)) (n:Nat) (acc:List (Str×Addr)),cellsFrom n names acc=cellsFrom n names []++acc
 | [],_,_=>rfl
 | (y,k)::r,n,acc=>by
  unfold cellsFrom
  split
  · rw[z7K r (n+1) ((y,n)::acc),z7K r (n+1) [(y,n)],List.append_assoc]
    rfl
  · exact z7K r n acc
def z0D(env:Env):List (Str×NameKind)→List (Str×Addr)→List (Str×Addr)
 | [],acc=>acc
 | (y,k)::r,acc=>if k == .free then z0D env r (match env.cells.lookup y with|some c=>(y,c)::acc|none=>acc) else z0D env r acc
theorem z3b{env:Env}{x:Str}:∀(names:List (Str×NameKind)) (acc:List (Str×Addr)),(∀ c,acc.lookup x=some c→env.cells.lookup x=some c)→∀ c,(z0D env names acc).lookup x=some c→env.cells.lookup x=some c
 | [],_,h=>h
 | (y,k)::r,acc,h=>by
  unfold z0D
  split
  · refine z3b r _ fun c e=>?_
    cases hy:env.cells.lookup y with
    | none=>rw[hy]at e;exact h c e
    | some d =>
     rw[hy]at e
     dsimp only at e
     rw[List.lookup_cons]at e
     split at e
     · rename_i hb
       cases e
       rw[beq_iff_eq.mp hb];exact hy
     · exact h c e
  · exact z3b r acc h
theorem z57{env:Env}:∀(names:List (Str×NameKind)) (acc:List (Str×Addr)) (p:Str×Addr),p∈z0D env names acc→p∈acc∨env.cells.lookup p.1=some p.2
 | [],_,_,h => .inl h
 | (y,k)::r,acc,p,h=>by
  unfold z0D at h
  split at h
  · rcases z57 r _ p h with q|q
    · cases hy:env.cells.lookup y with
      | none=>rw[hy]at q;exact .inl q
      | some d =>
       rw[hy]at q
       rcases List.mem_cons.mp q with q|q
       · subst q;exact .inr hy
       · exact .inl q
    · exact .inr q
  · exact z57 r acc p h
theorem z3y{env:Env}{x:Str}:∀(names:List (Str×NameKind)) (acc:List (Str×Addr)),(acc.lookup x).isSome=true→((z0D env names acc).lookup x).isSome=true
 | [],_,h=>h
 | (y,k)::r,acc,h=>by
  unfold z0D
  split
  · refine z3y r _ ?_
    cases hy:env.cells.lookup y with
    | none=>exact h
    | some d =>
     show(List.lookup x ((y,d)::acc)).isSome=true
     rw[List.lookup_cons]
     split
     · rfl
     · exact h
  · exact z3y r acc h
theorem z58{env:Env}{x:Str}{c:Addr}:∀(names:List (Str×NameKind)) (acc:List (Str×Addr)),names.lookup x=some .free→env.cells.lookup x=some c→((z0D env names acc).lookup x).isSome=true
 | [],_,h,_=>by cases h
 | (y,k)::r,acc,h,hc=>by
  rw[List.lookup_cons]at h
  unfold z0D
  cases hb:x==y with
  | true =>
   rw[hb]at h
   have hk:k = .free:=by cases h;rfl
   subst hk
   rw[if_pos (show(NameKind.free==NameKind.free)=true from rfl)]
   refine z3y r _ ?_
   have hxy:x=y:=beq_iff_eq.mp hb
   subst hxy
   rw[hc]
   show(List.lookup x ((x,c)::acc)).isSome=true
   rw[List.lookup_cons,hb];rfl
  | false =>
   rw[hb]at h
   split
   · exact z58 r _ h hc
   · exact z58 r _ h hc
theorem z59{env:Env}:∀(names:List (Str×NameKind)) (acc:List (Str×Addr)) (f:Str×NameKind→List (Str×Addr)→Sem (ForInStep (List (Str×Addr)))),
  (∀ name kind cs,f (name,kind) cs=if kind == .free then(do let a ←cellOf env name;pure (.yield ((name,a)::cs))) else pure (.yield cs)) →
  (∀ y∈names,y.2 = .free→∃ c,env.cells.lookup y.1=some c)→forIn names acc f=(pure (z0D env names acc):Sem _)
 | [],acc,f,hf,h=>by rw[List.forIn_nil];rfl
 | (y,k)::r,acc,f,hf,h=>by
  have hr:∀ z∈r,z.2 = .free→∃ c,env.cells.lookup z.1=some c:=fun z hz=>h z (List.mem_cons_of_mem _ hz)
  rw[List.forIn_cons,hf]
  unfold z0D
  by_cases hk:(k==NameKind.free)=true
  · rw[if_pos hk,if_pos hk]
    obtain⟨c,hc⟩:=h (y,k) List.mem_cons_self (beq_iff_eq.mp hk)
    have hc':env.cells.lookup y=some c:=hc
    have e:cellOf env y=(pure c:Sem Addr):=by unfold cellOf;rw[hc']
    rw[e,hc']
    simp only[pure_bind]
    exact z59 r _ f hf hr
  · rw[if_neg hk,if_neg hk]
    simp only[pure_bind]
    exact z59 r _ f hf hr
theorem zcO{scope:Scope}{env:Env}(h:∀ y∈scope.names,y.2 = .free→∃ c,env.cells.lookup y.1=some c):closureFor scope env=pure (z0D env scope.names []):=by
 unfold closureFor
 simp only[]
 rw[z59 scope.names [] _ (fun name kind cs=>by cases hk:kind==NameKind.free<;>simp[hk]) h]
 rfl
end L2

end
section
set_option linter.all false
namespace L2
open PySem
section
variable {prog:Program}{w:World}{A:Around}{R:Result→Shared→Prop}{s:Shared}
theorem zav{elt target iter:Expr}{ifs:List Expr}{scope:Scope}{pos:Pos}{it acc:Value}{env:Env}(I:Nat→Shared→Prop)
  (turn:∀ n s,I n s→wpAny (model prog w) A (pyNext it) (fun r s₁=>match r with
   | none=>R (.ok .next) s₁
   | some v=>wpAny (model prog w) A (letOwnedTupleGo target it v) (fun _ s₁'=>wpAny (model prog w) A (assign target env v) (fun _ s₂ =>
    wpAny (model prog w) A (forIn ifs true fun c r=>if r=true then do let ok ←isTrue c env (eval c env);pure (ForInStep.yield ok) else pure (ForInStep.yield r)) (fun ok s₃ =>
     if ok=true then wpAny (model prog w) A (eval elt env) (fun x s₄ =>
      wpAny (model prog w) A (call (.builtin "list.append") [acc,x]) (fun _ s₅=>∃ m,m<n∧I m s₅) (notedBy (model prog w) A env fun e s'=>R (.error e) s') s₄) (notedBy (model prog w) A env fun e s'=>R (.error e) s') s₃
     else ∃ m,m<n∧I m s₃) (notedBy (model prog w) A env fun e s'=>R (.error e) s') s₂) (notedBy (model prog w) A env fun e s'=>R (.error e) s') s₁')
    (notedBy (model prog w) A env fun e s'=>R (.error e) s') s₁) (notedBy (model prog w) A env fun e s'=>R (.error e) s') s)
  (n:Nat) (h:I n s) :
  codeAny (model prog w) A (.compLoop (.ListComp elt [⟨target,iter,ifs,0⟩] scope pos) 0 it acc env) R s:=by
 refine codeAny_loop rfl I (fun n s hI=>?_) n h
 show wpAny _ A ((compTurn (.ListComp elt [⟨target,iter,ifs,0⟩] scope pos) 0 it acc env).onRaise (fun x=>do noteFrame x env;theTreesLotGoes x)) _ _ s
 refine wpAny_noted ?_
 rw[compTurn_list]
 refine wpAny_bind (wpAny_standAt (wpAny_bind (wpAny_mono (turn n s hI) (fun r s₁ h₁=>?_) fun _ _ h'=>h')))
 cases r with
 | none=>exact wpAny_pure h₁
 | some v =>
  refine wpAny_bind (wpAny_mono h₁ (fun _ s₁' h₁'=>?_) fun _ _ h'=>h')
  refine wpAny_bind (wpAny_mono h₁' (fun _ s₂ h₂=>wpAny_bind (wpAny_mono h₂ (fun ok s₃ h₃=>?_) fun _ _ h'=>h')) fun _ _ h'=>h')
  cases ok with
  | false=>exact wpAny_pure ⟨rfl,h₃⟩
  | true =>
   exact wpAny_bind (wpAny_bind (wpAny_mono h₃ (fun x s₄ h₄=>wpAny_bind (wpAny_mono h₄ (fun _ s₅ h₅=>wpAny_pure (wpAny_pure ⟨rfl,h₅⟩)) fun _ _ h'=>h')) fun _ _ h'=>h'))
theorem zhS{M:Model}{E:Value→Shared→Prop}{scope:Scope}{globals:Addr}{cl:List (Str×Addr)}{qual:Str}{func:Option Addr}{code:Value}{env:Env}{Q:Env→Shared→Prop}
  (hQ:∀ h',h'.Ns s.heap.objs.size (fun _=>none)→(∀ b o,s.heap.get? b=some o→h'.get? b=some o)→(∀ n c,(n,c)∈cellsFrom (s.heap.objs.size+1) scope.names []→h'.IsCell c none) →
   Q (newEnv scope s.heap.objs.size globals (cellsFrom (s.heap.objs.size+1) scope.names cl) qual func code (some env) builtinsNs) { s with heap:=h' }) :
  wpAny M A (newFunctionEnv scope globals cl [] qual func code (some env)) Q E s:=by
 simp only[newFunctionEnv,Option.isSome_some,if_true]
 refine wpAny_bind (wpAny_alloc ?_)
 refine wpAny_bind (wpAny_layCells _ (fun name kind cells=>by cases hkc:kind==NameKind.cell<;>simp[hkc]) _ _ _ _ ?_)
 have ok:=cellsFrom_ok scope.names (s.heap.push { cls := .type "dict",data := .dict #[] }) (s.heap.objs.size+1) [] ⟨fun _ _ hm=>(nomatch hm),List.Pairwise.nil⟩ (by rw[Heap.size_push];exact Nat.le_refl _)
 rw[Heap.size_push]at ok
 rw[show({ s with heap:=s.heap.push { cls := .type "dict",data := .dict #[] } }:Shared).heap.objs.size=s.heap.objs.size+1 from Heap.size_push ..]
 refine wpAny_bind ?_
 rw[List.forIn_nil]
 refine wpAny_pure (wpAny_pure ?_)
 exact hQ _ ((Heap.Ns.new s.heap (.type "dict")).keeps (pushCells_keeps _ _)) (fun b o e=>pushCells_keeps _ _ b o (Heap.get?_push_of_some _ e)) fun n c hm=>(ok.empty n c hm).1
end
end L2

end
section
set_option Elab.async false
set_option linter.all false
set_option maxRecDepth 100000
namespace L2
open PySem PySem.Spec PyProof.Rows
def z0P(X:Cx)(N:List Str)(scope:Scope)(cl:List (Str×Addr))(C:Addr)(fp:List Addr)(s:Shared)(H:Hp):Cx where
 prog:=X.prog
 w:=X.w
 K:=X.K
 mg:=X.mg
 base:=X.base
 A:=X.A
 N:=N
 s₀:=s
 H₀:=H
 env:=compEnvC scope cl C X.env
 outer:=X.stack
 stack:=X.stack
 ex:=fp
 fn:=fun x=>scope.names.lookup x==some .cell
 calm:=X.calm
 pn:=[]
 xe:=fun _ _=>False
structure CompScope(X:Cx)(N:List Str)(scope:Scope)(nt:Nat)(js:List Nat):Prop where
 kind:scope.kind = .function
 nd:(scope.names.map (·.1)).Nodup
 loc:∀ x∈scope.names,x.2 = .local→scope.names.lookup x.1=some .local
 len:N.length=nt+js.length
 names:∀ k j,js[k]?=some j→∃ x,N[nt+k]?=some x∧X.N[j]?=some x∧scope.names.lookup x=some .free
 fre:∀ x∈scope.names,x.2 = .free→X.env.kindOf x.1=some .cell∨X.env.kindOf x.1=some .free
def sig(nt:Nat)(js:List Nat)(σ:St):St:=List.replicate nt none++js.map fun j=>(σ[j]?).join
def PTs(X:Cx)(ifs:List Expr)(t:TT):Prop :=
 ∀(pins:List (Addr×Obj)) (s:Shared) (σ:St) (H:Hp) (Q:Bool→Hp→Prop),Inv X pins σ H s→t σ H Q →
  wpAny (model X.prog X.w) X.A (forIn ifs true fun c r=>if r=true then do let ok ←isTrue c X.env (eval c X.env);pure (ForInStep.yield ok) else pure (ForInStep.yield r)) (TP X pins σ Q) X.xe s
def tYes:TT:=fun _ H Q=>Q true H
theorem zlC{X:Cx}:PTs X [] tYes:=fun pins s σ H Q I h=>wpAny_tests_nil ⟨H,I,h⟩
theorem zlD{X:Cx}{c:Expr}{t:TT}(hc:PT X c t):PTs X [c] t:=fun pins s σ H Q I h=>wpAny_tests_one (hc pins s σ H Q I h)
theorem nlt{a b:Nat}(h1:a+1≤b)(h2:b<a):False:=by omega
theorem z2n{α:Type}:∀{l:List (Str×α)} {p:Str×α},(l.map (·.1)).Nodup→p∈l→l.lookup p.1=some p.2
 | [],_,_,h=>by cases h
 | (y,k)::r,p,nd,h=>by
  have nd:(y::r.map (·.1)).Nodup:=nd
  obtain⟨n1,n2⟩:=List.nodup_cons.mp nd
  rw[List.lookup_cons]
  rcases List.mem_cons.mp h with e|e
  · subst e
    show(match y==y with|true=>some k|false=>_)=some k
    rw[beq_self_eq_true]
  · cases hb:p.1==y with
    | true =>
     rw[←beq_iff_eq.mp hb]at n1
     exact absurd (List.mem_map.mpr ⟨p,e,rfl⟩) n1
    | false=>exact z2n n2 e
theorem z43{env:Env}{x:Str}:∀{names:List (Str×NameKind)} {k:NameKind},names.lookup x=some k →
  (names.map fun(n,k)=>if(k==NameKind.free&&env.scope.kind == .function&&env.kindOf n==some .cell) then(n,NameKind.cell) else(n,k)).lookup x=some (if(k==NameKind.free&&env.scope.kind == .function&&env.kindOf x==some .cell)=true then .cell else k)
 | [],_,h=>by cases h
 | (y,k')::r,k,h=>by
  rw[List.lookup_cons]at h
  show List.lookup x ((if(k'==NameKind.free&&env.scope.kind == .function&&env.kindOf y==some .cell)=true then(y,NameKind.cell) else(y,k'))::_)=_
  cases hb:x==y with
  | true =>
   rw[hb]at h
   have hk:k'=k:=by cases h;rfl
   have hxy:x=y:=beq_iff_eq.mp hb
   subst hk;subst hxy
   split<;>(rw[List.lookup_cons];rw[hb])
  | false =>
   rw[hb]at h
   have ih:=@z43 env x r k h
   split<;>(rw[List.lookup_cons];rw[hb];exact ih)
theorem z3z{env:Env}{x:Str}{k:NameKind}:∀{names:List (Str×NameKind)},
  (names.map fun(n,k)=>if(k==NameKind.free&&env.scope.kind == .function&&env.kindOf n==some .cell) then(n,NameKind.cell) else(n,k)).lookup x=some k→∃ k',names.lookup x=some k'∧(k=k'∨(k' = .free∧k = .cell))
 | [],h=>by cases h
 | (y,k')::r,h=>by
  have h:List.lookup x ((if(k'==NameKind.free&&env.scope.kind == .function&&env.kindOf y==some .cell)=true then(y,NameKind.cell) else(y,k'))::r.map fun(n,k)=>if(k==NameKind.free&&env.scope.kind == .function&&env.kindOf n==some .cell) then(n,NameKind.cell) else(n,k))=some k:=h
  rw[List.lookup_cons]
  cases hb:x==y with
  | true =>
   split at h
   · rename_i hc
     rw[List.lookup_cons,hb]at h
     have hf:(k'==NameKind.free)=true:=by
      rw[Bool.and_eq_true,Bool.and_eq_true]at hc
      exact hc.1.1
     cases h
     exact⟨k',rfl,.inr ⟨beq_iff_eq.mp hf,rfl⟩⟩
   · rw[List.lookup_cons,hb]at h
     cases h
     exact⟨k,rfl,.inl rfl⟩
  | false =>
   split at h
   all_goals
     rw[List.lookup_cons,hb]at h
     exact z3z h
section
variable {X:Cx}{N:List Str}{scope:Scope}{nt:Nat}{js:List Nat}{pins:List (Addr×Obj)}{σ:St}{H:Hp}{s:Shared}{fp:List Addr}
theorem zhT{s2:Shared}{H2:Hp}(S:CompScope X N scope nt js)(I2:Inv X pins σ H2 s2)(I:Inv X pins σ H s)(hu:Un (frs X.stack) fp H2 H s2.heap s.heap)(hos:s.os=s2.os)(hz:s2.heap.objs.size≤s.heap.objs.size)
   (hf:∀ b∈fp,FpOk X pins H b) (ho:∀ b∈fp,∃ o,s.heap.get? b=some o) {h':Heap}
   (ns:h'.Ns s.heap.objs.size (fun _=>none)) (k:∀ b o,s.heap.get? b=some o→h'.get? b=some o) (nc:∀ n c,(n,c)∈cellsFrom (s.heap.objs.size+1) scope.names []→h'.IsCell c none) :
   Inv (z0P X N scope (cellsFrom (s.heap.objs.size+1) scope.names (z0D X.env scope.names [])) s.heap.objs.size fp s2 H2) [] (sig nt js σ) H { s with heap:=h' }:=by
 have ok:=I.ok
 have hcl:∀ p∈z0D X.env scope.names [],X.env.cells.lookup p.1=some p.2:=fun p hp=>(z57 _ _ p hp).resolve_left (by simp)
 have hlt:∀ x c,X.env.cells.lookup x=some c→c<s.heap.objs.size:=fun x c e=>by
   obtain⟨v,o,ho,_⟩:=I.cell x c e
   exact Heap.lt_size ho
 have mem:∀ x c,(cellsFrom (s.heap.objs.size+1) scope.names (z0D X.env scope.names [])).lookup x=some c→s.heap.objs.size+1≤c∨X.env.cells.lookup x=some c:=fun x c e=>by
   rcases zcN _ _ _ _ (PySem.mem_of_lookup e)with q|q
   · exact .inl q
   · exact .inr (hcl _ q)
 have frec:∀ x,scope.names.lookup x=some .free→∃ c,X.env.cells.lookup x=some c∧(cellsFrom (s.heap.objs.size+1) scope.names (z0D X.env scope.names [])).lookup x=some c:=fun x hx=>by
   obtain⟨c,hc⟩:=ok.has x (S.fre (x,.free) (PySem.mem_of_lookup hx) rfl)
   refine⟨c,hc,?_⟩
   rw[zcM _ _ _ fun y hy e=>?_]
   · obtain⟨d,hd⟩:=Option.isSome_iff_exists.mp (z58 (env:=X.env) scope.names [] hx hc)
     have:=z3b (env:=X.env) (x:=x) scope.names [] (fun c e=>by simp at e) d hd
     rw[hc]at this
     cases this
     exact hd
   · have q:=z2n S.nd hy
     rw[e,hx]at q
     intro z
     rw[z]at q
     cases q
 refine⟨⟨ok.mod,S.kind,ok.glob,ok.blt,hz,fun x y c hx hy=>?_,fun x hx=>?_,fun x c hx e=>?_,ok.hd,ok.frames,.inl rfl,fun b hb=>⟨?_,fun x c e=>?_⟩,fun b o e=>?_,?_,fun b o e hb=>?_,fun b hb=>?_,I2.stack,I2.stkFree⟩,
   hos,I.bare,hu.trans (Un.kept k),⟨_,ns,fun i x v h1 h2 h3=>?_⟩,fun x c e=>?_,?_,fun x c e=>?_,fun p hp=>absurd (show p∈([]:List (Addr×Obj))from hp) (by simp),I.hok.kept k,?_⟩
 ·
   rcases mem x c hx with q|q
   · rcases mem y c hy with q'|q'
     · have in1:∀ z:Str,(z,c)∈cellsFrom (s.heap.objs.size+1) scope.names (z0D X.env scope.names [])→(z,c)∈cellsFrom (s.heap.objs.size+1) scope.names []:=fun z hz=>by
         rw[z7K]at hz
         rcases List.mem_append.mp hz with hz|hz
         · exact hz
         · exact(nlt q (hlt _ _ (hcl _ hz))).elim
       exact name_of_addr (z7J scope.names (s.heap.objs.size+1) [] (fun p hp=>by simp at hp) List.Pairwise.nil) (in1 x (PySem.mem_of_lookup hx)) (in1 y (PySem.mem_of_lookup hy))
     · exact(nlt q (hlt _ _ q')).elim
   · rcases mem y c hy with q'|q'
     · exact(nlt q' (hlt _ _ q)).elim
     · exact ok.inj x y c q q'
 ·
   have hx:(relabel scope X.env).names.lookup x=some .cell∨(relabel scope X.env).names.lookup x=some .free:=hx
   have cs:scope.names.lookup x=some .cell∨scope.names.lookup x=some .free:=by
     rcases hx with q|q
     · obtain⟨k',e1,e2⟩:=z3z q
       rcases e2 with e2|⟨e2,_⟩
       · rw[←e2]at e1;exact .inl e1
       · rw[e2]at e1;exact .inr e1
     · obtain⟨k',e1,e2⟩:=z3z q
       rcases e2 with e2|⟨_,e2⟩
       · rw[←e2]at e1;exact .inr e1
       · cases e2
   rcases cs with q|q
   · exact Option.isSome_iff_exists.mp (PySem.W.cellsFrom_some scope.names _ _ (.inl q))
   · obtain⟨c,_,e⟩:=frec x q
     exact⟨c,e⟩
 ·
   have hx:(scope.names.lookup x==some .cell)=true:=hx
   exact Nat.le_trans hz (Nat.le_of_succ_le (zcL scope.names _ _ c (beq_iff_eq.mp hx) e))
 ·
   intro e
   obtain⟨o,hb'⟩:=ho b hb
   exact absurd (Heap.lt_size hb') (by rw[e];exact Nat.lt_irrefl _)
 · rcases mem x c e with q|q
   · intro z
     obtain⟨o,hb'⟩:=ho b hb
     have:=Heap.lt_size hb'
     rw[←z]at this
     exact nlt q this
   · exact(hf b hb).2.2.2.2.1 x c q
 · exact I2.bs b o e
 · exact Nat.le_trans ok.bsz I2.sz
 ·
   rcases(hf b hb).2.2.2.1 with q|q
   · exact ok.noex b o e q
   · exact absurd (Nat.lt_of_lt_of_le (Heap.lt_size e) (Nat.le_trans ok.bsz q)) (Nat.lt_irrefl _)
 ·
   intro z
   rcases List.mem_cons.mp (I.stkSub b z)with q|q
   · exact(hf b hb).2.1 q
   · exact(hf b hb).2.2.1 q
 ·
   have hi:nt≤i:=by
     by_cases hi:i<nt
     · unfold sig at h2
       rw[List.getElem?_append_left (by simpa using hi),List.getElem?_replicate]at h2
       split at h2<;>cases h2
     · omega
   unfold sig at h2
   rw[List.getElem?_append_right (by simpa using hi),List.length_replicate,List.getElem?_map]at h2
   cases ej:js[i-nt]? with
   | none=>rw[ej]at h2;cases h2
   | some j =>
     rw[ej]at h2
     have h2:(σ[j]?).join=some v:=Option.some.inj h2
     obtain⟨y,n1,n2,n3⟩:=S.names _ _ ej
     have hxy:x=y:=by
       have e:nt+(i-nt)=i:=by omega
       rw[e]at n1
       have h1:N[i]?=some x:=h1
       rw[h1]at n1
       exact Option.some.inj n1
     subst hxy
     have h2':σ[j]?=some (some v):=by
       cases eσ:σ[j]? with
       | none=>rw[eσ]at h2;cases h2
       | some a =>
         rw[eσ]at h2
         have h2:a=some v:=h2
         rw[h2]
     obtain⟨m,hn,hl⟩:=I.loc
     have kd:=S.fre (x,.free) (PySem.mem_of_lookup n3) rfl
     obtain⟨u,ru,lk⟩:=hl j x v n2 h2' (.inr kd)
     refine⟨u,ru,?_⟩
     obtain⟨c,c1,c2⟩:=frec x n3
     rcases lk with⟨z,_⟩|⟨_,d,d1,d2⟩
     · have kd':X.env.kindOf x=some .cell∨X.env.kindOf x=some .free:=kd
       rw[z]at kd'
       rcases kd' with q|q<;>cases q
     · rw[c1]at d1
       cases d1
       refine .inr ⟨?_,c,c2,d2.keeps k⟩
       have:=z43 (env:=X.env) n3
       show(relabel scope X.env).names.lookup x=some .cell∨(relabel scope X.env).names.lookup x=some .free
       unfold relabel
       dsimp only
       rw[this]
       split
       · exact .inl rfl
       · exact .inr rfl
 ·
   have e:(cellsFrom (s.heap.objs.size+1) scope.names (z0D X.env scope.names [])).lookup x=some c:=e
   have hm:=PySem.mem_of_lookup e
   rw[z7K]at hm
   rcases List.mem_append.mp hm with q|q
   · exact⟨none,nc x c q⟩
   · obtain⟨v,hv⟩:=I.cell x c (hcl _ q)
     exact⟨v,hv.keeps k⟩
 · exact I.hok.fresh (Nat.le_refl _)
 · rcases mem x c e with q|q
   · exact I.hok.fresh (Nat.le_of_succ_le q)
   · exact I.freeC x c q
 · show(sig nt js σ).length=N.length
   unfold sig
   rw[List.length_append,List.length_replicate,List.length_map,S.len]
end
end L2

end
section
set_option Elab.async false
set_option linter.all false
set_option maxRecDepth 100000
namespace L2
open PySem PySem.Spec PyProof.Rows
def zfX(nt:Nat)(js:List Nat)(wi:TI)(g:TG)(tc:Hp→TT)(te:Hp→TE):TE:=fun σ H Q=>wi σ H fun J H1=>∀ D,H1 D=none →
 ∃ W:Nat→Nat→List V→Hp→Prop,(∃ m,W 0 m [] (upd H1 D (.lst [])))∧∀ i m ys H,W i m ys H →
  (J.stop i H∧Q (.ref D) H)∨(J.go i H∧∀ x H',J.yld i H x H'→g x (sig nt js σ) H' fun σ2 H2=>tc H1 σ2 H2 fun b H3 =>
   if b=true then te H1 σ2 H3 fun v H4=>H4 D=some (.lst ys)∧ys.length<sizeLine∧∃ m',m'<m∧W (i+1) m' (ys++[v]) (upd H4 D (.lst (ys++[v])))
   else ∃ m',m'<m∧W (i+1) m' ys H3)
section
variable {X:Cx}{N:List Str}{scope:Scope}{nt:Nat}{js:List Nat}{tg elt iter:Expr}{ifs:List Expr}{wi:TI}{g:TG}{tc:Hp→TT}{te:Hp→TE}{pos:Pos}
theorem zhU{σ σ2:St}(hl:σ2.length=(sig nt js σ).length)(h:∀ i,nt≤i→σ2[i]?=(sig nt js σ)[i]?):∀(i:Nat) v,(sig nt js σ)[i]?=some (some v)→σ2[i]?=some (some v):=fun i v e=>by
 by_cases hi:nt≤i
 · rw[h i hi];exact e
 · unfold sig at e
   rw[List.getElem?_append_left (by rw[List.length_replicate];omega),List.getElem?_replicate]at e
   split at e<;>cases e
def TgOk(nt:Nat)(g:TG):Prop:=∀ x σ H (Q:St→Hp→Prop),g x σ H Q→g x σ H fun σ2 H2=>(σ2.length=σ.length∧∀ i,nt≤i→σ2[i]?=σ[i]?)∧Q σ2 H2
theorem zbj(S:CompScope X N scope nt js)(hc:X.calm=true)(hi:PI X tg iter wi)
  (hg:∀ cl C fp s H,PG (z0P X N scope cl C fp s H) tg g) (ht:TgOk nt g) (hcs:∀ cl C fp s H,PTs (z0P X N scope cl C fp s H) ifs (tc H)) (he:∀ cl C fp s H,PE (z0P X N scope cl C fp s H) elt (te H))
  {use:Option (Value→Sem Unit)} {pins:List (Addr×Obj)} {s:Shared} {σ:St} {H:Hp} {Q:VK} {Q':Value→Shared→Prop} (I:Inv X pins σ H s) (h:zfX nt js wi g tc te σ H Q)
  (hs:∀ x,foldedSetIterable iter X.env x=pure x)
  (fin:∀(D C:Addr) (H':Hp) (s':Shared),Inv X pins σ H' s'→Q (.ref D) H'→H' C=none→C≠X.env.locals→(X.s₀.heap.objs.size≤C)→(∀ x c,X.env.cells.lookup x=some c→c≠C)→(∀ p∈X.pn++pins,p.1≠C)→(∃ m,s'.heap.Ns C m) →
    compPost (model X.prog X.w) X.A X.xe use Q' (.ref D) C (.ok .next) s') :
  wpAny (model X.prog X.w) X.A (comprehension (.ListComp elt [⟨tg,iter,ifs,0⟩] scope pos) scope X.env (firstIterPos [⟨tg,iter,ifs,0⟩] pos) (newList []) false (eval iter X.env) use) Q' X.xe s:=by
 have clo:closureFor scope X.env=pure (z0D X.env scope.names []):=zcO fun y hy e=>I.ok.has y.1 (S.fre y hy e)
 refine wpAny_comprehension_free (cl:=z0D X.env scope.names []) rfl hs clo S.kind S.loc (thn (hi pins s σ H _ I h) fun xv s1 h1=>thn h1 fun itv s2 h2=>?_)
 obtain⟨it,fp,tn,J,H2,rfl,I2,T,st2,f2,q2⟩:=h2
 refine wpAny_newObj_type (hd:=by size_fits) ?_
 have fresh2:H2 s2.heap.objs.size=none:=I2.fresh
 have I3:=I2.lnew (ys:=[]) (its:=[]) (t':=s2.toks) .nil (Nat.zero_le _)
 obtain⟨W,⟨m0,w0⟩,turn⟩:=q2 s2.heap.objs.size fresh2
 have ltf:∀ b∈fp,b<s2.heap.objs.size:=fun b hb=>by
  obtain⟨o,e,_⟩:=T.obj 0 _ st2 b hb
  exact Heap.lt_size e
 have ned:∀ b∈fp,b≠s2.heap.objs.size:=fun b hb=>Nat.ne_of_lt (ltf b hb)
 have f3:∀ b∈fp,FpOk X pins (upd H2 s2.heap.objs.size (.lst [])) b:=fun b hb=>⟨by rw[z0q (ned b hb)];exact(f2 b hb).1,(f2 b hb).2⟩
 generalize e3:({ s2 with heap:=s2.heap.push { cls := .type "list",dict:=none,data := .seq ([]:List Value).toArray } }:Shared)=s3 at *
 have k3:∀ b o,s2.heap.get? b=some o→s3.heap.get? b=some o:=fun b o e=>by rw[←e3];exact Heap.get?_push_of_some _ e
 have os3:s3.os=s2.os:=by rw[←e3]
 have sz3:s2.heap.objs.size<s3.heap.objs.size:=by rw[←e3];show _<(s2.heap.push _).objs.size;rw[Heap.size_push];exact Nat.lt_succ_self _
 refine zhS fun h4 ns4 k4 nc4=>?_
 have I4:=zhT S I2 I3 (Un.laid k3 (Nat.le_refl _) fresh2) os3 (Nat.le_of_lt sz3) f3 (fun b hb=>by obtain⟨o,e,_⟩:=T.obj 0 _ st2 b hb;exact⟨o,k3 b o e⟩) ns4 k4 nc4
 have st4:tn 0 h4:=T.keep _ _ _ st2 fun b _ o e=>k4 b o (k3 b o e)
 generalize eC:s3.heap.objs.size=C at *
 have stat:∀{H':Hp},(∀ b∈fp,H' b=none)→∀ b∈fp,FpOk (z0P X N scope (cellsFrom (C+1) scope.names (z0D X.env scope.names [])) C fp s2 H2) [] H' b:=fun hn b hb =>
  ⟨hn b hb,(I4.ok.exf b hb).1,I4.ok.exfs b hb,.inl hb,(I4.ok.exf b hb).2,fun p hp=>absurd (show p∈([]:List (Addr×Obj))from hp) (by simp)⟩
 have loop:∀ s4:Shared,s4={ s3 with heap:=h4 }→codeAny (model X.prog X.w) X.A (.compLoop (.ListComp elt [⟨tg,iter,ifs,0⟩] scope pos) 0 (.ref it) (.ref s2.heap.objs.size) (compEnvC scope (cellsFrom (C+1) scope.names (z0D X.env scope.names [])) C X.env))
    (compPost (model X.prog X.w) X.A X.xe use Q' (.ref s2.heap.objs.size) C) s4:=by
  rintro s4 rfl
  refine zav (fun n s'=>∃ i ys H',Inv (z0P X N scope (cellsFrom (C+1) scope.names (z0D X.env scope.names [])) C fp s2 H2) [] (sig nt js σ) H' s'∧tn i s'.heap∧(∀ b∈fp,H' b=none)∧W i n ys H') ?_ m0
    ⟨0,[],_,I4,st4,fun b hb=>(f3 b hb).1,w0⟩
  rintro n s5 ⟨i,ys,H5,I5,st5,fr5,w5⟩
  rcases turn i n ys H5 w5 with⟨stop,q⟩|⟨go,step⟩
  · refine wpAny_mono (T.done (z0P X N scope (cellsFrom (C+1) scope.names (z0D X.env scope.names [])) C fp s2 H2) rfl rfl rfl hc i [] s5 _ H5 _ I5 (stat fr5) st5 stop) (fun r s6 hZ=>hZ.elim fun hr I6=>?_) fun _ _ z=>z
    subst hr
    have u:Un (frs X.stack) fp H2 H5 s2.heap s6.heap:=I6.base
    have J6:Inv X pins σ H5 s6:=I2.call' I6.os u I6.hok I6.bare fun b hb=>⟨(f2 b hb).2.2.2.1,(f2 b hb).2.1,(f2 b hb).2.2.2.2.1,(f2 b hb).2.2.2.2.2⟩
    have hCs:s2.heap.objs.size≤C:=Nat.le_of_lt sz3
    refine fin _ C H5 s6 J6 q I6.free (fun z=>?_) (Nat.le_trans I2.sz hCs) (fun x c e z=>?_) (fun p hp z=>?_) ?_
    · exact absurd I2.lt (by rw[←z];exact Nat.not_lt.mpr hCs)
    · obtain⟨v,o,ho,_⟩:=I2.cell x c e
      exact absurd (Heap.lt_size ho) (by rw[z];exact Nat.not_lt.mpr hCs)
    · exact absurd (Heap.lt_size (I2.pin p hp).1) (by rw[z];exact Nat.not_lt.mpr hCs)
    · obtain⟨m,hm,_⟩:=I6.loc
      exact⟨m,hm⟩
  · refine wpAny_mono (T.item (z0P X N scope (cellsFrom (C+1) scope.names (z0D X.env scope.names [])) C fp s2 H2) rfl rfl rfl hc i [] s5 _ H5 _ I5 (stat fr5) st5 go) (fun r s6 hZ=>hZ.elim fun u hZ=>hZ.elim fun hr h6=>?_) fun _ _ z=>z
    subst hr
    refine wpAny_mono h6 (fun _ s7 hZ=>hZ.elim fun x hZ=>hZ.elim fun H7 hZ=>hZ.elim fun I7 hZ=>hZ.elim fun r7 hZ=>hZ.elim fun y7 hZ=>hZ.elim fun st7 fr7=>?_) fun _ _ z=>z
    have I7':=I7.pinned (stat fr7) (T.obj _ _ st7)
    refine wpAny_mono (hg _ _ _ _ _ _ s7 _ H7 x u _ I7' r7 (ht _ _ _ _ (step x H7 y7))) (fun _ s8 ⟨σ8,H8,I8,⟨l8,o8⟩,q8⟩=>?_) fun _ _ z=>z.elim
    have again:∀{s9:Shared} {H9:Hp} {ys9:List V},Inv (z0P X N scope (cellsFrom (C+1) scope.names (z0D X.env scope.names [])) C fp s2 H2) ([]++z7G fp s7.heap) σ8 H9 s9→(∃ m',m'<n∧W (i+1) m' ys9 H9) →
       ∃ m,m<n∧∃ i ys H',Inv (z0P X N scope (cellsFrom (C+1) scope.names (z0D X.env scope.names [])) C fp s2 H2) [] (sig nt js σ) H' s9∧tn i s9.heap∧(∀ b∈fp,H' b=none)∧W i m ys H':=fun{s9 H9 ys9} I9 ⟨m',hm,w9⟩=>by
      refine⟨m',hm,i+1,ys9,H9,I9.unpinned.weak l8.symm (zhU l8 o8),T.keep _ _ _ st7 fun b hb o e=>(I9.pin (b,o) (List.mem_append_right _ (List.mem_append_right _ (z3v hb e)))).1,fun b hb=>?_,w9⟩
      obtain⟨o,e,_⟩:=T.obj _ _ st7 b hb
      exact(I9.pin (b,o) (List.mem_append_right _ (List.mem_append_right _ (z3v hb e)))).2.1
    refine wpAny_mono (hcs _ _ _ _ _ _ s8 σ8 H8 _ I8 q8) (fun ok s9 hZ=>hZ.elim fun H9 hZ=>hZ.elim fun I9 q9=>?_) fun _ _ z=>z.elim
    cases ok with
    | false =>
      rw[if_neg Bool.false_ne_true]at q9 ⊢
      exact again I9 q9
    | true =>
      rw[if_pos rfl]at q9 ⊢
      refine wpAny_mono (he _ _ _ _ _ _ s9 σ8 H9 _ I9 q9) (fun y s10 hZ=>hZ.elim fun v hZ=>hZ.elim fun H10 hZ=>hZ.elim fun I10 hZ=>hZ.elim fun r10 hZ=>hZ.elim fun d10 hZ=>hZ.elim fun l10 w10=>?_) fun _ _ z=>z.elim
      refine wpAny_mono (z9e (X:=z0P X N scope (cellsFrom (C+1) scope.names (z0D X.env scope.names [])) C fp s2 H2) _ s10 σ8 H10 (.ref s2.heap.objs.size) [v] (.ref s2.heap.objs.size) [y] (fun z H'=>∃ m',m'<n∧W (i+1) m' (ys++[v]) H') I10 rfl (.cons r10 .nil) ⟨_,ys,v,rfl,rfl,d10,l10,w10⟩) (fun _ s11 hZ=>hZ.elim fun _ hZ=>hZ.elim fun H11 hZ=>hZ.elim fun I11 hZ=>hZ.elim fun _ w11=>?_) fun _ _ z=>z.elim
      exact again I11 w11
 exact codeAny_compStart_list (loop _ rfl) (T.self _ _ _ _ _ st4 (loop _ rfl))
theorem zlE(S:CompScope X N scope nt js)(hc:X.calm=true)(hi:PI X tg iter wi)
  (hg:∀ cl C fp s H,PG (z0P X N scope cl C fp s H) tg g) (ht:TgOk nt g) (hcs:∀ cl C fp s H,PTs (z0P X N scope cl C fp s H) ifs (tc H)) (he:∀ cl C fp s H,PE (z0P X N scope cl C fp s H) elt (te H))
  (hs:∀ x,foldedSetIterable iter X.env x=pure x:=by intro _;rfl):PE X (.ListComp elt [⟨tg,iter,ifs,0⟩] scope pos) (zfX nt js wi g tc te):=by
 intro pins s σ H Q I h
 rw[eval_ListComp]
 refine zbj (use:=none) S hc hi hg ht hcs he I h hs ?_
 rintro D C H' s' I' q hC hL hz hcl hpn ⟨m,hm⟩
 exact⟨m,hm,fun h' sb=>⟨.ref D,H',I'.turned (fun b o hb e=>sb.extBut b o hb e) hC hL (.inr hz) hcl hpn,rfl,q⟩⟩
theorem zlF{i:Nat}{x:Str}{pos' spos:Pos}(hN:X.N.Nodup)(hix:X.N[i]?=some x)(hx:X.env.scope.names.lookup x=some .local)(S:CompScope X N scope nt js)(hc:X.calm=true)(hi:PI X tg iter wi)
  (hg:∀ cl C fp s H,PG (z0P X N scope cl C fp s H) tg g) (ht:TgOk nt g) (hcs:∀ cl C fp s H,PTs (z0P X N scope cl C fp s H) ifs (tc H)) (he:∀ cl C fp s H,PE (z0P X N scope cl C fp s H) elt (te H))
  (hsw:swapsWith (.ListComp elt [⟨tg,iter,ifs,0⟩] scope pos) (some (.Name x pos')) spos.line X.env=pure true)
  (hs:∀ x,foldedSetIterable iter X.env x=pure x:=by intro _;rfl):PS X (.Assign [.Name x pos'] (.ListComp elt [⟨tg,iter,ifs,0⟩] scope pos) spos) (tAsg (zfX nt js wi g tc te) (z7F i)):=by
 intro pins s σ H D0 I h
 rw[exec_Assign_Name_used _ _ _ _ hsw]
 refine wpAny_bind (wpAny_standAt (wpAny_bind ?_))
 show wpAny _ X.A (do let _ ←comprehension (.ListComp elt [⟨tg,iter,ifs,0⟩] scope pos) scope X.env _ (newList []) false (eval iter X.env) (some (assign (.Name x pos') X.env))) _ _ s
 refine wpAny_bind (wpAny_mono (zbj (use:=some (assign (.Name x pos') X.env)) (Q':=fun _ s'=>SP X pins D0 .next s') S hc hi hg ht hcs he I h hs fun D C H' s' I' q hC hL hz hcl hpn hZ=>hZ.elim fun m hm=>?_) (fun _ s' hq=>wpAny_pure (wpAny_pure hq)) fun _ _ e=>e)
 show wpAny _ X.A (assign (.Name x pos') X.env (.ref D)) _ _ s'
 refine wpAny_assign_Name (z96 (v := .ref D) I' hN hix (.inl hx) rfl (fun s'' I'' hZ=>hZ.elim fun a hZ=>hZ.elim fun sb ha=>?_) (.inr hx))
 have hCa:C≠a:=by
  rintro rfl
  rcases ha with ha|ha
  · exact hL ha
  · exact hcl x C ha rfl
 refine⟨m,hm.sameBut sb hCa,fun h' sb'=>⟨_,H',I''.turned (fun b o hb e=>sb'.extBut b o hb e) hC hL (.inr hz) hcl hpn,q⟩⟩
end
end L2

end
section
set_option Elab.async false
set_option linter.all false
set_option maxRecDepth 100000
namespace L2
open PySem PySem.Spec PyProof.Rows
section
variable {X:Cx}
def CDivG(_ j:Int):Prop:=j≠0∧j.natAbs.log2<9000
theorem zhV:OpR X (binaryOp .FloorDiv) (rI CDivG fun i j => .int (i.fdiv j)):=opI fun _ _ _ _ _ _ _ hc q=>floordiv_int hc.1 q (.inl (PyProof.noPylong_of_log2 hc.2))
theorem log2_lt{n k:Nat}(h:n<2 ^ k)(hk:0<k):n.log2<k:=by
 by_cases h0:n=0
 · subst h0;exact hk
 · exact(Nat.log2_lt h0).mpr h
theorem zaw{i:Int}{k:Nat}(h:i.natAbs<2 ^ k):Builtin.Int.intBits i≤k:=by
 unfold Builtin.Int.intBits
 split
 · exact Nat.zero_le _
 · rename_i h0
   have h1:i.natAbs≠0:=by
    intro e
    apply h0
    have:i=0:=Int.natAbs_eq_zero.mp e
    subst this
    rfl
   exact Nat.succ_le_of_lt ((Nat.log2_lt h1).mpr h)
theorem pe_ty{x:Str}{T:String}{pos:Pos}(hg:Gl X x)(hm:X.mg x=none)(hv:bootBuiltins x=some (.type T))(hn:x ≠ "__name__" := by decide)(hd:(x==("__debug__" : Str))=false:=by decide):PE X (.Name x pos) (tC (.ty T)):=zlk (v:=V.ty T) hg hm hv rfl hn hd
end
end L2

end
section
set_option Elab.async false
set_option linter.all false
set_option maxRecDepth 100000
namespace L2
open PySem PySem.Spec PyProof.Rows
def hidL(A:List Addr)(H:Hp):Hp:=fun b=>if b∈A then none else H b
def z11(A:List Addr)(H H':Hp):Hp:=fun b=>if b∈A then H b else H' b
section
variable {A:List Addr}{H H' H1:Hp}{a b:Addr}{o:HO}
theorem z2f(h:b∈A):hidL A H b=none:=if_pos h
theorem z0l(h:b ∉ A):hidL A H b=H b:=if_neg h
theorem z3A(h:hidL A H b=some o):b ∉ A∧H b=some o:=by
 unfold hidL at h
 split at h
 · cases h
 · rename_i q;exact⟨q,h⟩
theorem z0y:Same (hidL A H) H:=fun b o e=>(z3A e).2
theorem zbk:hidL [] H=H:=funext fun b=>by unfold hidL;simp
theorem z4F(h:b∈A):z11 A H H' b=H b:=if_pos h
theorem z0U(h:b ∉ A):z11 A H H' b=H' b:=if_neg h
theorem Same.glue(h:Same (hidL A H) H')(hn:∀ a∈A,H' a=none):Same H (z11 A H H'):=fun b o e=>by
 by_cases q:b∈A
 · rw[z4F q];exact e
 · rw[z0U q];exact h b o (by rw[z0l q];exact e)
theorem z2M(hn:∀ a∈A,H' a=none):hidL A (z11 A H H')=H':=funext fun b=>by
 by_cases q:b∈A
 · rw[z2f q,hn b q]
 · rw[z0l q,z0U q]
end
def OwnL(X:Cx)(A:List Addr)(H:Hp):Prop:=∀ a∈A,(∃ vs,H a=some (.lst vs))∧X.H₀ a=none
section
variable {X:Cx}{A:List Addr}{pins:List (Addr×Obj)}{σ:St}{H H':Hp}{s s':Shared}
def zbl(h:Heap)(A:List Addr):List (Addr×Obj):=A.filterMap fun a=>(h.get? a).map fun o=>(a,o)
theorem z9g{h:Heap}{a:Addr}{o:Obj}(ha:a∈A)(e:h.get? a=some o):(a,o)∈zbl h A:=List.mem_filterMap.mpr ⟨a,ha,by rw[e];rfl⟩
theorem zhW{h:Heap}{p:Addr×Obj}(hp:p∈zbl h A):p.1∈A∧h.get? p.1=some p.2:=by
 obtain⟨a,ha,e⟩:=List.mem_filterMap.mp hp
 cases q:h.get? a with
 | none=>rw[q]at e;cases e
 | some o=>rw[q]at e;cases e;exact⟨ha,q⟩
theorem Inv.fsFree(I:Inv X pins σ H s){b:Addr}(hb:b∈X.fs):H b=none:=by
 obtain⟨_,o,ho,_⟩:=I.ok.funs.mem hb
 exact I.base.free b o ho (I.ok.frf b hb) fun z=>I.ok.exfs b z hb
theorem Inv.hide(I:Inv X pins σ H s)(hA:OwnL X A H):Inv X (pins++zbl s.heap A) σ (hidL A H) s:=by
 have nl:∀ b o,H b=some o→(∀ vs,o ≠ .lst vs)→b ∉ A:=fun b o e n hb=>by
   obtain⟨⟨vs,q⟩,_⟩:=hA b hb
   rw[e]at q
   exact n vs (Option.some.inj q)
 refine⟨I.ok,I.os,I.bare,⟨I.base.keep,I.base.slot,fun b o e n hx=>?_,I.base.there,fun b xs e=>?_,fun b o u e=>?_,fun b ps e=>?_⟩,I.loc,I.cell,?_,fun x c e=>?_,fun p hp=>?_,fun a o e=>?_,I.len⟩
 · have:=I.base.free b o e n hx
   unfold hidL
   split
   · rfl
   · exact this
 · have:=I.base.tups b xs e
   rw[z0l (nl b _ this fun _ z=>by cases z)];exact this
 · have:=I.base.frzs b o u e
   rw[z0l (nl b _ this fun _ z=>by cases z)];exact this
 · obtain⟨more,this⟩:=I.base.tbls b ps e
   exact⟨more,by rw[z0l (nl b _ this fun _ z=>by cases z)];exact this⟩
 · have:=I.free
   unfold hidL
   split
   · rfl
   · exact this
 · have:=I.freeC x c e
   unfold hidL
   split
   · rfl
   · exact this
 · rw[←List.append_assoc]at hp
   rcases List.mem_append.mp hp with hp|hp
   · obtain⟨q1,q2,q3⟩:=I.pin p hp
     refine⟨q1,?_,q3⟩
     unfold hidL
     split
     · rfl
     · exact q2
   · obtain⟨q1,q2⟩:=zhW hp
     obtain⟨⟨vs,q⟩,_⟩:=hA _ q1
     refine⟨q2,z2f q1,fun z=>?_,fun z=>?_,fun v z=>?_⟩
     · rw[z,I.free]at q;cases q
     · rw[I.fsFree z]at q;cases q
     · obtain⟨_,its,n,_,e⟩:=I.hok _ _ q
       rw[q2]at e
       have e:=Option.some.inj e
       rw[e]at z
       cases z
 · obtain⟨q1,q2⟩:=z3A e
   refine(I.hok a o q2).stay (fun b u _ z=>z) (fun b z=>?_) (fun b xs z=>?_)
   · rw[z0l (nl b _ z fun _ z=>by cases z)];exact z
   · rw[z0l (nl b _ z fun _ z=>by cases z)];exact z
theorem Inv.unhide{σ':St}(I:Inv X pins σ H s)(hA:OwnL X A H)(J:Inv X (pins++zbl s.heap A) σ' H' s'):(∀ a∈A,H' a=none)∧Inv X pins σ' (z11 A H H') s':=by
 have pn:∀ a∈A,∃ o,s.heap.get? a=some o∧s'.heap.get? a=some o∧H' a=none:=fun a ha=>by
   obtain⟨⟨vs,q⟩,_⟩:=hA a ha
   obtain⟨_,its,n,_,e⟩:=I.hok _ _ q
   have:=J.pin _ (List.mem_append_right _ (List.mem_append_right _ (z9g ha e)))
   exact⟨_,e,this.1,this.2.1⟩
 have hn:∀ a∈A,H' a=none:=fun a ha=>by obtain⟨o,_,_,q⟩:=pn a ha;exact q
 have out:∀ b,H b=none→b ∉ A:=fun b e hb=>by
   obtain⟨⟨vs,q⟩,_⟩:=hA b hb
   rw[e]at q;cases q
 have tr:∀ b o,H' b=some o→b ∉ A:=fun b o e hb=>by rw[hn b hb]at e;cases e
 refine⟨hn,J.ok,J.os,J.bare,⟨J.base.keep,J.base.slot,fun b o e n hx=>?_,J.base.there,fun b xs e=>?_,fun b o u e=>?_,fun b ps e=>?_⟩,J.loc,J.cell,?_,fun x c e=>?_,fun p hp=>?_,fun a o e=>?_,J.len⟩
 · rw[z0U (out b (I.base.free b o e n hx))];exact J.base.free b o e n hx
 · have:=J.base.tups b xs e
   rw[z0U (tr b _ this)];exact this
 · have:=J.base.frzs b o u e
   rw[z0U (tr b _ this)];exact this
 · obtain⟨more,this⟩:=J.base.tbls b ps e
   exact⟨more,by rw[z0U (tr b _ this)];exact this⟩
 · rw[z0U (out _ I.free)];exact J.free
 · rw[z0U (out _ (I.freeC x c e))];exact J.freeC x c e
 · have hp':p∈X.pn++(pins++zbl s.heap A):=by
     rw[←List.append_assoc];exact List.mem_append_left _ hp
   obtain⟨q1,q2,q3⟩:=J.pin p hp'
   refine⟨q1,?_,q3⟩
   rw[z0U (out _ (I.pin p hp).2.1)];exact q2
 · by_cases ha:a∈A
   · rw[z4F ha]at e
     obtain⟨⟨vs,q⟩,_⟩:=hA a ha
     rw[q]at e
     cases e
     obtain⟨hz,its,n,r,e1⟩:=I.hok _ _ q
     obtain⟨o,e2,e3,_⟩:=pn a ha
     rw[e1]at e2
     cases e2
     exact⟨hz,its,n,r,e3⟩
   · rw[z0U ha]at e
     refine(J.hok a o e).stay (fun b u _ z=>z) (fun b z=>?_) (fun b xs z=>?_)
     · rw[z0U (tr b _ z)];exact z
     · rw[z0U (tr b _ z)];exact z
theorem PE.frame{e:Expr}{t:TE}(h:PE X e t):PE X e (fun σ H Q=>∃ A,OwnL X A H∧t σ (hidL A H) fun v H'=>(∀ a∈A,H' a=none)→Q v (z11 A H H')):=by
 intro pins s σ H Q I ⟨A,hA,z⟩
 refine thn (h _ s σ _ _ (I.hide hA) z) ?_
 rintro u s' ⟨v,H',J,r,q⟩
 obtain⟨hn,J'⟩:=I.unhide hA J
 exact⟨v,_,J',r,q hn⟩
theorem PA.frame{es:List Expr}{t:TA}(h:PA X es t):PA X es (fun σ H Q=>∃ A,OwnL X A H∧t σ (hidL A H) fun v H'=>(∀ a∈A,H' a=none)→Q v (z11 A H H')):=by
 intro pos pins s σ H Q I ⟨A,hA,z⟩
 refine thn (h pos _ s σ _ _ (I.hide hA) z) ?_
 rintro u s' ⟨v,H',J,r,q⟩
 obtain⟨hn,J'⟩:=I.unhide hA J
 exact⟨v,_,J',r,q hn⟩
theorem PT.frame{e:Expr}{t:TT}(h:PT X e t):PT X e (fun σ H Q=>∃ A,OwnL X A H∧t σ (hidL A H) fun v H'=>(∀ a∈A,H' a=none)→Q v (z11 A H H')):=by
 intro pins s σ H Q I ⟨A,hA,z⟩
 refine thn (h _ s σ _ _ (I.hide hA) z) ?_
 rintro u s' ⟨H',J,q⟩
 obtain⟨hn,J'⟩:=I.unhide hA J
 exact⟨_,J',q hn⟩
def hidD(A:List Addr)(H:Hp)(D:Ends):Ends where
 nx:=fun σ H'=>(∀ a∈A,H' a=none)→D.nx σ (z11 A H H')
 rt:=fun v H'=>(∀ a∈A,H' a=none)→D.rt v (z11 A H H')
 bk:=fun σ H'=>(∀ a∈A,H' a=none)→D.bk σ (z11 A H H')
 ct:=fun σ H'=>(∀ a∈A,H' a=none)→D.ct σ (z11 A H H')
theorem PS.frame{st:Stmt}{t:TS}(h:PS X st t):PS X st (fun D σ H=>∃ A,OwnL X A H∧t (hidD A H D) σ (hidL A H)):=by
 intro pins s σ H D I ⟨A,hA,z⟩
 refine thn (h _ s σ _ _ (I.hide hA) z) fun f s' q=>?_
 cases f with
 | next=>obtain⟨σ',H',J,q⟩:=q;obtain⟨hn,J'⟩:=I.unhide hA J;exact⟨_,_,J',q hn⟩
 | brk=>obtain⟨σ',H',J,q⟩:=q;obtain⟨hn,J'⟩:=I.unhide hA J;exact⟨_,_,J',q hn⟩
 | cont=>obtain⟨σ',H',J,q⟩:=q;obtain⟨hn,J'⟩:=I.unhide hA J;exact⟨_,_,J',q hn⟩
 | ret u=>obtain⟨v,σ',H',J,r,q⟩:=q;obtain⟨hn,J'⟩:=I.unhide hA J;exact⟨_,_,_,J',r,q hn⟩
theorem PI.frame{tg e:Expr}{t:TI}(h:PI X tg e t):PI X tg e (fun σ H R=>∃ A,OwnL X A H∧t σ (hidL A H) fun J H'=>(∀ a∈A,H' a=none)→R J (z11 A H H')):=by
 intro pins s σ H R I ⟨A,hA,z⟩
 refine thn (h _ s σ _ _ (I.hide hA) z) fun v s1 q=>thn q ?_
 rintro itv s2 ⟨it,fp,tn,J,H',e,I2,T,st,hf,r⟩
 obtain⟨hn,I3⟩:=I.unhide hA I2
 refine⟨it,fp,tn,J,_,e,I3,T,st,fun b hb=>?_,r hn⟩
 obtain⟨f1,f2,f3,f4,f5,f6⟩:=hf b hb
 have hbA:b ∉ A:=fun ha=>by
  obtain⟨⟨vs,q⟩,_⟩:=hA b ha
  obtain⟨_,its,n,_,e⟩:=I.hok _ _ q
  exact f6 _ (List.mem_append_right _ (List.mem_append_right _ (z9g ha e))) rfl
 refine⟨by rw[z0U hbA];exact f1,f2,f3,f4,f5,fun p hp=>f6 p ?_⟩
 rw[←List.append_assoc];exact List.mem_append_left _ hp
end
end L2

end
section
set_option Elab.async false
set_option linter.all false
set_option maxRecDepth 100000
namespace L2
open PySem PySem.Spec PyProof.Rows
inductive Dt where
 | non|bl (b:Bool)|int (i:Int)|str (x:Str)|lst (xs:List Dt)|tup (xs:List Dt)|scr (ns:List Int)|dic
def emp:Hp:=fun _=>none
theorem z7L{A C:List Addr}{H:Hp}:hidL A (hidL C H)=hidL C (hidL A H):=funext fun b=>by
 unfold hidL
 by_cases p:b∈A<;>by_cases q:b∈C<;>simp[p,q]
theorem z0R{A:List Addr}{H H':Hp}(h:Same H H'):Same (hidL A H) (hidL A H'):=fun b o e=>by
 obtain⟨q1,q2⟩:=z3A e
 rw[z0l q1];exact h b o q2
theorem z3h{A B:List Addr}{H:Hp}(h:∀ a∈B,a∈A):Same (hidL A H) (hidL B H):=fun b o e=>by
 obtain⟨q1,q2⟩:=z3A e
 rw[z0l fun z=>q1 (h b z)];exact q2
theorem Same.seqT{K:PySem.W.Frag}{H H':Hp}{a:Addr}{xs:List V}(e:Same H H')(h:SqT K H a xs):SqT K H' a xs:=by
 rcases h with(h|⟨o,h⟩)|h
 · exact .inl (.inl (e _ _ h))
 · exact .inl (.inr ⟨o,e _ _ h⟩)
 · exact .inr h
theorem Same.emp{H:Hp}:Same emp H:=fun _ _ e=>by cases e
def dicAt(a:Addr)(h:Heap):Prop:=h.get? a=some { cls := .type "dict",data := .dict #[] }
mutual
def Rp(K:PySem.W.Frag)(B:Hp):Dt→Hp→V→Prop
 | .non,_,v=>v = .non
 | .bl b,_,v=>v = .bl b
 | .int i,_,v=>v = .int i
 | .str x,_,v=>v = .str x
 | .dic,H,v=>∃ a,v = .ref a∧H a=some (.ext (dicAt a))
 | .lst ds,H,v=>∃ a vs,v = .ref a∧B a=none∧H a=some (.lst vs)∧Rps K B ds (hidL [a] H) vs
 | .tup ds,H,v=>∃ a vs,v = .ref a∧SqT K H a vs∧Rps K B ds H vs
 | .scr ns,H,v=>∃ a,v = .ref a∧B a=none∧SqL K H a (ns.map V.int)
def Rps(K:PySem.W.Frag)(B:Hp):List Dt→Hp→List V→Prop
 | [],_,vs=>vs=[]
 | d::ds,H,vs=>∃ v r,vs=v::r∧Rp K B d H v∧Rps K B ds H r
end
section
variable {K:PySem.W.Frag}{B B' H H':Hp}
theorem Rp.int_{i:Int}{v:V}:Rp K B (.int i) H v↔v = .int i:=by unfold Rp;exact Iff.rfl
theorem Rp.bl_{b:Bool}{v:V}:Rp K B (.bl b) H v↔v = .bl b:=by unfold Rp;exact Iff.rfl
theorem Rp.non_{v:V}:Rp K B .non H v↔v = .non:=by unfold Rp;exact Iff.rfl
theorem Rp.str_{x:Str}{v:V}:Rp K B (.str x) H v↔v = .str x:=by unfold Rp;exact Iff.rfl
theorem Rp.dic_{v:V}:Rp K B .dic H v↔∃ a,v = .ref a∧H a=some (.ext (dicAt a)):=by unfold Rp;exact Iff.rfl
theorem Rp.lst_{ds:List Dt}{v:V}:Rp K B (.lst ds) H v↔∃ a vs,v = .ref a∧B a=none∧H a=some (.lst vs)∧Rps K B ds (hidL [a] H) vs:=by rw[Rp]
theorem Rp.tup_{ds:List Dt}{v:V}:Rp K B (.tup ds) H v↔∃ a vs,v = .ref a∧SqT K H a vs∧Rps K B ds H vs:=by rw[Rp]
theorem Rp.scr_{ns:List Int}{v:V}:Rp K B (.scr ns) H v↔∃ a,v = .ref a∧B a=none∧SqL K H a (ns.map V.int):=by rw[Rp]
theorem Rps.nil_{vs:List V}:Rps K B [] H vs↔vs=[]:=by rw[Rps]
theorem Rps.cons_{d:Dt}{ds:List Dt}{vs:List V}:Rps K B (d::ds) H vs↔∃ v r,vs=v::r∧Rp K B d H v∧Rps K B ds H r:=by rw[Rps]
mutual
theorem Rp.mono:∀(d:Dt) {H H':Hp} {v:V},Same H H'→Rp K B d H v→Rp K B d H' v
 | .non,_,_,v,e,h=>by unfold Rp at h ⊢;exact h
 | .bl b,_,_,v,e,h=>by unfold Rp at h ⊢;exact h
 | .int i,_,_,v,e,h=>by unfold Rp at h ⊢;exact h
 | .str x,_,_,v,e,h=>by unfold Rp at h ⊢;exact h
 | .dic,_,_,v,e,h=>by unfold Rp at h ⊢;obtain⟨a,q,r⟩:=h;exact⟨a,q,e _ _ r⟩
 | .lst ds,_,_,v,e,h=>by
  unfold Rp at h ⊢
  obtain⟨a,vs,rfl,h0,h1,h2⟩:=h
  exact⟨a,vs,rfl,h0,e _ _ h1,Rps.mono ds (z0R e) h2⟩
 | .tup ds,_,_,v,e,h=>by
  unfold Rp at h ⊢
  obtain⟨a,vs,rfl,h1,h2⟩:=h
  exact⟨a,vs,rfl,e.seqT h1,Rps.mono ds e h2⟩
 | .scr ns,_,_,v,e,h=>by
  unfold Rp at h ⊢
  obtain⟨a,rfl,h0,h1⟩:=h
  exact⟨a,rfl,h0,e.seq h1⟩
theorem Rps.mono:∀(ds:List Dt) {H H':Hp} {vs:List V},Same H H'→Rps K B ds H vs→Rps K B ds H' vs
 | [],_,_,vs,e,h=>by unfold Rps at h ⊢;exact h
 | d::ds,_,_,vs,e,h=>by
  unfold Rps at h ⊢
  obtain⟨v,r,rfl,h1,h2⟩:=h
  exact⟨v,r,rfl,Rp.mono d e h1,Rps.mono ds e h2⟩
end
mutual
theorem Rp.anti(e:Same B' B):∀(d:Dt) {H:Hp} {v:V},Rp K B d H v→Rp K B' d H v
 | .non,_,v,h=>by unfold Rp at h ⊢;exact h
 | .bl b,_,v,h=>by unfold Rp at h ⊢;exact h
 | .int i,_,v,h=>by unfold Rp at h ⊢;exact h
 | .str x,_,v,h=>by unfold Rp at h ⊢;exact h
 | .dic,_,v,h=>by unfold Rp at h ⊢;exact h
 | .lst ds,_,v,h=>by
  unfold Rp at h ⊢
  obtain⟨a,vs,rfl,h0,h1,h2⟩:=h
  exact⟨a,vs,rfl,e.free h0,h1,Rps.anti e ds h2⟩
 | .tup ds,_,v,h=>by
  unfold Rp at h ⊢
  obtain⟨a,vs,rfl,h1,h2⟩:=h
  exact⟨a,vs,rfl,h1,Rps.anti e ds h2⟩
 | .scr ns,_,v,h=>by
  unfold Rp at h ⊢
  obtain⟨a,rfl,h0,h1⟩:=h
  exact⟨a,rfl,e.free h0,h1⟩
theorem Rps.anti(e:Same B' B):∀(ds:List Dt) {H:Hp} {vs:List V},Rps K B ds H vs→Rps K B' ds H vs
 | [],_,vs,h=>by unfold Rps at h ⊢;exact h
 | d::ds,_,vs,h=>by
  unfold Rps at h ⊢
  obtain⟨v,r,rfl,h1,h2⟩:=h
  exact⟨v,r,rfl,Rp.anti e d h1,Rps.anti e ds h2⟩
end
theorem SqT.hid{A:List Addr}{a:Addr}{xs:List V}(hA:∀ b∈A,∀ o,H b=some o→∃ vs,o = .lst vs)(h:SqT K H a xs):SqT K (hidL A H) a xs:=by
 rcases h with(h|⟨o,h⟩)|h
 · refine .inl (.inl ?_)
   rw[z0l fun z=>by obtain⟨vs,e⟩:=hA a z _ h;cases e];exact h
 · refine .inl (.inr ⟨o,?_⟩)
   rw[z0l fun z=>by obtain⟨vs,e⟩:=hA a z _ h;cases e];exact h
 · exact .inr h
theorem SqL.hid{A:List Addr}{a:Addr}{xs:List V}(hA:a ∉ A)(h:SqL K H a xs):SqL K (hidL A H) a xs:=by
 rcases h with(h|⟨o,h⟩)|h
 · exact .inl (.inl (by rw[z0l hA];exact h))
 · exact .inl (.inr ⟨o,by rw[z0l hA];exact h⟩)
 · exact .inr h
mutual
theorem Rp.hid{A:List Addr}(hB:∀ b∈A,B b≠none):∀(d:Dt) {H:Hp} {v:V},(∀ b∈A,∀ o,H b=some o→∃ vs,o = .lst vs)→Rp K B d H v→Rp K B d (hidL A H) v
 | .non,_,v,_,h=>by unfold Rp at h ⊢;exact h
 | .bl b,_,v,_,h=>by unfold Rp at h ⊢;exact h
 | .int i,_,v,_,h=>by unfold Rp at h ⊢;exact h
 | .str x,_,v,_,h=>by unfold Rp at h ⊢;exact h
 | .dic,_,v,hA,h=>by unfold Rp at h ⊢;obtain⟨a,q,r⟩:=h;exact⟨a,q,by rw[z0l fun z=>by obtain⟨vs,e⟩:=hA a z _ r;cases e];exact r⟩
 | .lst ds,H,v,hA,h=>by
  unfold Rp at h ⊢
  obtain⟨a,vs,rfl,h0,h1,h2⟩:=h
  refine⟨a,vs,rfl,h0,by rw[z0l fun z=>hB a z h0];exact h1,?_⟩
  rw[z7L]
  exact Rps.hid hB ds (fun b hb o e=>hA b hb o (z3A e).2) h2
 | .tup ds,H,v,hA,h=>by
  unfold Rp at h ⊢
  obtain⟨a,vs,rfl,h1,h2⟩:=h
  exact⟨a,vs,rfl,h1.hid hA,Rps.hid hB ds hA h2⟩
 | .scr ns,H,v,hA,h=>by
  unfold Rp at h ⊢
  obtain⟨a,rfl,h0,h1⟩:=h
  exact⟨a,rfl,h0,h1.hid fun z=>hB a z h0⟩
theorem Rps.hid{A:List Addr}(hB:∀ b∈A,B b≠none):∀(ds:List Dt) {H:Hp} {vs:List V},(∀ b∈A,∀ o,H b=some o→∃ vs,o = .lst vs)→Rps K B ds H vs→Rps K B ds (hidL A H) vs
 | [],_,vs,_,h=>by unfold Rps at h ⊢;exact h
 | d::ds,_,vs,hA,h=>by
  unfold Rps at h ⊢
  obtain⟨v,r,rfl,h1,h2⟩:=h
  exact⟨v,r,rfl,Rp.hid hB d hA h1,Rps.hid hB ds hA h2⟩
end
end
mutual
def Dt.flat:Dt→Bool
 | .lst _=>false
 | .scr _=>false
 | .tup ds=>z0V ds
 | _=>true
def z0V:List Dt→Bool
 | []=>true
 | d::ds=>d.flat&&z0V ds
end
section
variable {K:PySem.W.Frag}{B B' H H':Hp}
mutual
theorem Rp.flat:∀(d:Dt) {H:Hp} {v:V},d.flat=true→Rp K B d H v→Rp K B' d H v
 | .non,_,v,_,h=>by unfold Rp at h ⊢;exact h
 | .bl b,_,v,_,h=>by unfold Rp at h ⊢;exact h
 | .int i,_,v,_,h=>by unfold Rp at h ⊢;exact h
 | .str x,_,v,_,h=>by unfold Rp at h ⊢;exact h
 | .dic,_,v,_,h=>by unfold Rp at h ⊢;exact h
 | .lst ds,_,v,f,h=>by unfold Dt.flat at f;cases f
 | .tup ds,_,v,f,h=>by
  unfold Dt.flat at f
  unfold Rp at h ⊢
  obtain⟨a,vs,rfl,h1,h2⟩:=h
  exact⟨a,vs,rfl,h1,Rps.flat ds f h2⟩
 | .scr ns,_,v,f,h=>by unfold Dt.flat at f;cases f
theorem Rps.flat:∀(ds:List Dt) {H:Hp} {vs:List V},z0V ds=true→Rps K B ds H vs→Rps K B' ds H vs
 | [],_,vs,_,h=>by unfold Rps at h ⊢;exact h
 | d::ds,_,vs,f,h=>by
  unfold z0V at f
  rw[Bool.and_eq_true]at f
  unfold Rps at h ⊢
  obtain⟨v,r,rfl,h1,h2⟩:=h
  exact⟨v,r,rfl,Rp.flat d f.1 h1,Rps.flat ds f.2 h2⟩
end
theorem Rps.length:∀{ds:List Dt} {vs:List V},Rps K B ds H vs→vs.length=ds.length
 | [],vs,h=>by rw[Rps.nil_.mp h];rfl
 | d::ds,vs,h=>by
  obtain⟨v,r,rfl,_,h2⟩:=Rps.cons_.mp h
  rw[List.length_cons,List.length_cons,Rps.length h2]
theorem Rps.get:∀{ds:List Dt} {vs:List V} {i:Nat} {d:Dt},Rps K B ds H vs→ds[i]?=some d→∃ v,vs[i]?=some v∧Rp K B d H v
 | [],vs,i,d,_,e=>by simp at e
 | c::ds,vs,0,d,h,e=>by
  obtain⟨v,r,rfl,h1,_⟩:=Rps.cons_.mp h
  simp at e;subst e
  exact⟨v,rfl,h1⟩
 | c::ds,vs,i+1,d,h,e=>by
  obtain⟨v,r,rfl,_,h2⟩:=Rps.cons_.mp h
  have e:ds[i]?=some d:=by simpa using e
  obtain⟨u,q1,q2⟩:=Rps.get h2 e
  exact⟨u,by simpa using q1,q2⟩
theorem Rps.append:∀{ds ds':List Dt} {vs vs':List V},Rps K B ds H vs→Rps K B ds' H vs'→Rps K B (ds++ds') H (vs++vs')
 | [],ds',vs,vs',h,h'=>by rw[Rps.nil_.mp h];exact h'
 | d::ds,ds',vs,vs',h,h'=>by
  obtain⟨v,r,rfl,h1,h2⟩:=Rps.cons_.mp h
  exact Rps.cons_.mpr ⟨v,r++vs',rfl,h1,Rps.append h2 h'⟩
theorem Rps.one{d:Dt}{v:V}(h:Rp K B d H v):Rps K B [d] H [v]:=Rps.cons_.mpr ⟨v,[],rfl,h,Rps.nil_.mpr rfl⟩
theorem Rps.take:∀{ds:List Dt} {vs:List V} (n:Nat),Rps K B ds H vs→Rps K B (ds.take n) H (vs.take n)
 | ds,vs,0,_=>by rw[List.take_zero,List.take_zero];exact Rps.nil_.mpr rfl
 | [],vs,n+1,h=>by rw[Rps.nil_.mp h];exact Rps.nil_.mpr rfl
 | d::ds,vs,n+1,h=>by
  obtain⟨v,r,rfl,h1,h2⟩:=Rps.cons_.mp h
  exact Rps.cons_.mpr ⟨v,r.take n,rfl,h1,Rps.take n h2⟩
theorem Rps.drop:∀{ds:List Dt} {vs:List V} (n:Nat),Rps K B ds H vs→Rps K B (ds.drop n) H (vs.drop n)
 | ds,vs,0,h=>h
 | [],vs,n+1,h=>by rw[Rps.nil_.mp h];exact Rps.nil_.mpr rfl
 | d::ds,vs,n+1,h=>by
  obtain⟨v,r,rfl,h1,h2⟩:=Rps.cons_.mp h
  exact Rps.drop n h2
theorem Rps.set:∀{ds:List Dt} {vs:List V} (i:Nat) {d:Dt} {v:V},Rps K B ds H vs→Rp K B d H v→Rps K B (ds.set i d) H (vs.set i v)
 | [],vs,i,d,v,h,_=>by rw[Rps.nil_.mp h];exact Rps.nil_.mpr rfl
 | c::ds,vs,0,d,v,h,q=>by
  obtain⟨u,r,rfl,h1,h2⟩:=Rps.cons_.mp h
  exact Rps.cons_.mpr ⟨v,r,rfl,q,h2⟩
 | c::ds,vs,i+1,d,v,h,q=>by
  obtain⟨u,r,rfl,h1,h2⟩:=Rps.cons_.mp h
  exact Rps.cons_.mpr ⟨u,r.set i v,rfl,h1,Rps.set i h2 q⟩
theorem Rps.reverse:∀{ds:List Dt} {vs:List V},Rps K B ds H vs→Rps K B ds.reverse H vs.reverse
 | [],vs,h=>by rw[Rps.nil_.mp h];exact Rps.nil_.mpr rfl
 | d::ds,vs,h=>by
  obtain⟨v,r,rfl,h1,h2⟩:=Rps.cons_.mp h
  rw[List.reverse_cons,List.reverse_cons]
  exact Rps.append (Rps.reverse h2) (Rps.one h1)
theorem zbm{p:Addr}{o:HO}(h:H p=none):hidL [p] (upd H p o)=H:=funext fun b=>by
 by_cases q:b=p
 · subst q;rw[z2f (by simp),h]
 · rw[z0l (by simpa using q),z0q q]
theorem z0W{p:Addr}{o:HO}(h:H p=none):Same H (upd H p o):=fun b u e=>by rw[z0q (z21 e h)];exact e
theorem Rp.new{ds:List Dt}{vs:List V}{p:Addr}(hp:H p=none)(hB:B p=none)(r:Rps K B ds H vs):Rp K B (.lst ds) (upd H p (.lst vs)) (.ref p) :=
 Rp.lst_.mpr ⟨p,vs,rfl,hB,z0H,by rw[zbm hp];exact r⟩
end
inductive Fl where
 | sh|tn|fr|nw
def Fl.isNw:Fl→Bool
 | .nw=>true
 | _=>false
def Fl.isFr:Fl→Bool
 | .nw=>true
 | .fr=>true
 | _=>false
abbrev Dv:=Fl×Dt
def nrm(f:Fl)(d:Dt):Dv:=(if d.flat then .nw else f,d)
structure Ky where
 K:PySem.W.Frag
 H₀:Hp
abbrev Cx.ky(X:Cx):Ky:=⟨X.K,X.H₀⟩
def RpF(X:Ky)(H:Hp)(f:Fl)(d:Dt)(H':Hp)(v:V):Prop:=match f with
 | .sh=>Rp X.K emp d H' v
 | .tn=>Rp X.K emp d H' v∧(∃ ds,d = .lst ds)∧∀ a,v = .ref a→H a=none
 | .fr=>Rp X.K X.H₀ d H' v
 | .nw=>Rp X.K H d H' v
section
variable {X:Ky}{H H' H1:Hp}{f:Fl}{d:Dt}{v:V}
theorem RpF.sh(h:RpF X H f d H' v):Rp X.K emp d H' v:=by
 cases f with
 | sh=>exact h
 | tn=>exact h.1
 | fr=>exact Rp.anti Same.emp d h
 | nw=>exact Rp.anti Same.emp d h
theorem RpF.fr(h0:Same X.H₀ H)(e:f.isFr=true)(h:RpF X H f d H' v):Rp X.K X.H₀ d H' v:=by
 cases f with
 | sh=>cases e
 | tn=>cases e
 | fr=>exact h
 | nw=>exact Rp.anti h0 d h
theorem RpF.mono(h:RpF X H f d H' v)(s:Same H' H1):RpF X H f d H1 v:=by
 cases f with
 | sh=>exact Rp.mono d s h
 | tn=>exact⟨Rp.mono d s h.1,h.2⟩
 | fr=>exact Rp.mono d s h
 | nw=>exact Rp.mono d s h
theorem RpF.early(s:Same H H1)(h:RpF X H1 f d H' v):RpF X H f d H' v:=by
 cases f with
 | sh=>exact h
 | tn=>exact⟨h.1,h.2.1,fun a e=>s.free (h.2.2 a e)⟩
 | fr=>exact h
 | nw=>exact Rp.anti s d h
theorem RpF.nrm(h:RpF X H f d H' v):RpF X H (nrm f d).1 d H' v:=by
 unfold L2.nrm
 by_cases q:d.flat=true
 · rw[if_pos q];exact Rp.flat d q h.sh
 · rw[if_neg q];exact h
theorem RpF.scal(q:d.flat=true)(h:Rp X.K emp d H' v):RpF X H .nw d H' v:=Rp.flat d q h
end
inductive Cell where
 | no|sh (f:Bool) (d:Dt)|ow (f:Bool) (ds:List Dt)|ex
abbrev Rho:=List Cell
def flOf(f:Bool):Fl:=if f then .fr else .sh
def Cell.val:Cell→Option Dv
 | .no=>none
 | .ex=>none
 | .sh f d=>some (nrm (flOf f) d)
 | .ow f ds=>some (flOf f,.lst ds)
def zbn(ρ:Rho)(i:Nat):Option Dv:=(ρ[i]?).bind Cell.val
def bsOf(X:Ky)(f:Bool):Hp:=if f then X.H₀ else emp
def ExcAt(K:PySem.W.Frag)(a:Addr)(h:Heap):Prop:=∃ oe C,h.get? a=some oe∧oe.cls = .ref C∧PySem.W.kitCls K (.ref C) (.type "ValueError")=some true
def RpC(X:Ky)(H:Hp):Cell→Option V→Prop
 | .no,_=>True
 | .ex,o=>∃ a φ,o=some (.ref a)∧H a=some (.ext φ)∧∀ h,φ h→ExcAt X.K a h
 | .sh f d,o=>∃ v,o=some v∧Rp X.K (bsOf X f) d H v
 | .ow f ds,o=>∃ v,o=some v∧Rp X.K (bsOf X f) (.lst ds) H v
structure RepS(X:Ky)(H:Hp)(ρ:Rho)(σ:St):Prop where
 len:ρ.length=σ.length
 base:Same X.H₀ H
 at_:∀(i:Nat) (c:Cell),ρ[i]?=some c→∃ o,σ[i]?=some o∧RpC X H c o
section
variable {X:Ky}{H H':Hp}{ρ:Rho}{σ:St}
theorem RpC.mono(e:Same H H'){c:Cell}{o:Option V}(h:RpC X H c o):RpC X H' c o:=by
 cases c with
 | no=>trivial
 | ex=>obtain⟨a,φ,q,r,z⟩:=h;exact⟨a,φ,q,e _ _ r,z⟩
 | sh f d=>obtain⟨v,q,r⟩:=h;exact⟨v,q,Rp.mono d e r⟩
 | ow f ds=>obtain⟨v,q,r⟩:=h;exact⟨v,q,Rp.mono _ e r⟩
theorem RepS.mono(h:RepS X H ρ σ)(e:Same H H'):RepS X H' ρ σ:=⟨h.len,h.base.trans e,fun i c q=>by obtain⟨o,q1,q2⟩:=h.at_ i c q;exact⟨o,q1,q2.mono e⟩⟩
theorem zhX{f:Bool}{d:Dt}{v:V}(h:Rp X.K (bsOf X f) d H v):RpF X H (flOf f) d H v:=by
 cases f with
 | false=>exact h
 | true=>exact h
theorem RepS.val(h:RepS X H ρ σ){i:Nat}{f:Fl}{d:Dt}(e:zbn ρ i=some (f,d)):∃ v,σ[i]?=some (some v)∧RpF X H f d H v:=by
 unfold zbn at e
 cases q:ρ[i]? with
 | none=>rw[q]at e;cases e
 | some c =>
  rw[q]at e
  obtain⟨o,q1,q2⟩:=h.at_ i c q
  cases c with
  | no=>cases e
  | ex=>cases e
  | sh f' d' =>
   obtain⟨v,rfl,r⟩:=q2
   have e:nrm (flOf f') d'=(f,d):=Option.some.inj e
   have r':=(zhX r).nrm
   refine⟨v,q1,?_⟩
   have e1:d'=d:=congrArg Prod.snd e
   subst e1
   rw[e]at r'
   exact r'
  | ow f' ds =>
   obtain⟨v,rfl,r⟩:=q2
   cases e
   exact⟨v,q1,zhX r⟩
end
end L2

end
section
set_option Elab.async false
set_option linter.all false
set_option maxRecDepth 100000
namespace L2
open PySem PySem.Spec PyProof.Rows
theorem PE.imp{X:Cx}{e:Expr}{t t':TE}(h:PE X e t)(q:∀ σ H Q,t' σ H Q→t σ H Q):PE X e t':=fun pins s σ H Q I z=>h pins s σ H Q I (q σ H Q z)
theorem PT.imp{X:Cx}{e:Expr}{t t':TT}(h:PT X e t)(q:∀ σ H Q,t' σ H Q→t σ H Q):PT X e t':=fun pins s σ H Q I z=>h pins s σ H Q I (q σ H Q z)
theorem PW.imp{X:Cx}{e:Expr}{t t':TT}(h:PW X e t)(q:∀ σ H Q,t' σ H Q→t σ H Q):PW X e t':=fun whole pins s σ H Q I z=>h whole pins s σ H Q I (q σ H Q z)
theorem PA.imp{X:Cx}{es:List Expr}{t t':TA}(h:PA X es t)(q:∀ σ H Q,t' σ H Q→t σ H Q):PA X es t':=fun pos pins s σ H Q I z=>h pos pins s σ H Q I (q σ H Q z)
theorem z04{α β:Type}{o:Option α}{f:α→Option β}{b:β}(h:o.bind f=some b):∃ a,o=some a∧f a=some b:=by
 cases o with
 | none=>cases h
 | some a=>exact⟨a,rfl,h⟩
section
variable {X:Ky}{H H':Hp}
theorem RpF.i_{i:Int}:RpF X H .nw (.int i) H' (.int i):=(Rp.int_ (K:=X.K) (B:=H) (H:=H')).mpr rfl
theorem RpF.b_{i:Bool}:RpF X H .nw (.bl i) H' (.bl i):=(Rp.bl_ (K:=X.K) (B:=H) (H:=H')).mpr rfl
theorem RpF.n_:RpF X H .nw .non H' .non:=(Rp.non_ (K:=X.K) (B:=H) (H:=H')).mpr rfl
end
abbrev FE:=Rho→Option Dv
abbrev FT:=Rho→Option Bool
abbrev FA:=Rho→Option (List Dv)
def upK(Y:Ky)(F:FE):TE:=fun σ H Q=>∃ ρ f d,RepS Y H ρ σ∧F ρ=some (f,d)∧∀ v H',Same H H'→RpF Y H f d H' v→Q v H'
abbrev upF(X:Cx)(F:FE):TE:=upK X.ky F
def PF(X:Cx)(e:Expr)(F:FE):Prop:=PE X e (upF X F)
def upBK(Y:Ky)(F:FT):TT:=fun σ H Q=>∃ ρ b,RepS Y H ρ σ∧F ρ=some b∧∀ H',Same H H'→Q b H'
abbrev upB(X:Cx)(F:FT):TT:=upBK X.ky F
def PFT(X:Cx)(e:Expr)(F:FT):Prop:=PT X e (upB X F)
def PFW(X:Cx)(e:Expr)(F:FT):Prop:=PW X e (upB X F)
theorem PFW.pt{X:Cx}{e:Expr}{F:FT}(h:PFW X e F):PFT X e F:=PW.pt h
section
variable {X:Cx}{a b c e:Expr}{Fa Fb Fc:FE}{pos:Pos}
def fN(i:Nat):FE:=fun ρ=>zbn ρ i
theorem z01(i:Nat){x:Str}{pos:Pos}(hN:X.N[i]?=some x:=by rfl)(hv:Vis X.env.scope x:=by first|exact Or.inl rfl|exact Or.inr (Or.inl rfl)|exact Or.inr (Or.inr rfl))(hd:(x==("__debug__" : Str))=false:=by decide)
  (hcd:(x==("__classdict__" : Str))=false:=by decide):PF X (.Name x pos) (fN i) :=
 (z56 hN hv hd hcd).imp fun σ H Q ⟨ρ,f,d,rs,e,k⟩=>by
  obtain⟨v,e1,e2⟩:=rs.val e
  exact⟨v,e1,k v H (Same.refl H) e2⟩
def fC(d:Dt):FE:=fun _=>some (.nw,d)
theorem z0b{i:Int}{j:Nat}:PF X (.Constant (.int i) j pos) (fC (.int i)):=pe_int.imp (by rintro σ H Q ⟨ρ,f,d,rs,e,k⟩;cases e;exact k _ H (Same.refl H) RpF.i_)
theorem p_bl{v:Bool}{j:Nat}:PF X (.Constant (.bool v) j pos) (fC (.bl v)):=pe_bl.imp (by rintro σ H Q ⟨ρ,f,d,rs,e,k⟩;cases e;exact k _ H (Same.refl H) RpF.b_)
theorem z9h{j:Nat}:PF X (.Constant .none j pos) (fC .non):=pe_non.imp (by rintro σ H Q ⟨ρ,f,d,rs,e,k⟩;cases e;exact k _ H (Same.refl H) RpF.n_)
theorem zhY{x:Str}{i:Int}{t:Tok}(hg:Gl X x)(hm:X.mg x=some (.int i t))(hd:(x==("__debug__" : Str))=false:=by decide):PF X (.Name x pos) (fC (.int i)) :=
 (zfT (v:=V.int i) hg hm ⟨t,rfl⟩ hd).imp (by rintro σ H Q ⟨ρ,f,d,rs,e,k⟩;cases e;exact k _ H (Same.refl H) RpF.i_)
abbrev FO:=Dt→Dt→Option Dv
def OpF(X:Cx)(f:Value→Value→Sem Value)(r:FO):Prop :=
 OpR X f (fun x y H Q=>∃ dx dy f d,Rp X.K emp dx H x∧Rp X.K emp dy H y∧r dx dy=some (f,d)∧∀ v H',Same H H'→RpF X.ky H f d H' v→Q v H')
def fOp(r:FO)(Fa Fb:FE):FE:=fun ρ=>(Fa ρ).bind fun x=>(Fb ρ).bind fun y=>r x.2 y.2
theorem zcP{r:FO}{σ:St}{H:Hp}{Q:VK}(h:upF X (fOp r Fa Fb) σ H Q):
  upF X Fa σ H fun x H1=>upF X Fb σ H1 fun y H2=>∃ dx dy f d,Rp X.K emp dx H2 x∧Rp X.K emp dy H2 y∧r dx dy=some (f,d)∧∀ v H',Same H2 H'→RpF X.ky H2 f d H' v→Q v H':=by
 obtain⟨ρ,f,d,rs,e,k⟩:=h
 obtain⟨⟨fa,da⟩,ea,e⟩:=z04 e
 obtain⟨⟨fb,db⟩,eb,e⟩:=z04 e
 exact⟨ρ,fa,da,rs,ea,fun v H1 s1 r1=>⟨ρ,fb,db,rs.mono s1,eb,fun u H2 s2 r2=>⟨da,db,f,d,Rp.mono _ s2 r1.sh,r2.sh,e,fun w H' s' r'=>k w H' (s1.trans (s2.trans s')) (r'.early (s1.trans s2))⟩⟩⟩
theorem p_op{op:Operator}{r:FO}(ho:OpF X (binaryOp op) r)(ha:PF X a Fa)(hb:PF X b Fb):PF X (.BinOp a op b pos) (fOp r Fa Fb):=(pe_op ho ha hb).imp fun σ H Q h=>zcP h
theorem z9i{op:CmpOp}{r:FO}(ho:OpF X (compareOp op) r)(ha:PF X a Fa)(hb:PF X b Fb)(hm:behindInMarks op b=false):PF X (.Compare a [op] [b] pos) (fOp r Fa Fb):=(zlr ho ha hb hm).imp fun σ H Q h=>zcP h
def rII(C:Int→Int→Bool)(g:Int→Int→Dt):FO
 | .int i,.int j=>if C i j then some (.nw,g i j) else none
 | _,_=>none
theorem zax{f:Value→Value→Sem Value}{P:Int→Int→Prop}{C:Int→Int→Bool}{g:Int→Int→V}{g':Int→Int→Dt}(ho:OpR X f (rI P g))(hP:∀ i j,C i j=true→P i j)(hf:∀ i j,(g' i j).flat=true)(hg:∀ i j H,Rp X.K emp (g' i j) H (g i j)):OpF X f (rII C g') :=
 fun pins s σ H x y v u Q I r1 r2 ⟨d1,d2,f,d,q1,q2,e,k⟩=>by
  unfold rII at e
  split at e
  · rename_i i j
    split at e
    · rename_i hc
      cases e
      rw[Rp.int_]at q1 q2
      exact ho pins s σ H x y v u Q I r1 r2 ⟨i,j,q1,q2,hP i j hc,k _ H (Same.refl H) (RpF.scal (hf i j) (hg i j H))⟩
    · cases e
  · cases e
theorem z4G{f:Value→Value→Sem Value}{g:Int→Int→V}{g':Int→Int→Dt}(ho:OpR X f (rI0 g))(hf:∀ i j,(g' i j).flat=true)(hg:∀ i j H,Rp X.K emp (g' i j) H (g i j)):OpF X f (rII (fun _ _=>true) g') :=
 fun pins s σ H x y v u Q I r1 r2 ⟨d1,d2,f,d,q1,q2,e,k⟩=>by
  unfold rII at e
  split at e
  · rename_i i j
    rw[if_pos rfl]at e
    cases e
    rw[Rp.int_]at q1 q2
    exact ho pins s σ H x y v u Q I r1 r2 ⟨i,j,q1,q2,k _ H (Same.refl H) (RpF.scal (hf i j) (hg i j H))⟩
  · cases e
def OpF.or{f:Value→Value→Sem Value}{r r':FO}(h:OpF X f r)(h':OpF X f r'):OpF X f (fun x y=>(r x y).orElse fun _=>r' x y) :=
 fun pins s σ H x y v u Q I r1 r2 hZ=>hZ.elim fun d1 hZ=>hZ.elim fun d2 hZ=>hZ.elim fun f hZ=>hZ.elim fun d hZ=>hZ.elim fun q1 hZ=>hZ.elim fun q2 hZ=>hZ.elim fun e k=>by
  replace e:((r d1 d2).orElse fun _=>r' d1 d2)=some (f,d):=e
  cases q:r d1 d2 with
  | some z =>
   rw[q]at e
   cases e
   exact h pins s σ H x y v u Q I r1 r2 ⟨d1,d2,_,_,q1,q2,q,k⟩
  | none =>
   rw[q]at e
   exact h' pins s σ H x y v u Q I r1 r2 ⟨d1,d2,_,_,q1,q2,e,k⟩
def z12(i j:Int):Bool:=decide (Builtin.Int.intBits i+Builtin.Int.intBits j≤134217728)||(decide (i.natAbs<2 ^ 64)||decide (j.natAbs<2 ^ 64))
def z1J(_ j:Int):Bool:=decide (j≠0)&&decide (j.natAbs.log2<9000)
def z6P(_ j:Int):Bool:=decide (j≠0)
def z7M(i j:Int):Bool:=decide (0≤j)&&decide (j≤1000000)&&decide (i.natAbs<2 ^ 64)
theorem zlG:OpR X (binaryOp .Mult) (rI (fun i j=>z12 i j=true) fun i j => .int (i*j)):=opI fun i j _ _ _ _ _ hc q=>by
 refine mul_int q ?_
 unfold z12 at hc
 rw[Bool.or_eq_true,Bool.or_eq_true]at hc
 rcases hc with hc|hc|hc
 · exact IntMulOk.of_le (Nat.le_refl _) (Nat.le_refl _) (of_decide_eq_true hc)
 · have:=of_decide_eq_true hc
   exact CMul.ok (.inl ⟨by omega,by omega⟩)
 · have:=of_decide_eq_true hc
   exact CMul.ok (.inr ⟨by omega,by omega⟩)
def zhZ:FO:=rII (fun _ _=>true) fun i j => .int (i+j)
def z3i:FO:=rII (fun _ _=>true) fun i j => .int (i-j)
def z19:FO:=rII z12 fun i j => .int (i*j)
def z2N:FO:=rII z1J fun i j => .int (i.fdiv j)
def z30:FO:=rII z6P fun i j => .int (i.fmod j)
def z9j:FO:=rII z7M fun i j => .int (i ^ j.toNat)
def opLt:FO:=rII (fun _ _=>true) fun i j => .bl (decide (i<j))
def opLe:FO:=rII (fun _ _=>true) fun i j => .bl (decide (i≤j))
def opGt:FO:=rII (fun _ _=>true) fun i j => .bl (decide (j<i))
def opGe:FO:=rII (fun _ _=>true) fun i j => .bl (decide (j≤i))
theorem o_addI:OpF X (binaryOp .Add) zhZ:=z4G op_add (fun _ _=>rfl) fun _ _ _=>Rp.int_.mpr rfl
theorem zbo:OpF X (binaryOp .Sub) z3i:=z4G op_sub (fun _ _=>rfl) fun _ _ _=>Rp.int_.mpr rfl
theorem z53:OpF X (binaryOp .Mult) z19:=zax zlG (fun _ _ h=>h) (fun _ _=>rfl) fun _ _ _=>Rp.int_.mpr rfl
theorem z3B:OpF X (binaryOp .FloorDiv) z2N:=zax zhV (fun i j h=>by unfold z1J at h;rw[Bool.and_eq_true]at h;exact⟨of_decide_eq_true h.1,of_decide_eq_true h.2⟩) (fun _ _=>rfl) fun _ _ _=>Rp.int_.mpr rfl
theorem z3X:OpF X (binaryOp .Mod) z30:=zax zlp (fun i j h=>of_decide_eq_true h) (fun _ _=>rfl) fun _ _ _=>Rp.int_.mpr rfl
theorem zi:OpF X (binaryOp .Pow) z9j:=zax op_pow (fun i j h=>by unfold z7M at h;rw[Bool.and_eq_true,Bool.and_eq_true]at h;exact⟨of_decide_eq_true h.1.1,of_decide_eq_true h.1.2,of_decide_eq_true h.2⟩) (fun _ _=>rfl) fun _ _ _=>Rp.int_.mpr rfl
theorem o_lt:OpF X (compareOp .Lt) opLt:=z4G op_lt (fun _ _=>rfl) fun _ _ _=>Rp.bl_.mpr rfl
theorem o_le:OpF X (compareOp .LtE) opLe:=z4G op_le (fun _ _=>rfl) fun _ _ _=>Rp.bl_.mpr rfl
theorem o_gt:OpF X (compareOp .Gt) opGt:=z4G op_gt (fun _ _=>rfl) fun _ _ _=>Rp.bl_.mpr rfl
theorem o_ge:OpF X (compareOp .GtE) opGe:=z4G op_ge (fun _ _=>rfl) fun _ _ _=>Rp.bl_.mpr rfl
def lfl(ds:List Dt):Fl:=if z0V ds then .nw else .tn
def newL(ds:List Dt):Dv:=(lfl ds,.lst ds)
theorem z5A{X:Ky}{H:Hp}{ds:List Dt}{vs:List V}{p:Addr}(hp:H p=none)(r:Rps X.K emp ds H vs):RpF X H (lfl ds) (.lst ds) (upd H p (.lst vs)) (.ref p):=by
 unfold lfl
 by_cases q:z0V ds=true
 · rw[if_pos q];exact Rp.new hp hp (Rps.flat ds q r)
 · rw[if_neg q];exact⟨Rp.new hp rfl r,⟨ds,rfl⟩,fun a e=>by cases e;exact hp⟩
def z5B:FO
 | .lst xs,.lst ys=>if xs.length+ys.length≤1000000 then some (newL (xs++ys)) else none
 | _,_=>none
theorem Rp.items{K:PySem.W.Frag}{B H:Hp}{ds:List Dt}{v:V}(h:Rp K B (.lst ds) H v):∃ a vs,v = .ref a∧B a=none∧H a=some (.lst vs)∧Rps K B ds H vs:=by
 obtain⟨a,vs,e,h0,h1,h2⟩:=Rp.lst_.mp h
 exact⟨a,vs,e,h0,h1,Rps.mono _ z0y h2⟩
theorem o_cat:OpF X (binaryOp .Add) z5B:=by
 rintro pins s σ H x y v u Q I r1 r2 ⟨d1,d2,f,d,q1,q2,e,k⟩
 unfold z5B at e
 split at e
 · rename_i xs ys
   split at e
   · rename_i hc
     cases e
     obtain⟨a,vs,rfl,_,ha,ra⟩:=q1.items
     obtain⟨b,ws,rfl,_,hb,rb⟩:=q2.items
     exact op_cat pins s σ H _ _ v u Q I r1 r2 ⟨a,b,vs,ws,rfl,rfl,ha,hb,Nat.le_trans (by rw[ra.length,rb.length];exact hc) (by decide),fun p hp=>k _ _ (z0W hp) (z5A hp (ra.append rb))⟩
   · cases e
 · cases e
def z0z:FO:=fun x y=>(zhZ x y).orElse fun _=>z5B x y
theorem z31:OpF X (binaryOp .Add) z0z:=o_addI.or o_cat
def truD:Dt→Option Bool
 | .non=>some false
 | .bl b=>some b
 | .int i=>some (i != 0)
 | .lst ds=>some (!ds.isEmpty)
 | .tup ds=>some (!ds.isEmpty)
 | _=>none
theorem Rps.isEmpty{K:PySem.W.Frag}{B H:Hp}{ds:List Dt}{vs:List V}(h:Rps K B ds H vs):(!vs.isEmpty)=!ds.isEmpty:=by
 have:=h.length
 cases ds<;>cases vs<;>first|rfl|(simp at this)
theorem zlH{H:Hp}{d:Dt}{v:V}{k:Bool}(r:Rp X.K emp d H v)(e:truD d=some k):TruV X.K v H k:=by
 cases d with
 | non=>rw[Rp.non_.mp r];cases e;rfl
 | bl b=>rw[Rp.bl_.mp r];cases e;rfl
 | int i=>rw[Rp.int_.mp r];cases e;rfl
 | str x=>cases e
 | dic=>cases e
 | scr x=>cases e
 | lst ds =>
  obtain⟨p,vs,rfl,_,h1,h2⟩:=r.items
  cases e
  exact .inl ⟨vs,SqL.of h1,h2.isEmpty.symm⟩
 | tup ds =>
  obtain⟨p,vs,rfl,h1,h2⟩:=Rp.tup_.mp r
  cases e
  exact .inr (.inl ⟨vs,h1,h2.isEmpty.symm⟩)
def blD:Dt→Option Bool
 | .bl b=>some b
 | _=>none
def z0j(F:FE):FT:=fun ρ=>(F ρ).bind fun x=>blD x.2
def fTru(F:FE):FT:=fun ρ=>(F ρ).bind fun x=>truD x.2
theorem z0I{op:CmpOp}{r:FO}(ho:OpF X (compareOp op) r)(ha:PF X a Fa)(hb:PF X b Fb)(hm:behindInMarks op b=false):PFT X (.Compare a [op] [b] pos) (z0j (fOp r Fa Fb)) :=
 (zls ho ha hb hm).imp fun σ H Q hZ=>hZ.elim fun ρ hZ=>hZ.elim fun k hZ=>hZ.elim fun rs hZ=>hZ.elim fun e q=>by
  obtain⟨⟨f,d⟩,e1,e2⟩:=z04 e
  refine zcP ⟨ρ,f,d,rs,e1,fun v H' s r=>?_⟩
  cases d<;>first|cases e2|skip
  exact⟨k,Rp.bl_.mp r.sh,q H' s⟩
theorem z9k(ha:PF X a Fa)(he:∀ whole,isTrue a X.env whole=(do let v ←whole;standAt a.pos;holding [v] (truthy v))):PFT X a (fTru Fa) :=
 (zhK ha he).imp fun σ H Q hZ=>hZ.elim fun ρ hZ=>hZ.elim fun k hZ=>hZ.elim fun rs hZ=>hZ.elim fun e q=>by
  obtain⟨⟨f,d⟩,e1,e2⟩:=z04 e
  exact⟨ρ,f,d,rs,e1,fun v H' s r=>⟨k,zlH r.sh e2,q H' s⟩⟩
def fNot(F:FT):FT:=fun ρ=>(F ρ).map not
theorem z9l{F:FT}(ha:PFT X a F):PFT X (.UnaryOp .Not a pos) (fNot F):=(pt_not ha).imp fun σ H Q hZ=>hZ.elim fun ρ hZ=>hZ.elim fun k hZ=>hZ.elim fun rs hZ=>hZ.elim fun e q=>by
 unfold fNot at e
 cases h:F ρ with
 | none=>rw[h]at e;cases e
 | some b=>rw[h]at e;cases e;exact⟨ρ,b,rs,h,q⟩
def fAnd(F G:FT):FT:=fun ρ=>(F ρ).bind fun b=>if b then G ρ else some false
def fOr(F G:FT):FT:=fun ρ=>(F ρ).bind fun b=>if b then some true else G ρ
theorem zcQ{F:FT}(ha:PFT X a F):PFW X (.BoolOp .And [a] pos) F:=zll ha
theorem zbp{F:FT}(ha:PFT X a F):PFW X (.BoolOp .Or [a] pos) F:=pw_or1 ha
theorem zi0{rest:List Expr}{F G:FT}(ha:PFT X a F)(hb:PFW X (.BoolOp .And (b::rest) pos) G):PFW X (.BoolOp .And (a::b::rest) pos) (fAnd F G) :=
 (pw_and ha hb).imp fun σ H Q hZ=>hZ.elim fun ρ hZ=>hZ.elim fun k hZ=>hZ.elim fun rs hZ=>hZ.elim fun e q=>by
  obtain⟨z,e1,e2⟩:=z04 e
  refine⟨ρ,z,rs,e1,fun H' s=>?_⟩
  dsimp only
  cases z with
  | true=>rw[if_pos rfl]at e2 ⊢;exact⟨ρ,k,rs.mono s,e2,fun H'' s'=>q H'' (s.trans s')⟩
  | false=>rw[if_neg Bool.false_ne_true]at e2 ⊢;cases e2;exact q H' s
theorem w_or{rest:List Expr}{F G:FT}(ha:PFT X a F)(hb:PFW X (.BoolOp .Or (b::rest) pos) G):PFW X (.BoolOp .Or (a::b::rest) pos) (fOr F G) :=
 (pw_or ha hb).imp fun σ H Q hZ=>hZ.elim fun ρ hZ=>hZ.elim fun k hZ=>hZ.elim fun rs hZ=>hZ.elim fun e q=>by
  obtain⟨z,e1,e2⟩:=z04 e
  refine⟨ρ,z,rs,e1,fun H' s=>?_⟩
  dsimp only
  cases z with
  | true=>rw[if_pos rfl]at e2 ⊢;cases e2;exact q H' s
  | false=>rw[if_neg Bool.false_ne_true]at e2 ⊢;exact⟨ρ,k,rs.mono s,e2,fun H'' s'=>q H'' (s.trans s')⟩
def vAnd(F G:FE):FE:=fun ρ=>(z0j F ρ).bind fun b=>if b then G ρ else some (.nw,.bl false)
def vOr(F G:FE):FE:=fun ρ=>(z0j F ρ).bind fun b=>if b then some (.nw,.bl true) else G ρ
def vNot(F:FE):FE:=fun ρ=>(z0j F ρ).map fun b=>(.nw,.bl (!b))
theorem zbq{op}(h:PF X a Fa):PF X (.BoolOp op [a] pos) Fa:=pe_one h
theorem z9m{rest:List Expr}(ha:PF X a Fa)(hb:PF X (.BoolOp .And (b::rest) pos) Fb):PF X (.BoolOp .And (a::b::rest) pos) (vAnd Fa Fb) :=
 (pe_and ha hb).imp fun σ H Q hZ=>hZ.elim fun ρ hZ=>hZ.elim fun f hZ=>hZ.elim fun d hZ=>hZ.elim fun rs hZ=>hZ.elim fun e k=>by
  obtain⟨z,e1,e2⟩:=z04 e
  obtain⟨⟨f1,d1⟩,e3,e4⟩:=z04 e1
  refine⟨ρ,f1,d1,rs,e3,fun v H' s r=>?_⟩
  cases d1<;>first|cases e4|skip
  refine⟨z,Rp.bl_.mp r.sh,?_⟩
  cases z with
  | true=>rw[if_pos rfl]at e2 ⊢;exact⟨ρ,f,d,rs.mono s,e2,fun v H'' s' r=>k v H'' (s.trans s') (r.early s)⟩
  | false=>rw[if_neg Bool.false_ne_true]at e2 ⊢;cases e2;exact k _ H' s RpF.b_
theorem p_not(ha:PF X a Fa):PF X (.UnaryOp .Not a pos) (vNot Fa):=(pe_not ha).imp fun σ H Q hZ=>hZ.elim fun ρ hZ=>hZ.elim fun f hZ=>hZ.elim fun d hZ=>hZ.elim fun rs hZ=>hZ.elim fun e k=>by
 unfold vNot at e
 cases h:z0j Fa ρ with
 | none=>rw[h]at e;cases e
 | some z =>
  rw[h]at e
  cases e
  obtain⟨⟨f1,d1⟩,e3,e4⟩:=z04 h
  refine⟨ρ,f1,d1,rs,e3,fun v H' s r=>?_⟩
  cases d1<;>first|cases e4|skip
  exact⟨z,Rp.bl_.mp r.sh,k _ H' s RpF.b_⟩
def fIf(F:FT)(Fa Fb:FE):FE:=fun ρ=>(F ρ).bind fun b=>if b then Fa ρ else Fb ρ
theorem p_if{F:FT}(hc:PFT X c F)(ha:PF X a Fa)(hb:PF X b Fb):PF X (.IfExp c a b pos) (fIf F Fa Fb) :=
 (zhA hc ha hb).imp fun σ H Q hZ=>hZ.elim fun ρ hZ=>hZ.elim fun f hZ=>hZ.elim fun d hZ=>hZ.elim fun rs hZ=>hZ.elim fun e k=>by
  obtain⟨z,e1,e2⟩:=z04 e
  refine⟨ρ,z,rs,e1,fun H' s=>?_⟩
  dsimp only
  cases z with
  | true=>rw[if_pos rfl]at e2 ⊢;exact⟨ρ,f,d,rs.mono s,e2,fun v H'' s' r=>k v H'' (s.trans s') (r.early s)⟩
  | false=>rw[if_neg Bool.false_ne_true]at e2 ⊢;exact⟨ρ,f,d,rs.mono s,e2,fun v H'' s' r=>k v H'' (s.trans s') (r.early s)⟩
def fNeg(F:FE):FE:=fun ρ=>(F ρ).bind fun x=>match x.2 with|.int i=>some (.nw,.int (-i))|_=>none
theorem zi1(ha:PF X a Fa):PF X (.UnaryOp .USub a pos) (fNeg Fa):=(pe_un un_neg ha).imp fun σ H Q ⟨ρ,f,d,rs,e,k⟩=>by
 obtain⟨⟨f1,d1⟩,e1,e2⟩:=z04 e
 refine⟨ρ,f1,d1,rs,e1,fun v H' s r=>?_⟩
 cases d1<;>first|cases e2|skip
 rename_i i
 exact⟨i,Rp.int_.mp r.sh,k _ H' s RpF.i_⟩
def z7N(r r':FO)(Fa Fb Fc:FE):FE:=fun ρ=>(Fa ρ).bind fun x=>(Fb ρ).bind fun y=>(r x.2 y.2).bind fun z=>(blD z.2).bind fun k=>if k then(Fc ρ).bind fun w=>r' y.2 w.2 else some (.nw,.bl false)
theorem zgN{r r':FO}{σ:St}{H:Hp}{Q:VK}(h:upF X (z7N r r' Fa Fb Fc) σ H Q):
  zhI (fun x y H Q=>∃ dx dy f d,Rp X.K emp dx H x∧Rp X.K emp dy H y∧r dx dy=some (f,d)∧∀ v H',Same H H'→RpF X.ky H f d H' v→Q v H') (fun x y H Q=>∃ dx dy f d,Rp X.K emp dx H x∧Rp X.K emp dy H y∧r' dx dy=some (f,d)∧∀ v H',Same H H'→RpF X.ky H f d H' v→Q v H')
   (upF X Fa) (upF X Fb) (upF X Fc) σ H Q:=by
 obtain⟨ρ,f,d,rs,e0,k⟩:=h
 obtain⟨⟨fa,da⟩,ea,e1⟩:=z04 e0
 obtain⟨⟨fb,db⟩,eb,e2⟩:=z04 e1
 obtain⟨⟨fz,dz⟩,ez,e3⟩:=z04 e2
 obtain⟨z,ek,e⟩:=z04 e3
 clear e3 e2 e1 e0
 refine⟨ρ,fa,da,rs,ea,fun v H1 s1 r1=>⟨ρ,fb,db,rs.mono s1,eb,fun u H2 s2 r2=>⟨da,db,fz,dz,Rp.mono _ s2 r1.sh,r2.sh,ez,fun w H3 s3 r3=>?_⟩⟩⟩
 cases dz<;>first|cases ek|skip
 refine⟨z,Rp.bl_.mp r3.sh,?_⟩
 cases z with
 | true =>
  rw[if_pos rfl]at e ⊢
  obtain⟨⟨fc,dc⟩,ec,e⟩:=z04 e
  exact⟨ρ,fc,dc,rs.mono (s1.trans (s2.trans s3)),ec,fun w' H4 s4 r4=>⟨db,dc,f,d,Rp.mono _ (s3.trans s4) r2.sh,r4.sh,e,fun y H' s' r'=>k y H' (s1.trans (s2.trans (s3.trans (s4.trans s')))) (r'.early (s1.trans (s2.trans (s3.trans s4))))⟩⟩
 | false =>
  rw[if_neg Bool.false_ne_true]at e ⊢
  cases e
  exact k _ _ (s1.trans (s2.trans s3)) RpF.b_
theorem zlI{op op':CmpOp}{r r':FO}(ho:OpF X (compareOp op) r)(ho':OpF X (compareOp op') r')(ha:PF X a Fa)(hb:PF X b Fb)(hc:PF X c Fc)
 (hm:lastMarks [op,op'] [b,c]=false:=by with_unfolding_all rfl):PF X (.Compare a [op,op'] [b,c] pos) (z7N r r' Fa Fb Fc):=(zhJ ho ho' ha hb hc hm).imp fun σ H Q h=>zgN h
def isN:Dt→Bool
 | .non=>true
 | _=>false
def z9n:FO:=fun x y=>match y with|.non=>some (.nw,.bl (isN x))|_=>none
def z7O:FO:=fun x y=>match y with|.non=>some (.nw,.bl (!isN x))|_=>none
theorem isNon{H:Hp}{d:Dt}{v:V}(r:Rp X.K emp d H v):decide (v=V.non)=isN d:=by
 cases d with
 | non=>rw[Rp.non_.mp r];rfl
 | bl b=>rw[Rp.bl_.mp r];rfl
 | int i=>rw[Rp.int_.mp r];rfl
 | str x=>rw[Rp.str_.mp r];rfl
 | lst ds=>obtain⟨a,_,rfl,_⟩:=Rp.lst_.mp r;rfl
 | tup ds=>obtain⟨a,_,rfl,_⟩:=Rp.tup_.mp r;rfl
 | scr ds=>obtain⟨a,rfl,_⟩:=Rp.scr_.mp r;rfl
 | dic=>obtain⟨a,rfl,_⟩:=Rp.dic_.mp r;rfl
theorem o_isN:OpF X (compareOp .Is) z9n:=by
 rintro pins s σ H x y v u Q I r1 r2 ⟨d1,d2,f,d,q1,q2,e,k⟩
 unfold z9n at e
 split at e
 · cases e
   refine op_isN pins s σ H x y v u Q I r1 r2 ⟨Rp.non_.mp q2,?_⟩
   rw[isNon q1]
   exact k _ H (Same.refl H) RpF.b_
 · cases e
theorem o_notN:OpF X (compareOp .IsNot) z7O:=by
 rintro pins s σ H x y v u Q I r1 r2 ⟨d1,d2,f,d,q1,q2,e,k⟩
 unfold z7O at e
 split at e
 · cases e
   refine zlq pins s σ H x y v u Q I r1 r2 ⟨Rp.non_.mp q2,?_⟩
   rw[isNon q1]
   exact k _ H (Same.refl H) RpF.b_
 · cases e
theorem z2q{K:PySem.W.Frag}{B H:Hp}{ds:List Dt}{vs:List V}{i:Int}{d:Dt}(h:Rps K B ds H vs)(e:atI ds i=some d):∃ v,atI vs i=some v∧Rp K B d H v:=by
 unfold atI at e ⊢
 rw[h.length]
 cases q:ixN ds.length i with
 | none=>rw[q]at e;cases e
 | some j =>
  rw[q]at e
  exact h.get e
def Fl.item:Fl→Fl
 | .tn => .sh
 | f=>f
def opAt(x:Dv)(y:Dv):Option Dv:=match x.2,y.2 with
 | .lst ds,.int i=>(atI ds i).map (nrm x.1.item)
 | .tup ds,.int i=>(atI ds i).map (nrm x.1.item)
 | .scr ns,.int i=>(atI ns i).map fun n=>(.nw,.int n)
 | _,_=>none
def fAt(Fa Fb:FE):FE:=fun ρ=>(Fa ρ).bind fun x=>(Fb ρ).bind fun y=>opAt x y
theorem RpF.item{X:Ky}{H H':Hp}{f:Fl}{ds:List Dt}{v:V}{i:Int}{d:Dt}(h:RpF X H f (.lst ds) H' v)(e:atI ds i=some d):∃ a vs w,v = .ref a∧SqL X.K H' a vs∧atI vs i=some w∧RpF X H f.item d H' w:=by
 cases f with
 | sh=>obtain⟨a,vs,rfl,_,h1,h2⟩:=Rp.items h;obtain⟨w,e1,e2⟩:=z2q h2 e;exact⟨a,vs,w,rfl,SqL.of h1,e1,e2⟩
 | tn=>obtain⟨a,vs,rfl,_,h1,h2⟩:=Rp.items h.1;obtain⟨w,e1,e2⟩:=z2q h2 e;exact⟨a,vs,w,rfl,SqL.of h1,e1,e2⟩
 | fr=>obtain⟨a,vs,rfl,_,h1,h2⟩:=Rp.items h;obtain⟨w,e1,e2⟩:=z2q h2 e;exact⟨a,vs,w,rfl,SqL.of h1,e1,e2⟩
 | nw=>obtain⟨a,vs,rfl,_,h1,h2⟩:=Rp.items h;obtain⟨w,e1,e2⟩:=z2q h2 e;exact⟨a,vs,w,rfl,SqL.of h1,e1,e2⟩
theorem RpF.itemT{X:Ky}{H H':Hp}{f:Fl}{ds:List Dt}{v:V}{i:Int}{d:Dt}(h:RpF X H f (.tup ds) H' v)(e:atI ds i=some d):∃ a vs w,v = .ref a∧SqT X.K H' a vs∧atI vs i=some w∧RpF X H f.item d H' w:=by
 cases f with
 | sh=>obtain⟨a,vs,rfl,h1,h2⟩:=Rp.tup_.mp h;obtain⟨w,e1,e2⟩:=z2q h2 e;exact⟨a,vs,w,rfl,h1,e1,e2⟩
 | tn=>obtain⟨⟨_,h2⟩,_⟩:=h.2;cases h2
 | fr=>obtain⟨a,vs,rfl,h1,h2⟩:=Rp.tup_.mp h;obtain⟨w,e1,e2⟩:=z2q h2 e;exact⟨a,vs,w,rfl,h1,e1,e2⟩
 | nw=>obtain⟨a,vs,rfl,h1,h2⟩:=Rp.tup_.mp h;obtain⟨w,e1,e2⟩:=z2q h2 e;exact⟨a,vs,w,rfl,h1,e1,e2⟩
theorem zlJ{α β:Type}{g:α→β}{xs:List α}{i:Int}{x:α}(h:atI xs i=some x):atI (xs.map g) i=some (g x):=by
 unfold atI at h ⊢
 rw[List.length_map]
 cases q:ixN xs.length i with
 | none=>rw[q]at h;cases h
 | some j=>rw[q]at h;have h:xs[j]?=some x:=h;show(xs.map g)[j]?=_;rw[List.getElem?_map,h];rfl
theorem p_ix(ha:PF X a Fa)(hb:PF X b Fb)(hs:z7p b):PF X (.Subscript a b pos) (fAt Fa Fb) :=
 (zhO ix_seq ha hb hs).imp fun σ H Q hZ=>hZ.elim fun ρ hZ=>hZ.elim fun f hZ=>hZ.elim fun d hZ=>hZ.elim fun rs hZ=>hZ.elim fun e0 k=>by
  obtain⟨⟨fa,da⟩,ea,e1⟩:=z04 e0
  obtain⟨⟨fb,db⟩,eb,e⟩:=z04 e1
  clear e1 e0
  refine⟨ρ,fa,da,rs,ea,fun v H1 s1 r1=>⟨ρ,fb,db,rs.mono s1,eb,fun u H2 s2 r2=>?_⟩⟩
  have r1:=r1.mono s2
  unfold opAt at e
  split at e
  · rename_i ds i ed ei
    cases ed;cases ei
    cases q:atI ds i with
    | none=>rw[q]at e;cases e
    | some d0 =>
     rw[q]at e
     obtain⟨p,vs,w,rfl,h1,h2,h3⟩:=r1.item q
     have e:nrm fa.item d0=(f,d):=Option.some.inj e
     have h4:=h3.nrm
     have e1:d0=d:=congrArg Prod.snd e
     subst e1
     rw[e]at h4
     exact .inl ⟨p,vs,i,w,rfl,Rp.int_.mp r2.sh,h1,h2,k _ _ (s1.trans s2) h4⟩
  · rename_i ds i ed ei
    cases ed;cases ei
    cases q:atI ds i with
    | none=>rw[q]at e;cases e
    | some d0 =>
     rw[q]at e
     obtain⟨p,vs,w,rfl,h1,h2,h3⟩:=r1.itemT q
     have e:nrm fa.item d0=(f,d):=Option.some.inj e
     have h4:=h3.nrm
     have e1:d0=d:=congrArg Prod.snd e
     subst e1
     rw[e]at h4
     exact .inr (.inl ⟨p,vs,i,w,rfl,Rp.int_.mp r2.sh,h1,h2,k _ _ (s1.trans s2) h4⟩)
  · rename_i ns i ed ei
    cases ed;cases ei
    cases q:atI ns i with
    | none=>rw[q]at e;cases e
    | some n =>
     rw[q]at e
     cases e
     obtain⟨p,rfl,_,h1⟩:=Rp.scr_.mp r1.sh
     exact .inl ⟨p,_,i,_,rfl,Rp.int_.mp r2.sh,h1,zlJ q,k _ _ (s1.trans s2) RpF.i_⟩
  · cases e
end
end L2

end
section
local macro_rules|`(tactic| omega)=>`(tactic| first|lia|omega +splitDisjunctions)
set_option Elab.async false
set_option linter.all false
set_option maxRecDepth 100000
namespace L2
open PySem PySem.Spec PyProof.Rows
mutual
def Dt.py:Dt→PyData
 | .non => .none
 | .bl b => .bool b
 | .int i => .int i
 | .str x => .str x
 | .lst ds => .list (pys ds)
 | .tup ds => .tuple (pys ds)
 | .scr ns => .list (ns.map .int)
 | .dic => .dict []
def pys:List Dt→List PyData
 | []=>[]
 | d::ds=>d.py::pys ds
end
mutual
def Dt.okN:Nat→Dt→Bool
 | _,.str x=>PyData.strOk x
 | 0,.lst _=>false
 | 0,.tup _=>false
 | n+1,.lst ds=>oksN n ds
 | n+1,.tup ds=>oksN n ds
 | 0,.scr _=>false
 | _,.dic=>false
 | _,_=>true
def oksN:Nat→List Dt→Bool
 | _,[]=>true
 | n,d::ds=>d.okN n&&oksN n ds
end
theorem zay:∀ ns:List Int,PyData.canLayAll0 (ns.map PyData.int)=true∧PyData.depthAll (ns.map PyData.int)=0
 | []=>⟨rfl,rfl⟩
 | n::ns=>⟨by rw[List.map_cons,PyData.canLayAll0,(zay ns).1];rfl,by rw[List.map_cons,PyData.depthAll,(zay ns).2];rfl⟩
mutual
theorem zfY:∀(n:Nat) (d:Dt),d.okN n=true→d.py.canLay0=true∧d.py.depth≤n
 | n,.non,_=>⟨rfl,by rw[Dt.py,PyData.depth];exact Nat.zero_le _⟩
 | n,.bl b,_=>⟨rfl,by rw[Dt.py,PyData.depth];exact Nat.zero_le _⟩
 | n,.int i,_=>⟨rfl,by rw[Dt.py,PyData.depth];exact Nat.zero_le _⟩
 | n,.str x,h=>by
  have h:PyData.strOk x=true:=by cases n<;>simpa[Dt.okN]using h
  exact⟨by rw[Dt.py,PyData.canLay0];exact h,by rw[Dt.py,PyData.depth];exact Nat.zero_le _⟩
 | 0,.lst ds,h=>by rw[Dt.okN]at h;cases h
 | 0,.tup ds,h=>by rw[Dt.okN]at h;cases h
 | 0,.scr ds,h=>by rw[Dt.okN]at h;cases h
 | n,.dic,h=>by cases n<;>(unfold Dt.okN at h;cases h)
 | n+1,.lst ds,h=>by
  rw[Dt.okN]at h
  obtain⟨h1,h2⟩:=z7P n ds h
  exact⟨by rw[Dt.py,PyData.canLay0];exact h1,by rw[Dt.py,PyData.depth];omega⟩
 | n+1,.tup ds,h=>by
  rw[Dt.okN]at h
  obtain⟨h1,h2⟩:=z7P n ds h
  exact⟨by rw[Dt.py,PyData.canLay0];exact h1,by rw[Dt.py,PyData.depth];omega⟩
 | n+1,.scr ns,h=>by
  obtain⟨h1,h2⟩:=zay ns
  exact⟨by rw[Dt.py,PyData.canLay0];exact h1,by rw[Dt.py,PyData.depth];omega⟩
theorem z7P:∀(n:Nat) (ds:List Dt),oksN n ds=true→PyData.canLayAll0 (pys ds)=true∧PyData.depthAll (pys ds)≤n
 | n,[],_=>⟨rfl,by rw[pys,PyData.depthAll];exact Nat.zero_le _⟩
 | n,d::ds,h=>by
  rw[oksN,Bool.and_eq_true]at h
  obtain⟨h1,h2⟩:=zfY n d h.1
  obtain⟨h3,h4⟩:=z7P n ds h.2
  refine⟨by rw[pys,PyData.canLayAll0,h1,h3];rfl,?_⟩
  rw[pys,PyData.depthAll]
  exact Nat.max_le.mpr ⟨h2,h4⟩
end
theorem z4H{d:Dt}{n:Nat}(h:d.okN n=true)(hn:n≤64):SeqAt.shaped d.py=true:=by
 obtain⟨h1,h2⟩:=zfY n d h
 unfold SeqAt.shaped
 rw[h1,Bool.true_and]
 exact decide_eq_true (Nat.le_trans h2 hn)
section
variable {X:Cx}{pins:List (Addr×Obj)}{σ:St}{H:Hp}{s:Shared}
theorem z7Q{h:Heap}:∀{ns:List Int} {us:List Value},Vals (ns.map V.int) us→∃ as,ReadsAll h us (ns.map PyData.int) as
 | [],us,r=>by cases r;exact⟨_,.nil⟩
 | n::ns,us,r=>by
  rw[List.map_cons]at r
  cases r with
  | cons r1 r2 =>
   obtain⟨t,rfl⟩:=r1
   obtain⟨as,q⟩:=z7Q r2
   exact⟨_,.cons (.int n t) q⟩
mutual
theorem z44(I:Inv X pins σ H s):∀(d:Dt) {v:V} {u:Value},Rp X.K emp d H v→RelV v u→∃ as,Reads s.heap u d.py as
 | .non,v,u,h,r=>by rw[Rp.non_]at h;subst h;cases r;exact⟨_,.none⟩
 | .bl b,v,u,h,r=>by rw[Rp.bl_]at h;subst h;cases r;exact⟨_,.bool b⟩
 | .int i,v,u,h,r=>by rw[Rp.int_]at h;subst h;obtain⟨t,rfl⟩:=r;exact⟨_,.int i t⟩
 | .str x,v,u,h,r=>by rw[Rp.str_]at h;subst h;obtain⟨t,rfl⟩:=r;exact⟨_,.str x t⟩
 | .dic,v,u,h,r=>by
  obtain⟨a,rfl,h1⟩:=Rp.dic_.mp h
  cases r
  exact⟨_,by rw[Dt.py];exact .dict (I.hok a _ h1).1 rfl rfl .nil .nil⟩
 | .lst ds,v,u,h,r=>by
  obtain⟨a,vs,rfl,_,h1,h2⟩:=Rp.lst_.mp h
  cases r
  obtain⟨its,rv,⟨o,n,e,c,dd,dt⟩,_⟩:=I.list (SqL.of (K:=X.K) h1)
  obtain⟨as,q⟩:=z45 I ds (Rps.mono ds z0y h2) rv
  exact⟨_,by rw[Dt.py];exact .list e c dt q⟩
 | .tup ds,v,u,h,r=>by
  obtain⟨a,vs,rfl,h1,h2⟩:=Rp.tup_.mp h
  cases r
  obtain⟨its,rv,⟨o,e,c,n,dt⟩,_⟩:=I.tuple h1
  obtain⟨as,q⟩:=z45 I ds h2 rv
  exact⟨_,by rw[Dt.py];exact .tuple e c dt q⟩
 | .scr ns,v,u,h,r=>by
  obtain⟨a,rfl,_,h1⟩:=Rp.scr_.mp h
  cases r
  obtain⟨its,rv,⟨o,n,e,c,dd,dt⟩,_⟩:=I.list h1
  obtain⟨as,q⟩:=z7Q (h:=s.heap) rv
  exact⟨_,by rw[Dt.py];exact .list e c dt q⟩
theorem z45(I:Inv X pins σ H s):∀(ds:List Dt) {vs:List V} {us:List Value},Rps X.K emp ds H vs→Vals vs us→∃ as,ReadsAll s.heap us (pys ds) as
 | [],vs,us,h,r=>by rw[Rps.nil_]at h;subst h;cases r;exact⟨_,by rw[pys];exact .nil⟩
 | d::ds,vs,us,h,r=>by
  obtain⟨v,ws,rfl,h1,h2⟩:=Rps.cons_.mp h
  cases r with
  | cons r1 r2 =>
   obtain⟨as,q1⟩:=z44 I d h1 r1
   obtain⟨bs,q2⟩:=z45 I ds h2 r2
   exact⟨_,by rw[pys];exact .cons q1 q2⟩
end
end
def eqD(x y:Dt):Bool:=PyData.eqv x.py y.py
section
variable {X:Cx}{a b c e:Expr}{Fa Fb Fc:FE}{pos:Pos}
def opEq:FO:=fun x y=>if x.okN 8&&y.okN 8 then some (.nw,.bl (eqD x y)) else none
def opNe:FO:=fun x y=>if x.okN 8&&y.okN 8 then some (.nw,.bl (!eqD x y)) else none
theorem o_eq(hu:X.A.units+64<cLine):OpF X (compareOp .Eq) opEq:=by
 rintro pins s σ H x y v u Q I r1 r2 ⟨d1,d2,f,d,q1,q2,e,k⟩
 unfold opEq at e
 split at e
 · rename_i h
   rw[Bool.and_eq_true]at h
   cases e
   obtain⟨as,ra⟩:=z44 I d1 q1 r1
   obtain⟨bs,rb⟩:=z44 I d2 q2 r2
   exact eq_dataH ra rb (z4H h.1 (by decide)) (z4H h.2 (by decide)) hu ⟨.bl _,H,I,rfl,k _ H (Same.refl H) RpF.b_⟩
 · cases e
theorem o_ne(hu:X.A.units+64<cLine):OpF X (compareOp .NotEq) opNe:=by
 rintro pins s σ H x y v u Q I r1 r2 ⟨d1,d2,f,d,q1,q2,e,k⟩
 unfold opNe at e
 split at e
 · rename_i h
   rw[Bool.and_eq_true]at h
   cases e
   obtain⟨as,ra⟩:=z44 I d1 q1 r1
   obtain⟨bs,rb⟩:=z44 I d2 q2 r2
   exact ne_dataH ra rb (z4H h.1 (by decide)) (z4H h.2 (by decide)) hu ⟨.bl _,H,I,rfl,k _ H (Same.refl H) RpF.b_⟩
 · cases e
end
def RpFs(X:Ky)(H:Hp):List Dv→Hp→List V→Prop
 | [],_,vs=>vs=[]
 | x::xs,H',vs=>∃ v r,vs=v::r∧RpF X H x.1 x.2 H' v∧RpFs X H xs H' r
def upAs(X:Cx)(F:FA):TA:=fun σ H Q=>∃ ρ xs,RepS X.ky H ρ σ∧F ρ=some xs∧∀ vs H',Same H H'→RpFs X.ky H xs H' vs→Q vs H'
def PFA(X:Cx)(es:List Expr)(F:FA):Prop:=PA X es (upAs X F)
def sndL:List Dv→List Dt
 | []=>[]
 | x::xs=>x.2::sndL xs
def z3Y:List Dv→Bool
 | []=>true
 | x::xs=>x.1.isNw&&z3Y xs
def z2O:List Dv→Bool
 | []=>true
 | x::xs=>x.1.isFr&&z2O xs
section
variable {X:Ky}{H H' H1:Hp}
theorem RpFs.sh:∀{xs:List Dv} {vs:List V},RpFs X H xs H' vs→Rps X.K emp (sndL xs) H' vs
 | [],vs,h=>Rps.nil_.mpr h
 | x::xs,vs,⟨v,r,e,h1,h2⟩=>Rps.cons_.mpr ⟨v,r,e,h1.sh,RpFs.sh h2⟩
theorem RpFs.nw:∀{xs:List Dv} {vs:List V},z3Y xs=true→RpFs X H xs H' vs→Rps X.K H (sndL xs) H' vs
 | [],vs,_,h=>Rps.nil_.mpr h
 | ⟨f,d⟩::xs,vs,q,⟨v,r,e,h1,h2⟩=>by
  unfold z3Y at q
  rw[Bool.and_eq_true]at q
  cases f<;>first|(exact absurd q.1 Bool.false_ne_true)|exact Rps.cons_.mpr ⟨v,r,e,h1,RpFs.nw q.2 h2⟩
theorem RpFs.fr(h0:Same X.H₀ H):∀{xs:List Dv} {vs:List V},z2O xs=true→RpFs X H xs H' vs→Rps X.K X.H₀ (sndL xs) H' vs
 | [],vs,_,h=>Rps.nil_.mpr h
 | ⟨f,d⟩::xs,vs,q,⟨v,r,e,h1,h2⟩=>by
  unfold z2O at q
  rw[Bool.and_eq_true]at q
  exact Rps.cons_.mpr ⟨v,r,e,h1.fr h0 q.1,RpFs.fr h0 q.2 h2⟩
theorem RpFs.mono:∀{xs:List Dv} {vs:List V},RpFs X H xs H' vs→Same H' H1→RpFs X H xs H1 vs
 | [],vs,h,_=>h
 | x::xs,vs,⟨v,r,e,h1,h2⟩,s=>⟨v,r,e,h1.mono s,RpFs.mono h2 s⟩
theorem RpFs.early(s:Same H H1):∀{xs:List Dv} {vs:List V},RpFs X H1 xs H' vs→RpFs X H xs H' vs
 | [],vs,h=>h
 | x::xs,vs,⟨v,r,e,h1,h2⟩=>⟨v,r,e,h1.early s,RpFs.early s h2⟩
end
section
variable {X:Cx}{a b c e:Expr}{es:List Expr}{Fa Fb Fe:FE}{Fs:FA}{pos:Pos}
def fNil:FA:=fun _=>some []
def z02(Fa:FE)(Fs:FA):FA:=fun ρ=>(Fa ρ).bind fun x=>(Fs ρ).bind fun xs=>some (x::xs)
theorem z07:PFA X [] fNil:=z7I.imp (by rintro σ H Q ⟨ρ,xs,rs,e,k⟩;cases e;exact k [] H (Same.refl H) rfl)
theorem z03(ha:PF X e Fe)(hr:PFA X es Fs)(hs:starEach (e::es) X.env=(false,eval e X.env)::starEach es X.env:=by rfl):PFA X (e::es) (z02 Fe Fs) :=
 (z3w ha hr hs).imp fun σ H Q hZ=>hZ.elim fun ρ hZ=>hZ.elim fun xs hZ=>hZ.elim fun rs hZ=>hZ.elim fun e0 k=>by
  obtain⟨⟨f,d⟩,e1,e2⟩:=z04 e0
  obtain⟨ys,e3,e4⟩:=z04 e2
  cases e4
  exact⟨ρ,f,d,rs,e1,fun v H1 s1 r1=>⟨ρ,ys,rs.mono s1,e3,fun vs H2 s2 r2=>k _ _ (s1.trans s2) ⟨v,vs,rfl,r1.mono s2,r2.early s1⟩⟩⟩
theorem RpFs.length{X:Ky}{H H':Hp}:∀{xs:List Dv} {vs:List V},RpFs X H xs H' vs→vs.length=xs.length
 | [],vs,h=>by rw[show vs=[]from h];rfl
 | x::xs,vs,⟨v,r,e,_,h2⟩=>by rw[e,List.length_cons,List.length_cons,RpFs.length h2]
def fLst(Fs:FA):FE:=fun ρ=>(Fs ρ).bind fun xs=>if xs.length≤1000 then some (if z3Y xs then .nw else .tn,.lst (sndL xs)) else none
def fTup(Fs:FA):FE:=fun ρ=>(Fs ρ).bind fun xs=>if xs.length≤1000 then some (if z3Y xs then .nw else if z2O xs then .fr else .sh,.tup (sndL xs)) else none
theorem z46(h:PFA X es Fs):PF X (.List es pos) (fLst Fs):=(pe_lst h).imp fun σ H Q hZ=>hZ.elim fun ρ hZ=>hZ.elim fun f hZ=>hZ.elim fun d hZ=>hZ.elim fun rs hZ=>hZ.elim fun e0 k=>by
 obtain⟨xs,e1,e2⟩:=z04 e0
 split at e2
 · rename_i hl
   cases e2
   refine⟨ρ,xs,rs,e1,fun vs H1 s1 r1=>⟨Nat.le_trans (by rw[r1.length];exact hl) (by decide),fun p hp=>k _ _ (s1.trans (z0W hp)) ?_⟩⟩
   have hp0:H p=none:=s1.free hp
   by_cases q:z3Y xs=true
   · rw[if_pos q]
     exact Rp.new (K:=X.K) (B:=H) hp hp0 (r1.nw q)
   · rw[if_neg q]
     exact⟨Rp.new hp rfl r1.sh,⟨_,rfl⟩,fun a e=>by cases e;exact hp0⟩
 · cases e2
theorem zfZ{x1}(h:PFA X es Fs):PF X (.Tuple es x1 pos) (fTup Fs):=(pe_tup h).imp fun σ H Q hZ=>hZ.elim fun ρ hZ=>hZ.elim fun f hZ=>hZ.elim fun d hZ=>hZ.elim fun rs hZ=>hZ.elim fun e0 k=>by
 obtain⟨xs,e1,e2⟩:=z04 e0
 split at e2
 · rename_i hl
   cases e2
   refine⟨ρ,xs,rs,e1,fun vs H1 s1 r1=>⟨Nat.le_trans (by rw[r1.length];exact hl) (by decide),fun p hp=>k _ _ (s1.trans (z0W hp)) ?_⟩⟩
   have r2:=r1.mono (z0W (o := .tup vs) hp)
   by_cases q:z3Y xs=true
   · rw[if_pos q]
     exact(Rp.tup_ (K:=X.K) (B:=H)).mpr ⟨p,vs,rfl,SqT.of z0H,r2.nw q⟩
   · rw[if_neg q]
     by_cases q2:z2O xs=true
     · rw[if_pos q2]
       exact(Rp.tup_ (K:=X.K) (B:=X.H₀)).mpr ⟨p,vs,rfl,SqT.of z0H,r2.fr rs.base q2⟩
     · rw[if_neg q2]
       exact(Rp.tup_ (K:=X.K) (B:=emp)).mpr ⟨p,vs,rfl,SqT.of z0H,r2.sh⟩
 · cases e2
abbrev FC:=List Dt→Option Dt
def spc(K:PySem.W.Frag)(fr:Bool)(c:FC):Sp:=fun vs H Q _=>∃ ds d,Rps K emp ds H vs∧c ds=some d∧∀ v H',Same H H'→Rp K (if fr then H else emp) d H' v→Q v H'
def z09(fr:Bool)(c:FC)(Fs:FA):FE:=fun ρ=>(Fs ρ).bind fun xs=>(c (sndL xs)).map (nrm (if fr then .nw else .sh))
theorem zi2{X:Ky}{fr:Bool}{H H1 H':Hp}{d:Dt}{v:V}(s:Same H H1)(r:Rp X.K (if fr then H1 else emp) d H' v):RpF X H (nrm (if fr then .nw else .sh) d).1 d H' v:=by
 cases fr with
 | true=>exact RpF.nrm (f := .nw) (RpF.early s (show RpF X H1 .nw d H' v from r))
 | false=>exact RpF.nrm (f := .sh) r
theorem p_call{fr:Bool}{k:Nat}{f:Addr}{fd:FuncData}{ps:List Str}{ct:FC}{x:Str}{p:Pos}(F:FnOk X.prog X.w X.K X.mg X.base CX0 k f fd ps (spc X.K fr ct))(hr:Room k X.A)(hg:Gl X x)(hm:X.mg x=some (.ref f))(hk:PySem.W.keepIn X.K (.ref f)=true)(hb:Binds X.K fd ps [])
  (ha:PFA X (e::es) Fs) (hdb:(x==("__debug__" : Str))=false:=by decide) (hst:starEach (e::es) X.env=(false,eval e X.env)::starEach es X.env:=by rfl) (hpl:(backTo pos (starEach es X.env)).any (·.1)=false:=by rfl):PF X (.Call (.Name x p) (e::es) [] pos) (z09 fr ct Fs) :=
 (zlu (E:=E0) (dvs:=[]) F hr hg hm hk hb .nil pass0 ha hdb hst hpl).imp fun σ H Q hZ=>hZ.elim fun ρ hZ=>hZ.elim fun f hZ=>hZ.elim fun d hZ=>hZ.elim fun rs hZ=>hZ.elim fun e0 k=>by
  obtain⟨xs,e1,e2⟩:=z04 e0
  cases q:ct (sndL xs) with
  | none=>rw[q]at e2;cases e2
  | some d0 =>
   rw[q]at e2
   have e2:nrm (if fr then .nw else .sh) d0=(f,d):=Option.some.inj e2
   have e3:d0=d:=congrArg Prod.snd e2
   subst e3
   refine⟨ρ,xs,rs,e1,fun vs H1 s1 r1=>?_⟩
   dsimp only
   rw[List.append_nil]
   refine⟨_,d0,r1.sh,q,fun v H' s' r'=>k v H' (s1.trans s') ?_⟩
   have:=zi2 (X:=X.ky) s1 r'
   rw[e2]at this
   exact this
abbrev FB:=List Dt→Option Dv
def z6Q(X:Cx)(f:Value)(r:FB):Prop:=CallR X f (fun xs H Q=>∃ ds f d,Rps X.K emp ds H xs∧r ds=some (f,d)∧∀ v H',Same H H'→RpF X.ky H f d H' v→Q v H')
def fBlt(r:FB)(Fs:FA):FE:=fun ρ=>(Fs ρ).bind fun xs=>r (sndL xs)
theorem zg0{r:FB}{σ:St}{H:Hp}{Q:VK}(h:upF X (fBlt r Fs) σ H Q):upAs X Fs σ H fun vs H1=>∃ ds f d,Rps X.K emp ds H1 vs∧r ds=some (f,d)∧∀ v H',Same H1 H'→RpF X.ky H1 f d H' v→Q v H':=by
 obtain⟨ρ,f,d,rs,e0,k⟩:=h
 obtain⟨xs,e1,e2⟩:=z04 e0
 exact⟨ρ,xs,rs,e1,fun vs H1 s1 r1=>⟨_,f,d,r1.sh,e2,fun v H' s' r'=>k v H' (s1.trans s') (r'.early s1)⟩⟩
theorem z0A{id:String}{r:FB}{x:Str}{p:Pos}(hc:z6Q X (.builtin id) r)(hg:Gl X x)(hm:X.mg x=none)(hv:bootBuiltins x=some (.builtin id))(ha:PFA X (e::es) Fs)(hn:x ≠ "__name__" := by decide)(hdb:(x==("__debug__" : Str))=false:=by decide)(hst:starEach (e::es) X.env=(false,eval e X.env)::starEach es X.env:=by rfl)(hpl:(backTo pos (starEach es X.env)).any (·.1)=false:=by rfl):
 PF X (.Call (.Name x p) (e::es) [] pos) (fBlt r Fs):=(zbg hc hg hm hv ha hn hdb hst hpl).imp fun σ H Q h=>zg0 h
theorem z1c{T:String}{r:FB}{x:Str}{p:Pos}(hc:z6Q X (.type T) r)(hg:Gl X x)(hm:X.mg x=none)(hv:bootBuiltins x=some (.type T))(ha:PFA X (e::es) Fs)(hn:x ≠ "__name__" := by decide)(hdb:(x==("__debug__" : Str))=false:=by decide)(hst:starEach (e::es) X.env=(false,eval e X.env)::starEach es X.env:=by rfl)(hpl:(backTo pos (starEach es X.env)).any (·.1)=false:=by rfl):
 PF X (.Call (.Name x p) (e::es) [] pos) (fBlt r Fs):=(zgK hc hg hm hv ha hn hdb hst hpl).imp fun σ H Q h=>zg0 h
end
section
variable {X:Cx}
theorem Rps.one'{K:PySem.W.Frag}{B H:Hp}{d:Dt}{vs:List V}(h:Rps K B [d] H vs):∃ v,vs=[v]∧Rp K B d H v:=by
 obtain⟨v,r,rfl,h1,h2⟩:=Rps.cons_.mp h
 rw[Rps.nil_.mp h2]
 exact⟨v,rfl,h1⟩
def bLen:FB
 | [.lst xs]=>some (.nw,.int xs.length)
 | [.tup xs]=>some (.nw,.int xs.length)
 | [.scr xs]=>some (.nw,.int xs.length)
 | _=>none
theorem z1S:z6Q X (.builtin "len") bLen:=by
 rintro pins s σ H xs us Q I r ⟨ds,f,d,rs,e,k⟩
 unfold bLen at e
 split at e
 · cases e
   obtain⟨v,rfl,h⟩:=rs.one'
   obtain⟨p,vs,rfl,_,q1,q2⟩:=h.items
   exact z3x pins s σ H _ us Q I r ⟨p,vs,rfl,.inl (SqL.of q1),by rw[q2.length];exact k _ H (Same.refl H) RpF.i_⟩
 · cases e
   obtain⟨v,rfl,h⟩:=rs.one'
   obtain⟨p,vs,rfl,q1,q2⟩:=Rp.tup_.mp h
   exact z3x pins s σ H _ us Q I r ⟨p,vs,rfl,.inr q1,by rw[q2.length];exact k _ H (Same.refl H) RpF.i_⟩
 · cases e
   obtain⟨v,rfl,h⟩:=rs.one'
   obtain⟨p,rfl,_,q1⟩:=Rp.scr_.mp h
   exact z3x pins s σ H _ us Q I r ⟨p,_,rfl,.inl q1,by rw[List.length_map];exact k _ H (Same.refl H) RpF.i_⟩
 · cases e
def bTup:FB
 | [.lst xs]=>some (if z0V xs then .nw else .sh,.tup xs)
 | [.tup xs]=>some (if z0V xs then .nw else .sh,.tup xs)
 | _=>none
theorem zg1{X:Ky}{H H':Hp}{xs:List Dt}{v:V}(h:Rp X.K emp (.tup xs) H' v):RpF X H (if z0V xs then .nw else .sh) (.tup xs) H' v:=by
 by_cases q:z0V xs=true
 · rw[if_pos q];exact RpF.scal (by rw[Dt.flat];exact q) h
 · rw[if_neg q];exact h
theorem zi3:z6Q X (.type "tuple") bTup:=by
 rintro pins s σ H xs us Q I r ⟨ds,f,d,rs,e,k⟩
 unfold bTup at e
 split at e
 · cases e
   obtain⟨v,rfl,h⟩:=rs.one'
   obtain⟨p,vs,rfl,_,q1,q2⟩:=h.items
   exact z52 pins s σ H _ us Q I r ⟨p,vs,rfl,.inl ⟨SqL.of q1,fun l hl=>k _ _ (z0W hl) (zg1 (Rp.tup_.mpr ⟨l,vs,rfl,SqT.of z0H,Rps.mono _ (z0W hl) q2⟩))⟩⟩
 · cases e
   obtain⟨v,rfl,h⟩:=rs.one'
   obtain⟨p,vs,rfl,q1,q2⟩:=Rp.tup_.mp h
   exact z52 pins s σ H _ us Q I r ⟨p,vs,rfl,.inr ⟨q1,k _ H (Same.refl H) (zg1 h)⟩⟩
 · cases e
def bLst:FB
 | [.lst xs]=>some (newL xs)
 | [.tup xs]=>some (newL xs)
 | _=>none
theorem z6R:z6Q X (.type "list") bLst:=by
 rintro pins s σ H xs us Q I r ⟨ds,f,d,rs,e,k⟩
 unfold bLst at e
 split at e
 · cases e
   obtain⟨v,rfl,h⟩:=rs.one'
   obtain⟨p,vs,rfl,_,q1,q2⟩:=h.items
   exact z5z pins s σ H _ us Q I r ⟨p,vs,rfl,.inl (SqL.of q1),fun l hl=>k _ _ (z0W hl) (z5A hl q2)⟩
 · cases e
   obtain⟨v,rfl,h⟩:=rs.one'
   obtain⟨p,vs,rfl,q1,q2⟩:=Rp.tup_.mp h
   exact z5z pins s σ H _ us Q I r ⟨p,vs,rfl,.inr q1,fun l hl=>k _ _ (z0W hl) (z5A hl q2)⟩
 · cases e
def bAbs:FB
 | [.int i]=>some (.nw,.int (if i<0 then -i else i))
 | _=>none
theorem c_abs:z6Q X (.builtin "abs") bAbs:=by
 rintro pins s σ H xs us Q I r ⟨ds,f,d,rs,e,k⟩
 unfold bAbs at e
 split at e
 · rename_i i
   cases e
   obtain⟨v,rfl,h⟩:=rs.one'
   rw[Rp.int_]at h
   subst h
   exact zhL pins s σ H _ us Q I r ⟨i,rfl,k _ H (Same.refl H) RpF.i_⟩
 · cases e
def bInt:FB
 | [.int i]=>some (.nw,.int i)
 | [.bl b]=>some (.nw,.int (if b then 1 else 0))
 | _=>none
theorem c_int:z6Q X (.type "int") bInt:=by
 rintro pins s σ H xs us Q I r ⟨ds,f,d,rs,e,k⟩
 unfold bInt at e
 split at e
 · rename_i i
   cases e
   obtain⟨v,rfl,h⟩:=rs.one'
   rw[Rp.int_]at h
   subst h
   exact z99 pins s σ H _ us Q I r (.inl ⟨i,rfl,k _ H (Same.refl H) RpF.i_⟩)
 · rename_i b
   cases e
   obtain⟨v,rfl,h⟩:=rs.one'
   rw[Rp.bl_]at h
   subst h
   exact z99 pins s σ H _ us Q I r (.inr ⟨b,rfl,k _ H (Same.refl H) RpF.i_⟩)
 · cases e
def z6S:List Dt→Option (List Bool)
 | []=>some []
 | .bl b::ds=>(z6S ds).map (b::·)
 | _=>none
theorem z9o{K:PySem.W.Frag}{B H:Hp}:∀{ds:List Dt} {bs:List Bool} {vs:List V},z6S ds=some bs→Rps K B ds H vs→vs=bs.map V.bl
 | [],bs,vs,e,r=>by cases e;exact Rps.nil_.mp r
 | .bl b::ds,bs,vs,e,r=>by
  obtain⟨v,ws,rfl,h1,h2⟩:=Rps.cons_.mp r
  unfold z6S at e
  cases q:z6S ds with
  | none=>rw[q]at e;cases e
  | some cs=>rw[q]at e;cases e;rw[Rp.bl_.mp h1,z9o q h2];rfl
 | .non::ds,bs,vs,e,r=>by cases e
 | .int _::ds,bs,vs,e,r=>by cases e
 | .str _::ds,bs,vs,e,r=>by cases e
 | .lst _::ds,bs,vs,e,r=>by cases e
 | .tup _::ds,bs,vs,e,r=>by cases e
 | .scr _::ds,bs,vs,e,r=>by cases e
 | .dic::ds,bs,vs,e,r=>by cases e
def bAll:FB
 | [.lst xs]=>(z6S xs).map fun bs=>(.nw,.bl (bs.all id))
 | _=>none
theorem zgO(bs:List Bool):(List.range bs.length).all (fun i=>bs.getD i false)=bs.all id:=by
 rw[Bool.eq_iff_iff,List.all_eq_true,List.all_eq_true]
 constructor
 · intro h b hb
   obtain⟨i,hi,e⟩:=List.getElem_of_mem hb
   have:=h i (List.mem_range.mpr hi)
   simp[List.getD,List.getElem?_eq_getElem hi,e]at this
   exact this
 · intro h i hi
   have hi:=List.mem_range.mp hi
   have:=h _ (List.getElem_mem hi)
   simpa[List.getD,List.getElem?_eq_getElem hi]using this
theorem zlK{bs:List Bool}{us:List Value}(r:Vals (bs.map V.bl) us){prog:Program}{w:World}{A:Around}:TruthOf prog w A (fun i v=>us.toArray[i]?=some v) (fun i=>bs.getD i false):=by
 intro i v s Q E hP hQ
 have e:us[i]?=some v:=by simpa using hP
 cases q:bs[i]? with
 | none =>
  have:=r.none_of (i:=i) (by rw[List.getElem?_map,q];rfl)
  rw[this]at e;cases e
 | some b =>
  obtain⟨u,h1,h2⟩:=r.get (i:=i) (x:=V.bl b) (by rw[List.getElem?_map,q];rfl)
  rw[e]at h1
  cases h1
  cases h2
  have hQ':Q b s:=by simpa[List.getD,q]using hQ
  exact wpAny_truthy_bool hQ'
theorem zi4(hc:X.calm=true):z6Q X (.builtin "all") bAll:=by
 rintro pins s σ H xs us Q I r ⟨ds,f,d,rs,e,k⟩
 unfold bAll at e
 split at e
 · rename_i ys
   cases q:z6S ys with
   | none=>rw[q]at e;cases e
   | some bs =>
    rw[q]at e
    cases e
    obtain⟨v,rfl,h⟩:=rs.one'
    obtain⟨p,vs,rfl,_,q1,q2⟩:=h.items
    obtain⟨u,rfl,ru⟩:=r.one
    cases ru
    have ev:=z9o q q2
    subst ev
    obtain⟨its,rv,pl,hz⟩:=I.list (SqL.of (K:=X.K) q1)
    have hlen:its.toArray.size=bs.length:=by rw[List.size_toArray,←rv.length,List.length_map]
    refine call_all_walk (wpAny_pyIter_list pl.isList ?_)
    have hne:p≠s.heap.objs.size:=Nat.ne_of_lt (by obtain⟨o,e,_⟩:=pl.isList;exact Heap.lt_size e)
    refine⟨_,_,_,_,_,_,fun i=>bs.getD i false,rfl,Walks.list (A:=X.A.in1) (I.ok.hd hc) s.heap.objs.size p hne its.toArray,⟨⟨_,Heap.get?_push_size _ rfl,rfl,rfl⟩,pl.isList.at fun o e=>Heap.get?_push_of_some _ e⟩,zlK rv,fun h' tk hk=>?_⟩
    rw[hlen,zgO]
    exact⟨.bl _,H,I.kept fun b o e=>hk b o (by simp;exact Nat.ne_of_lt (Heap.lt_size e)) (Heap.get?_push_of_some _ e),rfl,k _ H (Same.refl H) RpF.b_⟩
 · cases e
def tyN:Dt→String
 | .non => "NoneType"
 | .bl _ => "bool"
 | .int _ => "int"
 | .str _ => "str"
 | .lst _ => "list"
 | .scr _ => "list"
 | .tup _ => "tuple"
 | .dic => "dict"
def zbr(t T:String):Bool:=t==T||(t == "bool" && T == "int")
def okT(T:String):Bool:=T == "int" || T == "bool" || T == "str" || T == "list" || T == "tuple" || T == "dict"
theorem zgP{T:String}(h:okT T=true):T = "int" ∨ T = "bool" ∨ T = "str" ∨ T = "list" ∨ T = "tuple" ∨ T = "dict" := by
 unfold okT at h
 simp only[Bool.or_eq_true,beq_iff_eq]at h
 rcases h with((((h|h)|h)|h)|h)|h
 · exact .inl h
 · exact .inr (.inl h)
 · exact .inr (.inr (.inl h))
 · exact .inr (.inr (.inr (.inl h)))
 · exact .inr (.inr (.inr (.inr (.inl h))))
 · exact .inr (.inr (.inr (.inr (.inr h))))
theorem kit_D{K:PySem.W.Frag}{d:Dt}{T:String}(h:okT T=true):PySem.W.kitOne K (.type (tyN d)) (.type T)=some (zbr (tyN d) T):=by
 rcases zgP h with rfl|rfl|rfl|rfl|rfl|rfl<;>cases d<;>rfl
def fIsi(T:String)(F:FE):FE:=fun ρ=>(F ρ).map fun x=>(.nw,.bl (zbr (tyN x.2) T))
theorem zlL{T:String}(hT:okT T=true):CallR X (.builtin "isinstance") (fun xs H Q=>∃ d v,xs=[v,.ty T]∧Rp X.K emp d H v∧Q (.bl (zbr (tyN d) T)) H):=by
 intro pins s σ H xs us Q I r ⟨d,v,ex,h1,fin⟩
 subst ex
 have e:=kit_D (K:=X.K) (d:=d) hT
 obtain⟨u,u',rfl,r1,r2⟩:=vals2 r
 cases r2
 cases d with
 | non=>rw[Rp.non_.mp h1]at r1;exact z4D I r1 .non e fun tk=>⟨.bl _,H,I.tok tk,rfl,fin⟩
 | bl b=>rw[Rp.bl_.mp h1]at r1;exact z4D I r1 (.bl b) e fun tk=>⟨.bl _,H,I.tok tk,rfl,fin⟩
 | int i=>rw[Rp.int_.mp h1]at r1;exact z4D I r1 (.int i) e fun tk=>⟨.bl _,H,I.tok tk,rfl,fin⟩
 | str x=>rw[Rp.str_.mp h1]at r1;exact z4D I r1 (.str x) e fun tk=>⟨.bl _,H,I.tok tk,rfl,fin⟩
 | dic =>
  obtain⟨a,rfl,q⟩:=Rp.dic_.mp h1
  cases r1
  exact PySem.W.kia_one PySem.W.kitx_dict I.kIn ⟨_,(I.hok a _ q).1,rfl⟩ e (fun z=>nomatch z) fun tk=>⟨.bl _,H,I.tok tk,rfl,fin⟩
 | lst ys =>
  obtain⟨p,vs,rfl,_,q1,q2⟩:=h1.items
  cases r1
  obtain⟨its,_,pl,_⟩:=I.list (SqL.of (K:=X.K) q1)
  obtain⟨o,ho,hc,_⟩:=pl.isList
  exact PySem.W.kia_one PySem.W.kitx_list I.kIn ⟨o,ho,hc⟩ e (fun z=>nomatch z) fun tk=>⟨.bl _,H,I.tok tk,rfl,fin⟩
 | scr ys =>
  obtain⟨p,rfl,_,q1⟩:=Rp.scr_.mp h1
  cases r1
  obtain⟨its,_,pl,_⟩:=I.list q1
  obtain⟨o,ho,hc,_⟩:=pl.isList
  exact PySem.W.kia_one PySem.W.kitx_list I.kIn ⟨o,ho,hc⟩ e (fun z=>nomatch z) fun tk=>⟨.bl _,H,I.tok tk,rfl,fin⟩
 | tup ys =>
  obtain⟨p,vs,rfl,q1,q2⟩:=Rp.tup_.mp h1
  cases r1
  obtain⟨its,_,pl,_⟩:=I.tuple q1
  obtain⟨o,ho,hc,_⟩:=pl
  exact PySem.W.kia_one PySem.W.kitx_tuple I.kIn ⟨o,ho,hc⟩ e (fun z=>nomatch z) fun tk=>⟨.bl _,H,I.tok tk,rfl,fin⟩
theorem z9p{a:Expr}{Fa:FE}{x:Str}{T:String}{p q pos:Pos}(hT:okT T=true)(hg:Gl X "isinstance")(hm:X.mg "isinstance" = none)(hgT:Gl X x)(hmT:X.mg x=none)(hvT:bootBuiltins x=some (.type T))(ha:PF X a Fa)
  (hn:x ≠ "__name__" := by decide) (hd:(x==("__debug__" : Str))=false:=by decide) (hs1:starEach [.Name x q] X.env=[(false,eval (.Name x q) X.env)]:=by rfl)
  (hs:starEach [a,.Name x q] X.env=(false,eval a X.env)::starEach [.Name x q] X.env:=by rfl):PF X (.Call (.Name "isinstance" p) [a,.Name x q] [] pos) (fIsi T Fa) :=
 (zbg (zlL hT) hg hm boot_isinstance (z3w ha (z3w (pe_ty hgT hmT hvT hn hd) z7I hs1) hs) (by decide) (by decide) hs (by rw[hs1];rfl)).imp fun σ H Q hZ=>hZ.elim fun ρ hZ=>hZ.elim fun f hZ=>hZ.elim fun d hZ=>hZ.elim fun rs hZ=>hZ.elim fun e0 k=>by
  unfold fIsi at e0
  cases h:Fa ρ with
  | none=>rw[h]at e0;cases e0
  | some z =>
   rw[h]at e0
   cases e0
   exact⟨ρ,z.1,z.2,rs,h,fun v H1 s1 r1=>⟨z.2,v,rfl,r1.sh,k _ H1 s1 RpF.b_⟩⟩
abbrev FP:=Rho→Option (Option Int)
def upP(X:Cx)(F:FP):TO:=fun σ H Q=>∃ ρ o,RepS X.ky H ρ σ∧F ρ=some o∧∀ H',Same H H'→Q o H'
def PFP(X:Cx)(e:Option Expr)(F:FP):Prop:=PO X e (upP X F)
def z7q:FP:=fun _=>some none
def intD:Dt→Option Int
 | .int i=>some i
 | _=>none
def zg2(F:FE):FP:=fun ρ=>(F ρ).bind fun x=>(intD x.2).map some
theorem PO.imp{e:Option Expr}{t t':TO}(h:PO X e t)(q:∀ σ H Q,t' σ H Q→t σ H Q):PO X e t':=fun pins s σ H Q I z=>h pins s σ H Q I (q σ H Q z)
theorem s_none:PFP X none z7q:=zlw.imp (by rintro σ H Q ⟨ρ,o,rs,e,k⟩;cases e;exact k H (Same.refl H))
theorem s_some{e:Expr}{F:FE}(h:PF X e F):PFP X (some e) (zg2 F):=(zlx h).imp fun σ H Q ⟨ρ,o,rs,e,k⟩=>by
 obtain⟨⟨f,d⟩,e1,e2⟩:=z04 e
 refine⟨ρ,f,d,rs,e1,fun v H1 s1 r1=>?_⟩
 cases d<;>first|cases e2|skip
 rename_i i
 exact⟨i,Rp.int_.mp r1.sh,k H1 s1⟩
def cutD{α:Type}(xs:List α)(lo hi:Option Int):List α:=(xs.drop (HT.sIx xs.length 0 lo)).take (HT.sIx xs.length xs.length hi-HT.sIx xs.length 0 lo)
def fSl(F:FE)(L U:FP):FE:=fun ρ=>(F ρ).bind fun x=>(L ρ).bind fun lo=>(U ρ).bind fun hi=>match x.2 with|.lst ds=>some (newL (cutD ds lo hi))|_=>none
theorem zlM{e:Expr}{F:FE}{lo hi:Option Expr}{L U:FP}{pos p2:Pos}(he:PF X e F)(hl:PFP X lo L)(hu:PFP X hi U):PF X (.Subscript e (.Slice lo hi none p2) pos) (fSl F L U) :=
 (zhN zlz he hl hu).imp fun σ H Q hZ=>hZ.elim fun ρ hZ=>hZ.elim fun f hZ=>hZ.elim fun d hZ=>hZ.elim fun rs hZ=>hZ.elim fun e0 k=>by
  obtain⟨⟨fx,dx⟩,e1,e2⟩:=z04 e0
  obtain⟨l,e3,e4⟩:=z04 e2
  obtain⟨u,e5,e6⟩:=z04 e4
  clear e0 e2 e4
  refine⟨ρ,fx,dx,rs,e1,fun v H1 s1 r1=>⟨ρ,l,rs.mono s1,e3,fun H2 s2=>⟨ρ,u,rs.mono (s1.trans s2),e5,fun H3 s3=>?_⟩⟩⟩
  have ex:∃ ds,dx = .lst ds∧newL (cutD ds l u)=(f,d):=by
   cases dx<;>first|(rename_i ds;exact⟨ds,rfl,Option.some.inj e6⟩)|cases e6
  obtain⟨ds,rfl,e7⟩:=ex
  cases e7
  obtain⟨p,vs,rfl,_,q1,q2⟩:=(Rp.mono _ (s2.trans s3) r1.sh).items
  refine⟨p,vs,rfl,SqL.of q1,fun a ha=>k _ _ ((s1.trans (s2.trans s3)).trans (z0W ha)) ?_⟩
  have h1:Rps X.K emp (cutD ds l u) H3 (cutV vs l u):=by
   unfold cutD cutV
   rw[q2.length]
   exact Rps.take _ (Rps.drop _ q2)
  exact(z5A ha h1).early (s1.trans (s2.trans s3))
end
end L2

end
section
local macro_rules|`(tactic| omega)=>`(tactic| first|lia|omega +splitDisjunctions)
set_option Elab.async false
set_option linter.all false
set_option maxRecDepth 100000
namespace L2
open PySem PySem.Spec PyProof.Rows
def Walk(K:PySem.W.Frag)(J:It)(items:List Dt)(H1:Hp):Prop:=∀(A:List Addr) (H:Hp),Same H1 (hidL A H)→(∀ a∈A,∃ o,H a=some o) →
 (∀(i:Nat) (d:Dt),items[i]?=some d→J.go i H∧∀ x H',J.yld i H x H'→Same (hidL A H) (hidL A H')∧(∀ a∈A,H' a=H a)∧Rp K emp d (hidL A H') x)∧∀ i,items.length≤i→J.stop i H
abbrev FI:=Rho→Option (List Dt)
def upIK(Y:Ky)(F:FI):TI:=fun σ H R=>∃ ρ items,RepS Y H ρ σ∧F ρ=some items∧∀ J H',Same H H'→items.length≤sizeLine→Walk Y.K J items H'→R J H'
abbrev upI(X:Cx)(F:FI):TI:=upIK X.ky F
def PFI(X:Cx)(tg e:Expr)(F:FI):Prop:=PI X tg e (upI X F)
theorem PI.imp{X:Cx}{tg e:Expr}{t t':TI}(h:PI X tg e t)(q:∀ σ H Q,t' σ H Q→t σ H Q):PI X tg e t':=fun pins s σ H Q I z=>h pins s σ H Q I (q σ H Q z)
section
variable {X:Cx}{tg a b e:Expr}{Fa Fb Fe:FE}{pos:Pos}
theorem zgQ{K:PySem.W.Frag}{p:Addr}{ds:List Dt}{vs:List V}{H1:Hp}(h1:SqL K H1 p vs)(h2:Rps K emp ds H1 vs):Walk K (Itl K p) ds H1:=by
 intro A H sm hA
 have s2:Same H1 H:=sm.trans z0y
 refine⟨fun i d e=>?_,fun i hi=>⟨vs,s2.seq h1,by rw[h2.length];exact hi⟩⟩
 obtain⟨v,e1,e2⟩:=h2.get e
 refine⟨⟨vs,v,s2.seq h1,e1⟩,?_⟩
 rintro x H' ⟨z,y⟩
 subst z
 have hx:=y vs (s2.seq h1)
 rw[e1]at hx
 cases hx
 exact⟨Same.refl _,fun _ _=>rfl,Rp.mono _ sm e2⟩
theorem zi5{K:PySem.W.Frag}{p:Addr}{ds:List Dt}{vs:List V}{H1:Hp}(h1:SqT K H1 p vs)(h2:Rps K emp ds H1 vs):Walk K (Itt K p) ds H1:=by
 intro A H sm hA
 have s2:Same H1 H:=sm.trans z0y
 refine⟨fun i d e=>?_,fun i hi=>⟨vs,s2.seqT h1,by rw[h2.length];exact hi⟩⟩
 obtain⟨v,e1,e2⟩:=h2.get e
 refine⟨⟨vs,v,s2.seqT h1,e1⟩,?_⟩
 rintro x H' ⟨z,y⟩
 subst z
 have hx:=y vs (s2.seqT h1)
 rw[e1]at hx
 cases hx
 exact⟨Same.refl _,fun _ _=>rfl,Rp.mono _ sm e2⟩
def z1T(lo:Int)(n:Nat):List Dt:=(List.range n).map fun(k:Nat) => .int (lo+(k:Int))
theorem z5a{K:PySem.W.Frag}{lo:Int}{n:Nat}{H1:Hp}:Walk K (Itr lo n) (z1T lo n) H1:=by
 intro A H sm hA
 refine⟨fun i d e=>?_,fun i hi=>by unfold z1T at hi;rw[List.length_map,List.length_range]at hi;exact hi⟩
 unfold z1T at e
 rw[List.getElem?_map]at e
 have hi:i<n:=by
  by_cases hi:i<n
  · exact hi
  · rw[List.getElem?_eq_none (by simp;omega)]at e;cases e
 rw[List.getElem?_range hi]at e
 cases e
 refine⟨hi,fun x H' hZ=>hZ.elim fun z y=>?_⟩
 subst z;subst y
 exact⟨Same.refl _,fun _ _=>rfl,Rp.int_.mpr rfl⟩
def seqD:Dt→Option (List Dt)
 | .lst ds=>some ds
 | .tup ds=>some ds
 | _=>none
def iSeq(F:FE):FI:=fun ρ=>(F ρ).bind fun x=>seqD x.2
theorem z1Z(ha:PF X a Fa):PFI X tg a (iSeq Fa):=by
 intro pins s σ H R I ⟨ρ,items,rs,e0,k⟩
 obtain⟨⟨f,d⟩,e1,e2⟩:=z04 e0
 refine thn (ha pins s σ H (fun x H1=>Same H H1∧Rp X.K emp d H1 x) I ⟨ρ,f,d,rs,e1,fun v H1 s1 r1=>⟨s1,r1.sh⟩⟩) fun v s1 hZ=>hZ.elim fun x hZ=>hZ.elim fun H1 hZ=>hZ.elim fun I1 hZ=>hZ.elim fun r1 hZ=>hZ.elim fun sm rd=>?_
 cases d<;>first|cases e2|skip
 · rename_i ds
   obtain⟨p,vs,rfl,_,h1,h2⟩:=rd.items
   cases r1
   obtain⟨its,rv,pl,hz⟩:=I1.list (SqL.of (K:=X.K) h1)
   refine wpAny_pyIter_list pl.isList ?_
   refine⟨s1.heap.objs.size,[s1.heap.objs.size],_,_,H1,rfl,I1.kept (t':=s1.toks) fun b o e=>Heap.get?_push_of_some _ e,zgF p _,⟨_,Heap.get?_push_size _ rfl,rfl,rfl⟩,fun b hb=>?_,k _ H1 sm (by rw[←h2.length];exact hz) (zgQ (SqL.of h1) h2)⟩
   have e:b=s1.heap.objs.size:=by simpa using hb
   subst e
   exact I1.fpOk (Nat.le_refl _) (I1.hok.fresh (Nat.le_refl _))
 · rename_i ds
   obtain⟨p,vs,rfl,h1,h2⟩:=Rp.tup_.mp rd
   cases r1
   obtain⟨its,rv,pl,hz⟩:=I1.tuple h1
   refine wpAny_pyIter_tuple (show s1.heap.IsTuple p its.toArray from pl) ?_
   refine⟨s1.heap.objs.size,[s1.heap.objs.size],_,_,H1,rfl,I1.kept (t':=s1.toks) fun b o e=>Heap.get?_push_of_some _ e,zcG p _,⟨_,Heap.get?_push_size _ rfl,rfl,rfl⟩,fun b hb=>?_,k _ H1 sm (by rw[←h2.length];exact hz) (zi5 h1 h2)⟩
   have e:b=s1.heap.objs.size:=by simpa using hb
   subst e
   exact I1.fpOk (Nat.le_refl _) (I1.hok.fresh (Nat.le_refl _))
def z20(i:Int):Bool:=decide (-1000000≤i)&&decide (i≤1000000)
theorem zaz{i:Int}(h:z20 i=true): -1000000≤i∧i≤1000000:=by
 unfold z20 at h
 rw[Bool.and_eq_true]at h
 exact⟨of_decide_eq_true h.1,of_decide_eq_true h.2⟩
def z0s(F:FE):FI:=fun ρ=>(F ρ).bind fun x=>(intD x.2).bind fun j=>if z20 j then some (z1T 0 j.toNat) else none
theorem z5b{lo:Int}{n:Nat}:(z1T lo n).length=n:=by unfold z1T;simp
theorem z2r{d:Dt}{i:Int}(h:intD d=some i):d = .int i:=by
 cases d<;>first|cases h|skip
 rfl
theorem z2P{p:Pos}(hg:Gl X "range")(hm:X.mg "range" = none)(ha:PF X a Fa)(hs:starEach [a] X.env=[(false,eval a X.env)]:=by rfl):PFI X tg (.Call (.Name "range" p) [a] [] pos) (z0s Fa) :=
 (z97 hg hm (z3w ha z7I hs) hs).imp fun σ H R hZ=>hZ.elim fun ρ hZ=>hZ.elim fun items hZ=>hZ.elim fun rs hZ=>hZ.elim fun e0 k=>by
  obtain⟨⟨f,d⟩,e1,e2⟩:=z04 e0
  obtain⟨j,e3,e4⟩:=z04 e2
  clear e0 e2
  have ed:=z2r e3
  cases (show d = .int j from ed)
  split at e4
  · rename_i hr
    cases e4
    obtain⟨h1,h2⟩:=zaz hr
    refine⟨ρ,f,_,rs,e1,fun v H1 s1 r1=>⟨j,by rw[Rp.int_.mp r1.sh],by omega,by omega,k _ H1 s1 ?_ z5a⟩⟩
    rw[z5b]
    have:sizeLine=16777216:=rfl
    omega
  · cases e4
def z7r(F G:FE):FI:=fun ρ=>(F ρ).bind fun x=>(G ρ).bind fun y=>(intD x.2).bind fun i=>(intD y.2).bind fun j=>if z20 i&&z20 j then some (z1T i (j-i).toNat) else none
end
inductive Tg where
 | one (i:Nat)|many (is:List Nat)
def z1U:List Nat→TGs
 | []=>gNil
 | i::is=>gCons (z7F i) (z1U is)
def Tg.low(K:PySem.W.Frag):Tg→TG
 | .one i=>z7F i
 | .many is=>gTup K is.length (z1U is)
def z22:Rho→List Nat→List Dt→Rho
 | ρ,i::is,d::ds=>z22 (ρ.set i (.sh false d)) is ds
 | ρ,_,_=>ρ
def Tg.put:Tg→Dt→Rho→Option Rho
 | .one i,d,ρ=>some (ρ.set i (.sh false d))
 | .many is,.tup ds,ρ=>if ds.length=is.length then some (z22 ρ is ds) else none
 | .many _,_,_=>none
def Tg.below(nt:Nat):Tg→Prop
 | .one i=>i<nt
 | .many is=>∀ i∈is,i<nt
def KeepS(nt:Nat)(σ σ':St):Prop:=σ'.length=σ.length∧∀ i,nt≤i→σ'[i]?=σ[i]?
theorem KeepS.refl{nt:Nat}{σ:St}:KeepS nt σ σ:=⟨rfl,fun _ _=>rfl⟩
theorem KeepS.set{nt i:Nat}{σ:St}{v:V}(h:i<nt):KeepS nt σ (σ.set i (some v)):=⟨List.length_set,fun j hj=>List.getElem?_set_ne (by omega)⟩
theorem KeepS.trans{nt:Nat}{a b c:St}(h:KeepS nt a b)(k:KeepS nt b c):KeepS nt a c:=⟨k.1.trans h.1,fun i hi=>(k.2 i hi).trans (h.2 i hi)⟩
theorem z6T:∀{is:List Nat} {vs:List V} {σ:St} {H:Hp} {Q Q':St→Hp→Prop},z1U is vs σ H Q→(∀ σ H,Q σ H→Q' σ H)→z1U is vs σ H Q':=by
 intro is
 induction is with
 | nil=>intro vs σ H Q Q' ⟨e,q⟩ k;exact⟨e,k _ _ q⟩
 | cons j js ih=>intro vs σ H Q Q' ⟨v,r,e,q⟩ k;exact⟨v,r,e,ih q k⟩
theorem z9q{nt:Nat}:∀{is:List Nat} {vs:List V} {σ:St} {H:Hp} {Q:St→Hp→Prop},(∀ i∈is,i<nt)→z1U is vs σ H Q→z1U is vs σ H fun σ2 H2=>KeepS nt σ σ2∧Q σ2 H2
 | [],vs,σ,H,Q,_,⟨e,q⟩=>⟨e,KeepS.refl,q⟩
 | i::is,vs,σ,H,Q,hi,⟨v,r,e,q⟩=>by
  refine⟨v,r,e,?_⟩
  have q:z1U is r (σ.set i (some v)) H Q:=q
  have z:=z9q (nt:=nt) (fun j hj=>hi j (List.mem_cons_of_mem _ hj)) q
  show z1U is r (σ.set i (some v)) H _
  exact z6T z fun σ2 H2 hZ=>hZ.elim fun k1 k2=>⟨(KeepS.set (hi i List.mem_cons_self)).trans k1,k2⟩
theorem Tg.ok{K:PySem.W.Frag}{nt:Nat}{g:Tg}(h:g.below nt):TgOk nt (g.low K):=by
 intro x σ H Q q
 cases g with
 | one i=>exact⟨KeepS.set h,q⟩
 | many is =>
  obtain⟨a,xs,e,hq,hl,q⟩:=q
  exact⟨a,xs,e,hq,hl,z9q h q⟩
theorem Tg.low_mono{K:PySem.W.Frag}{g:Tg}{v:V}{σ:St}{H:Hp}{Q Q':St→Hp→Prop}(h:g.low K v σ H Q)(k:∀ σ H,Q σ H→Q' σ H):g.low K v σ H Q':=by
 cases g with
 | one i=>exact k _ _ h
 | many is =>
  obtain⟨a,xs,e,hq,hl,q⟩:=h
  exact⟨a,xs,e,hq,hl,z6T q k⟩
section
variable {Y:Ky}{H H':Hp}{ρ:Rho}{σ:St}
theorem RepS.set(h:RepS Y H ρ σ){i:Nat}{f:Bool}{d:Dt}{v:V}(r:Rp Y.K (bsOf Y f) d H v):RepS Y H (ρ.set i (.sh f d)) (σ.set i (some v)):=by
 refine⟨by rw[List.length_set,List.length_set];exact h.len,h.base,fun j c q=>?_⟩
 by_cases e:i=j
 · subst e
   rw[List.getElem?_set]at q ⊢
   rw[if_pos rfl]at q ⊢
   split at q
   · rename_i hl
     cases q
     rw[if_pos (by rw[←h.len];exact hl)]
     exact⟨_,rfl,v,rfl,r⟩
   · cases q
 · rw[List.getElem?_set_ne e]at q ⊢
   exact h.at_ j c q
theorem z7R{Hh:Hp}{ρ':Rho}:∀{is:List Nat} {ds:List Dt} {vs:List V} {ρ:Rho} {σ:St},RepS Y Hh ρ σ→Rps Y.K emp ds Hh vs→ds.length=is.length→z22 ρ is ds=ρ' →
  z1U is vs σ H fun σ' H'=>H'=H∧RepS Y Hh ρ' σ'
 | [],[],vs,ρ,σ,rs,r,hl,q=>⟨Rps.nil_.mp r,rfl,by rw[←q];exact rs⟩
 | [],d::ds,vs,ρ,σ,rs,r,hl,q=>by cases hl
 | i::is,[],vs,ρ,σ,rs,r,hl,q=>by cases hl
 | i::is,d::ds,vs,ρ,σ,rs,r,hl,q=>by
  obtain⟨v,r',rfl,h1,h2⟩:=Rps.cons_.mp r
  exact⟨v,r',rfl,z7R (rs.set (f:=false) h1) h2 (by simpa using hl) q⟩
theorem Tg.sim{Hh:Hp}{g:Tg}{d:Dt}{v:V}{ρ':Rho}(sm:Same Hh H)(rs:RepS Y Hh ρ σ)(r:Rp Y.K emp d Hh v)(h:g.put d ρ=some ρ'):
  g.low Y.K v σ H fun σ' H'=>H'=H∧RepS Y Hh ρ' σ':=by
 cases g with
 | one i=>cases h;exact⟨rfl,rs.set (f:=false) r⟩
 | many is =>
  cases d<;>first|cases h|skip
  rename_i ds
  replace h:(if ds.length=is.length then some (z22 ρ is ds) else none)=some ρ':=h
  split at h
  · rename_i hl
    obtain⟨a,vs,rfl,h1,h2⟩:=Rp.tup_.mp r
    exact⟨a,vs,rfl,sm.seqT h1,by rw[h2.length];exact hl,z7R rs h2 hl (Option.some.inj h)⟩
  · cases h
end
section
variable {X:Cx}{pos:Pos}
theorem z13{i:Nat}{x:Str}(hN:X.N.Nodup)(hi:X.N[i]?=some x)(hx:Loc X.env.scope x)(hf:X.fn x=true∨X.env.scope.names.lookup x=some .local):PG X (.Name x pos) ((Tg.one i).low X.K):=z1R hN hi hx hf
theorem z7S:PGs X [] (z1U []):=zlo
theorem z2g{e:Expr}{es:List Expr}{i:Nat}{is:List Nat}(h1:PG X e (z7F i))(h2:PGs X es (z1U is))(hs:(assignEach (e::es) X.env).map (·.2)=assign e X.env::(assignEach es X.env).map (·.2):=by rfl):PGs X (e::es) (z1U (i::is)):=zhC h1 h2 hs
theorem z7T{es:List Expr}{k:Nat}{is:List Nat}(hc:X.calm=true)(h:PGs X es (z1U is))(hn:(assignEach es X.env).length=is.length:=by rfl)(hst:(assignEach es X.env).findIdx? (·.1)=none:=by rfl):PG X (.Tuple es k pos) ((Tg.many is).low X.K):=pg_tup hc h hn hst
end
def z47(g:Tg)(Fc:FT)(Fe:FE)(ρ0:Rho):List Dt→Option (List Dv)
 | []=>some []
 | x::xs=>(g.put x ρ0).bind fun ρ1=>(Fc ρ1).bind fun b=>if b then(Fe ρ1).bind fun v=>(z47 g Fc Fe ρ0 xs).bind fun r=>some (v::r) else z47 g Fc Fe ρ0 xs
def z3Z:Cell→Cell
 | .no => .no
 | .ex => .no
 | .sh _ d => .sh false d
 | .ow _ ds => .sh false (.lst ds)
def sigD(nt:Nat)(js:List Nat)(ρ:Rho):Rho:=List.replicate nt Cell.no++js.map fun j=>match ρ[j]? with|some c=>z3Z c|none => .no
def z0k(nt:Nat)(js:List Nat)(Fi:FI)(g:Tg)(Fc:FT)(Fe:FE):FE:=fun ρ=>(Fi ρ).bind fun items=>(z47 g Fc Fe (sigD nt js ρ) items).bind fun vs=>some (if z2O vs then .nw else .tn,.lst (sndL vs))
theorem z6e{g:Tg}{Fc:FT}{Fe:FE}{ρ0:Rho}:∀{xs:List Dt} {vs:List Dv},z47 g Fc Fe ρ0 xs=some vs→vs.length≤xs.length
 | [],vs,h=>by cases h;exact Nat.le_refl _
 | x::xs,vs,h=>by
  unfold z47 at h
  obtain⟨ρ1,_,h⟩:=z04 h
  obtain⟨b,_,h⟩:=z04 h
  split at h
  · obtain⟨v,_,h⟩:=z04 h
    obtain⟨r,h1,h⟩:=z04 h
    cases h
    have:=z6e h1
    rw[List.length_cons,List.length_cons];omega
  · have:=z6e h
    rw[List.length_cons];omega
def PFTs(X:Cx)(ifs:List Expr)(F:FT):Prop:=PTs X ifs (upB X F)
def fYes:FT:=fun _=>some true
theorem z0Q{X:Cx}:PFTs X [] fYes:=fun pins s σ H Q I hZ=>hZ.elim fun ρ hZ=>hZ.elim fun b hZ=>hZ.elim fun rs hZ=>hZ.elim fun e k=>by cases e;exact zlC pins s σ H Q I (k H (Same.refl H))
theorem zi6{X:Cx}{c:Expr}{F:FT}(h:PFT X c F):PFTs X [c] F:=zlD h
theorem RpC.shS{Y:Ky}{H H1:Hp}{c:Cell}{o:Option V}(h:RpC Y H c o):RpC ⟨Y.K,H1⟩ H (z3Z c) o:=by
 cases c with
 | no=>trivial
 | ex=>trivial
 | sh f d=>obtain⟨v,q,r⟩:=h;exact⟨v,q,Rp.anti Same.emp d r⟩
 | ow f ds=>obtain⟨v,q,r⟩:=h;exact⟨v,q,Rp.anti Same.emp _ r⟩
theorem RepS.sigs{Y:Ky}{H H1:Hp}{ρ:Rho}{σ:St}{nt:Nat}{js:List Nat}(h:RepS Y H ρ σ)(hj:∀ j∈js,j<σ.length)(h1:Same H1 H):RepS ⟨Y.K,H1⟩ H (sigD nt js ρ) (sig nt js σ):=by
 unfold sigD sig
 refine⟨by simp,h1,fun i c q=>?_⟩
 by_cases hi:i<nt
 · rw[List.getElem?_append_left (by simpa using hi),List.getElem?_replicate,if_pos hi]at q
   cases q
   exact⟨none,by rw[List.getElem?_append_left (by simpa using hi),List.getElem?_replicate,if_pos hi],trivial⟩
 · rw[List.getElem?_append_right (by simp;omega),List.length_replicate,List.getElem?_map]at q
   rw[List.getElem?_append_right (by simp;omega),List.length_replicate,List.getElem?_map]
   cases ej:js[i-nt]? with
   | none=>rw[ej]at q;cases q
   | some j =>
    rw[ej]at q
    have hlt:=hj j (List.mem_of_getElem? ej)
    have hlt':j<ρ.length:=by rw[h.len];exact hlt
    rw[Option.map_some,List.getElem?_eq_getElem hlt']at q
    cases q
    obtain⟨o,e1,e2⟩:=h.at_ j _ (List.getElem?_eq_getElem hlt')
    refine⟨o,?_,e2.shS⟩
    rw[Option.map_some,e1];rfl
def frE(t:Hp→TE)(H1:Hp):TE:=fun σ H Q=>∃ A:List Addr,(∀ a∈A,(∃ vs,H a=some (.lst vs))∧H1 a=none)∧t H1 σ (hidL A H) fun v H'=>(∀ a∈A,H' a=none)→Q v (z11 A H H')
def frT(t:Hp→TT)(H1:Hp):TT:=fun σ H Q=>∃ A:List Addr,(∀ a∈A,(∃ vs,H a=some (.lst vs))∧H1 a=none)∧t H1 σ (hidL A H) fun v H'=>(∀ a∈A,H' a=none)→Q v (z11 A H H')
theorem PTs.frame{Y:Cx}{ifs:List Expr}{t:Hp→TT}(h:PTs Y ifs (t Y.H₀)):PTs Y ifs (frT t Y.H₀):=by
 intro pins s σ H Q I ⟨A,hA,z⟩
 refine thn (h _ s σ _ _ (I.hide hA) z) ?_
 rintro u s' ⟨H',J,q⟩
 obtain⟨hn,J'⟩:=I.unhide hA J
 exact⟨_,J',q hn⟩
theorem zaA{D:Addr}{H:Hp}{o:HO}:hidL [D] (upd H D o)=hidL [D] H:=funext fun b=>by
 by_cases q:b=D
 · subst q;rw[z2f (by simp),z2f (by simp)]
 · rw[z0l (by simpa using q),z0l (by simpa using q),z0q q]
theorem zi7{D:Addr}{H:Hp}(h:H D=none):hidL [D] H=H:=funext fun b=>by
 by_cases q:b=D
 · subst q;rw[z2f (by simp),h]
 · rw[z0l (by simpa using q)]
section
variable {X:Cx}{N:List Str}{scope:Scope}{nt:Nat}{js:List Nat}{tg elt iter:Expr}{ifs:List Expr}{Fi:FI}{g:Tg}{Fc:FT}{Fe:FE}{pos:Pos}
theorem RpFs.append{Y:Ky}{H H':Hp}:∀{xs ys:List Dv} {vs ws:List V},RpFs Y H xs H' vs→RpFs Y H ys H' ws→RpFs Y H (xs++ys) H' (vs++ws)
 | [],ys,vs,ws,h,h'=>by rw[show vs=[]from h];exact h'
 | x::xs,ys,vs,ws,⟨v,r,e,h1,h2⟩,h'=>⟨v,r++ws,by rw[e];rfl,h1,RpFs.append h2 h'⟩
def RpE(Y:Ky)(x:Dv)(H':Hp)(v:V):Prop:=if x.1.isFr then Rp Y.K Y.H₀ x.2 H' v else Rp Y.K emp x.2 H' v
def RpEs(Y:Ky):List Dv→Hp→List V→Prop
 | [],_,vs=>vs=[]
 | x::xs,H',vs=>∃ v r,vs=v::r∧RpE Y x H' v∧RpEs Y xs H' r
theorem RpE.of{Y:Ky}{H H':Hp}{x:Dv}{v:V}(h0:Same Y.H₀ H)(h:RpF Y H x.1 x.2 H' v):RpE Y x H' v:=by
 unfold RpE
 by_cases q:x.1.isFr=true
 · rw[if_pos q];exact h.fr h0 q
 · rw[if_neg q];exact h.sh
theorem RpE.mono{Y:Ky}{H H':Hp}{x:Dv}{v:V}(h:RpE Y x H v)(s:Same H H'):RpE Y x H' v:=by
 unfold RpE at h ⊢
 by_cases q:x.1.isFr=true
 · rw[if_pos q]at h ⊢;exact Rp.mono _ s h
 · rw[if_neg q]at h ⊢;exact Rp.mono _ s h
theorem RpEs.mono{Y:Ky}{H H':Hp}(s:Same H H'):∀{xs:List Dv} {vs:List V},RpEs Y xs H vs→RpEs Y xs H' vs
 | [],vs,h=>h
 | x::xs,vs,⟨v,r,e,h1,h2⟩=>⟨v,r,e,h1.mono s,RpEs.mono s h2⟩
theorem RpEs.append{Y:Ky}{H':Hp}:∀{xs ys:List Dv} {vs ws:List V},RpEs Y xs H' vs→RpEs Y ys H' ws→RpEs Y (xs++ys) H' (vs++ws)
 | [],ys,vs,ws,h,h'=>by rw[show vs=[]from h];exact h'
 | x::xs,ys,vs,ws,⟨v,r,e,h1,h2⟩,h'=>⟨v,r++ws,by rw[e];rfl,h1,RpEs.append h2 h'⟩
theorem RpEs.length{Y:Ky}{H':Hp}:∀{xs:List Dv} {vs:List V},RpEs Y xs H' vs→vs.length=xs.length
 | [],vs,h=>by rw[show vs=[]from h];rfl
 | x::xs,vs,⟨v,r,e,_,h2⟩=>by rw[e,List.length_cons,List.length_cons,RpEs.length h2]
theorem RpEs.sh{Y:Ky}{H':Hp}:∀{xs:List Dv} {vs:List V},RpEs Y xs H' vs→Rps Y.K emp (sndL xs) H' vs
 | [],vs,h=>Rps.nil_.mpr h
 | x::xs,vs,⟨v,r,e,h1,h2⟩=>by
  refine Rps.cons_.mpr ⟨v,r,e,?_,RpEs.sh h2⟩
  unfold RpE at h1
  split at h1
  · exact Rp.anti Same.emp _ h1
  · exact h1
theorem RpEs.fr{Y:Ky}{H':Hp}:∀{xs:List Dv} {vs:List V},z2O xs=true→RpEs Y xs H' vs→Rps Y.K Y.H₀ (sndL xs) H' vs
 | [],vs,_,h=>Rps.nil_.mpr h
 | x::xs,vs,q,⟨v,r,e,h1,h2⟩=>by
  unfold z2O at q
  rw[Bool.and_eq_true]at q
  refine Rps.cons_.mpr ⟨v,r,e,?_,RpEs.fr q.2 h2⟩
  unfold RpE at h1
  rw[if_pos q.1]at h1
  exact h1
theorem zg3{σ:St}{H:Hp}{Q:VK}(hj:∀ j∈js,j<σ.length)(h:upF X (z0k nt js Fi g Fc Fe) σ H Q):
   zfX nt js (upI X Fi) (g.low X.K) (frT fun H1=>upBK ⟨X.K,H1⟩ Fc) (frE fun H1=>upK ⟨X.K,H1⟩ Fe) σ H Q:=by
 obtain⟨ρ,f,d,rs,e0,k⟩:=h
 obtain⟨items,ei,e1⟩:=z04 e0
 obtain⟨vs0,ec,e2⟩:=z04 e1
 cases e2
 clear e0 e1
 refine⟨ρ,items,rs,ei,fun J H1 sm hsz wk D hD=>?_⟩
 have nD:H D=none:=sm.free hD
 refine⟨fun i m ys H2=>m=items.length-i∧H2 D=some (.lst ys)∧Same H1 (hidL [D] H2)∧∃ ds rest,RpEs ⟨X.K,H1⟩ ds (hidL [D] H2) ys∧z47 g Fc Fe (sigD nt js ρ) (items.drop i)=some rest∧ds++rest=vs0,⟨_,rfl,z0H,?_,[],vs0,rfl,ec,rfl⟩,?_⟩
 · rw[zaA,zi7 hD];exact Same.refl _
 rintro i m ys H2 ⟨rfl,e2,s2,ds,rest,r2,c2,es⟩
 obtain⟨w1,w2⟩:=wk [D] H2 s2 (fun a ha=>by rw[List.mem_singleton.mp ha];exact⟨_,e2⟩)
 by_cases hlt:i<items.length
 · obtain⟨x,hx⟩:∃ x,items[i]?=some x:=⟨_,List.getElem?_eq_getElem hlt⟩
   have hdrop:items.drop i=x::items.drop (i+1):=by
     rw[List.drop_eq_getElem_cons hlt]
     rw[List.getElem?_eq_getElem hlt]at hx
     cases hx;rfl
   rw[hdrop]at c2
   unfold z47 at c2
   obtain⟨ρ1,p1,c3⟩:=z04 c2
   obtain⟨b,p2,c4⟩:=z04 c3
   obtain⟨go,yl⟩:=w1 i x hx
   refine .inr ⟨go,fun xv H3 y3=>?_⟩
   obtain⟨s3,k3,r3⟩:=yl xv H3 y3
   have e3:H3 D=some (.lst ys):=by rw[k3 D (by simp)];exact e2
   have s13:Same H1 (hidL [D] H3):=s2.trans s3
   refine Tg.low_mono (Tg.sim (Y:=⟨X.K,H1⟩) (Hh:=hidL [D] H3) z0y ((rs.mono (sm.trans s13)).sigs hj s13) r3 p1) ?_
   rintro σ4 H4 ⟨eH,rs4⟩
   subst eH
   have own:∀{H':Hp},H' D=some (.lst ys)→∀ a∈[D],(∃ vs,H' a=some (.lst vs))∧H1 a=none:=fun{H'} z a ha=>by
     rw[List.mem_singleton.mp ha]
     exact⟨⟨ys,z⟩,hD⟩
   refine⟨[D],own e3,ρ1,b,rs4,p2,fun H5 s5 n5=>?_⟩
   have h5:hidL [D] (z11 [D] H4 H5)=H5:=z2M n5
   have e5:z11 [D] H4 H5 D=some (.lst ys):=by rw[z4F (by simp)];exact e3
   have m5:items.length-(i+1)<items.length-i:=by omega
   dsimp only
   cases b with
   | true =>
     rw[if_pos rfl]at c4 ⊢
     obtain⟨⟨fv,dv⟩,p3,c5⟩:=z04 c4
     obtain⟨rest',p4,c6⟩:=z04 c5
     cases c6
     have rs5:RepS ⟨X.K,H1⟩ H5 ρ1 σ4:=rs4.mono s5
     refine⟨[D],own e5,ρ1,fv,dv,by rw[h5];exact rs5,p3,fun v H6 s6 r6 n6=>?_⟩
     rw[h5]at s6 r6
     have h6:hidL [D] (z11 [D] (z11 [D] H4 H5) H6)=H6:=z2M n6
     have r2':RpEs ⟨X.K,H1⟩ ds H6 ys:=r2.mono (s3.trans (s5.trans s6))
     have hlen:ys.length<sizeLine:=by
       have a1:=z6e ec
       have a2:=r2.length
       rw[←es,List.length_append,List.length_cons]at a1
       omega
     refine⟨by rw[z4F (by simp)];exact e5,hlen,_,m5,rfl,z0H,?_,ds++[(fv,dv)],rest',?_,p4,by rw[List.append_assoc];exact es⟩
     · rw[zaA,h6];exact s13.trans (s5.trans s6)
     · rw[zaA,h6];exact r2'.append ⟨v,[],rfl,RpE.of rs5.base r6,rfl⟩
   | false =>
     rw[if_neg Bool.false_ne_true]at c4 ⊢
     refine⟨_,m5,rfl,e5,?_,ds,rest,?_,c4,es⟩
     · rw[h5];exact s13.trans s5
     · rw[h5];exact r2.mono (s3.trans s5)
 · have hd:items.drop i=[]:=List.drop_of_length_le (by omega)
   rw[hd]at c2
   cases c2
   rw[List.append_nil]at es
   subst es
   refine .inl ⟨w2 i (by omega),k _ H2 (sm.trans (s2.trans z0y)) ?_⟩
   by_cases q:z2O ds=true
   · rw[if_pos q]
     exact(Rp.lst_ (K:=X.K) (B:=H)).mpr ⟨D,ys,rfl,nD,e2,Rps.anti (show Same H H1 from sm) _ (r2.fr q)⟩
   · rw[if_neg q]
     exact⟨Rp.lst_.mpr ⟨D,ys,rfl,rfl,e2,r2.sh⟩,⟨_,rfl⟩,fun a e=>by cases e;exact nD⟩
theorem z1h(S:CompScope X N scope nt js)(hc:X.calm=true)(hi:PFI X tg iter Fi)(hg:∀ cl C fp s H,PG (z0P X N scope cl C fp s H) tg (g.low X.K))(hb:g.below nt)
  (hcs:∀ cl C fp s H,PFTs (z0P X N scope cl C fp s H) ifs Fc) (he:∀ cl C fp s H,PF (z0P X N scope cl C fp s H) elt Fe) (hj:∀ j∈js,j<X.N.length)
  (hs:∀ x,foldedSetIterable iter X.env x=pure x:=by intro _;rfl):PF X (.ListComp elt [⟨tg,iter,ifs,0⟩] scope pos) (z0k nt js Fi g Fc Fe):=by
 intro pins s σ H Q I h
 exact zlE S hc hi hg (Tg.ok hb) (fun cl C fp s H=>PTs.frame (t:=fun H1=>upBK ⟨X.K,H1⟩ Fc) (hcs cl C fp s H)) (fun cl C fp s H=>PE.frame (he cl C fp s H)) hs pins s σ H Q I (zg3 (fun j z=>by rw[I.len];exact hj j z) h)
end
end L2

end
section
set_option Elab.async false
set_option linter.all false
set_option maxRecDepth 100000
namespace L2
open PySem PySem.Spec PySem.W PyProof.Rows
def Fly(h0:Heap)(H:Hp)(e C:Addr)(h:Heap):Prop :=
 h0.get? e=none∧H e=none∧∃ oe vs T oT ts a0,h.get? e=some oe∧oe.cls = .ref C∧vs[0]?=some a0∧oe.data = .fields vs∧vs[1]?=some (.ref T)∧h0.get? T=none∧H T=none∧T≠e∧h.get? T=some oT∧oT.data = .fields ts∧ts[3]?=some .none
theorem zlN{l:List Env}{env:Env}{a:Addr}(h:env∈l)(e:env.frame=some a):a∈frs l:=List.mem_filterMap.mpr ⟨env,h,e⟩
theorem UpToSlots.trans{h h1 h2:Heap}(a:h.UpToSlots h1)(b:h1.UpToSlots h2):h.UpToSlots h2:=fun c o e n=>by
 obtain⟨sl,e1⟩:=a c o e n
 obtain⟨sl2,e2⟩:=b c _ e1 n
 exact⟨sl2,e2⟩
section
variable {P:Program}{w:World}{fs ex:List Addr}{H0 H:Hp}{h0 h h':Heap}{l:List Env}{bas:Heap}{e C:Addr}
theorem un_fly(u:Un fs ex H0 H h0 h)(k:∀ b o o',h0.get? b=some o→h.get? b=some o'→b ∉ frs l→h'.get? b=some o')(sl:∀ b∈frs l,∀ o,h.get? b=some o→∃ z,h'.get? b=some { o with slots:=z })
  (hf:∀ b∈frs l,b∈fs∨h0.get? b=none):Un fs ex H0 H h0 h' where
 keep:=fun b o q n hb hx=>k b o o q (u.keep b o q n hb hx) fun z=>(hf b z).elim hb fun e=>by rw[e]at q;cases q
 slot:=fun b o q n hb hx=>by
  obtain⟨z,e⟩:=u.slot b o q n hb hx
  by_cases m:b∈frs l
  · obtain⟨z',e'⟩:=sl b m _ e
    exact⟨z',e'⟩
  · exact⟨z,k b o _ q e m⟩
 free:=u.free
 there:=fun b o q hx=>by
  obtain⟨o',e⟩:=u.there b o q hx
  by_cases m:b∈frs l
  · obtain⟨z',e'⟩:=sl b m _ e
    exact⟨_,e'⟩
  · exact⟨_,k b o _ q e m⟩
 tups:=u.tups
 frzs:=u.frzs
 tbls:=u.tbls
theorem ObjOk.obj{a:Addr}{o:HO}(x:ObjOk P w H h a o):∃ ob,h.get? a=some ob:=by
 cases o with
 | lst xs=>obtain⟨_,_,_,_,e⟩:=x;exact⟨_,e⟩
 | tup xs=>obtain⟨_,_,_,_,e,_⟩:=x;exact⟨_,e⟩
 | dK kvs=>obtain⟨_,_,_,_,o,_,_,e,_⟩:=x;exact⟨_,e⟩
 | dT kvs=>obtain⟨_,_,_,_,o,_,_,e,_⟩:=x;exact⟨_,e⟩
 | set S n=>obtain⟨o,_,_,_,e,_⟩:=x;exact⟨_,e⟩
 | ins C dx fs=>obtain⟨_,_,_,e,_⟩:=x;exact⟨_,e⟩
 | own y=>obtain⟨_,e⟩:=x;exact⟨_,e⟩
 | xd fs=>obtain⟨_,⟨_,_,_,e,_⟩,_⟩:=x;exact⟨_,e⟩
 | rng lo hi=>obtain⟨_,_,_,e⟩:=x;exact⟨_,e⟩
 | frz ob u=>obtain⟨e,_⟩:=x;exact⟨_,e⟩
 | tbl ps=>exact⟨_,show h.get? a=some _ from x⟩
 | met f y=>exact⟨_,show h.get? a=some _ from x⟩
 | ext φ=>obtain⟨_,⟨_,e⟩,_⟩:=x;exact⟨_,e⟩
theorem zlO(hok:HOk P w H h)(k:∀ b o,H b≠none→h.get? b=some o→h'.get? b=some o):HOk P w H h':=fun b ob e =>
 (hok b ob e).stay (fun c v hc q=>k c v (by
  rcases hc with rfl|hc
  · rw[e];exact fun z=>nomatch z
  · rw[hc];exact fun z=>nomatch z) q) (fun _ q=>q) fun _ _ q=>q
theorem Fly.base(f:Fly h0 H e C h)(ff:h.FunFrames bas l):∃ T a0,h0.get? T=none∧H T=none∧(hideAll h (e::T::frs l)).FlyingW l e (.ref C) a0 h:=by
 obtain⟨n,n2,oe,vs,T,oT,ts,a0,q1,q2,q3,q4,q5,q6,q7,q8,q9,q10,q11⟩:=f
 refine⟨T,a0,q6,q7,fun b o z=>of_hideAll _ z,hideAll_none _ (by simp),funFrames_hide ff fun env he a ea=>by simp[zlN he ea],oe,vs,T,oT,ts,q1,⟨q2,q3⟩,q4,q5,hideAll_none _ (by simp),q8,q9,q10,q11⟩
theorem Fly.step{T:Addr}{l':List Env}{a0:Value}(n:h0.get? e=none)(n2:H e=none)(n3:h0.get? T=none)(n4:H T=none)(ff:h.FunFrames bas l)(st:∀ b∈frs l,H b=none)(hok:HOk P w H h)(u:Un fs ex H0 H h0 h)
   (f:(hideAll h (e::T::frs l)).FlyingW l' e (.ref C) a0 h') (us:h.UpToSlots h') (hf:∀ b∈frs l,b∈fs∨h0.get? b=none) (hx:∀ b o,h0.get? b=some o→b ∉ ex):Fly h0 H e C h'∧HOk P w H h'∧Un fs ex H0 H h0 h':=by
 have sl:∀ b∈frs l,∀ o,h.get? b=some o→∃ z,h'.get? b=some { o with slots:=z }:=fun b hb o q=>by
   obtain⟨_,o',q',nf⟩:=ff.mem hb
   rw[q]at q';cases q'
   exact us b o q nf
 have k:∀ b o,h.get? b=some o→b ∉ (e::T::frs l)→h'.get? b=some o:=fun b o q m=>f.1 b o (hideAll_get _ q m)
 obtain⟨s1,s2,s3,oe,vs,T',oT,ts,q1,⟨q2,q3⟩,q4,q5,q6,q7,q8,q9,q10⟩:=f
 have hT:T'=T∨h.get? T'=none:=by
   by_cases m:T'∈(e::T::frs l)
   · rcases List.mem_cons.mp m with z|m
     · exact absurd z q7
     · rcases List.mem_cons.mp m with z|m
       · exact .inl z
       · obtain⟨_,o,e1,nf⟩:=ff.mem m
         obtain⟨z,e2⟩:=sl T' m o e1
         rw[q8]at e2
         cases e2
         exact absurd q9 (nf ts)
   · refine .inr ?_
     cases z:h.get? T' with
     | none=>rfl
     | some o=>rw[hideAll_get _ z m]at q6;cases q6
 refine⟨⟨n,n2,oe,vs,T',oT,ts,a0,q1,q2,q3,q4,q5,?_,?_,q7,q8,q9,q10⟩,zlO hok fun b o hb q=>k b o q fun m=>?_,un_fly u (fun b o o' q q' m=>k b o' q' fun z=>?_) sl hf⟩
 · rcases hT with z|z
   · rw[z];exact n3
   · cases y:h0.get? T' with
     | none=>rfl
     | some o=>obtain⟨o',e'⟩:=u.there T' o y (hx T' o y);rw[z]at e';cases e'
 · rcases hT with z|z
   · rw[z];exact n4
   · cases y:H T' with
     | none=>rfl
     | some o =>
       obtain⟨ob,q⟩:=(hok T' o y).obj
       rw[z]at q;cases q
 · rcases List.mem_cons.mp m with z|m
   · exact hb (z ▸ n2)
   · rcases List.mem_cons.mp m with z|m
     · exact hb (z ▸ n4)
     · exact hb (st b m)
 · rcases List.mem_cons.mp z with z|z
   · rw[z,n]at q;cases q
   · rcases List.mem_cons.mp z with z|z
     · rw[z,n3]at q;cases q
     · exact m z
end
def CX1(P:Program)(w:World):CXT:=fun outer H s E e s' =>
 ∃ ea C H',e = .ref ea∧s'.os=s.os∧AllBare s'.gens∧Un (frs outer) [] H H' s.heap s'.heap∧HOk P w H' s'.heap∧Fly s.heap H' ea C s'.heap∧E (.ref C) none H'
section
variable {P:Program}{w:World}{K:PySem.W.Frag}{mg:Str→Option Value}{base:Heap}{N:List Str}{qual:Str}{scope:Scope}{f:Addr}{cd:Value}{A:Around}{outer:List Env}{s₀:Shared}{H₀:Hp}{E:XK}
end
def exN:Nat→Str
 | 0 => "HallError"
 | 1 => "NoHall"
 | 2 => "NoBasket"
 | 3 => "NoPlace"
 | 4 => "NoText"
 | 5 => "Unlike"
 | 6 => "TooMany"
 | _ => "NotWithin"
def XOk(X:Cx)(H₀:Hp)(C:Addr):Prop:=∃ E:XK,(∀ H,Same H₀ H→E (.ref C) none H)∧zar (CX1 X.prog X.w) X E ∧
 ∀(pins:List (Addr×Obj)) (σ:St) (H:Hp) (s s':Shared) (ea:Addr) (args:List Value),Inv X pins σ H s→s.heap.MadeExcOf s'.heap ea (.ref C) args→s'.os=s.os→s'.gens=s.gens→E (.ref C) none H→X.xe (.ref ea) s'
theorem XOk.base{X:Cx}{H₀ H1:Hp}{C:Addr}(h:XOk X H₀ C)(s:Same H₀ H1):XOk X H1 C:=by
 obtain⟨E,a,b,c⟩:=h
 exact⟨E,fun H z=>a H (s.trans z),b,c⟩
end L2

end
section
local macro_rules|`(tactic| omega)=>`(tactic| first|lia|omega +splitDisjunctions)
set_option Elab.async false
set_option linter.all false
set_option maxRecDepth 100000
namespace L2
open PySem PySem.Spec PyProof.Rows
abbrev Own:=List (Nat×Addr)
abbrev Own.adr(O:Own):List Addr:=O.map (·.2)
def CellB(X:Cx)(H:Hp)(O:Own)(i:Nat):Cell→Option V→Prop
 | .no,_=>True
 | .ex,o=>∃ a φ,o=some (.ref a)∧hidL O.adr H a=some (.ext φ)∧∀ h,φ h→ExcAt X.K a h
 | .sh f d,o=>∃ v,o=some v∧Rp X.K (bsOf X.ky f) d (hidL O.adr H) v
 | .ow f ds,o=>∃ a vs,(i,a)∈O∧o=some (.ref a)∧H a=some (.lst vs)∧Rps X.K (bsOf X.ky f) ds (hidL O.adr H) vs
structure RepO(X:Cx)(H₀ H:Hp)(O:Own)(ρ:Rho)(σ:St):Prop where
 ndA:O.adr.Nodup
 ndI:(O.map (·.1)).Nodup
 own:OwnL X O.adr H
 len:ρ.length=σ.length
 b0:Same X.H₀ H₀
 same:Same H₀ (hidL O.adr H)
 at_:∀(i:Nat) (c:Cell),ρ[i]?=some c→∃ o,σ[i]?=some o∧CellB X H O i c o
def RepB(X:Cx)(H₀ H:Hp)(ρ:Rho)(σ:St):Prop:=∃ O,RepO X H₀ H O ρ σ
def z32:Cell→Cell
 | .ow _ _ => .no
 | c=>c
def z1i:Rho→Rho
 | []=>[]
 | c::ρ=>z32 c::z1i ρ
theorem z9r:∀ ρ:Rho,z1i ρ=ρ.map z32
 | []=>rfl
 | c::ρ=>by rw[z1i,z9r ρ,List.map_cons]
section
variable {X:Cx}{H₀ H H':Hp}{O:Own}{ρ:Rho}{σ:St}
theorem RepO.mono(h:RepO X H₀ H O ρ σ)(sm:Same H H'):RepO X H₀ H' O ρ σ:=by
 refine⟨h.ndA,h.ndI,fun a ha=>?_,h.len,h.b0,h.same.trans (z0R sm),fun i c e=>?_⟩
 · obtain⟨⟨vs,q⟩,z⟩:=h.own a ha
   exact⟨⟨vs,sm _ _ q⟩,z⟩
 · obtain⟨o,e1,e2⟩:=h.at_ i c e
   refine⟨o,e1,?_⟩
   cases c with
   | no=>trivial
   | ex=>obtain⟨a,φ,q,r,z⟩:=e2;exact⟨a,φ,q,z0R sm _ _ r,z⟩
   | sh f d=>obtain⟨v,q,r⟩:=e2;exact⟨v,q,Rp.mono _ (z0R sm) r⟩
   | ow f ds=>obtain⟨a,vs,q1,q2,q3,r⟩:=e2;exact⟨a,vs,q1,q2,sm _ _ q3,Rps.mono _ (z0R sm) r⟩
theorem RepO.base(h:RepO X H₀ H O ρ σ){H1:Hp}(sm:Same H1 H₀)(b:Same X.H₀ H1):RepO X H1 H O ρ σ:=⟨h.ndA,h.ndI,h.own,h.len,b,sm.trans h.same,h.at_⟩
theorem RepO.below(h:RepO X H₀ H O ρ σ):Same X.H₀ H:=h.b0.trans (h.same.trans z0y)
theorem RepO.bsFree(h:RepO X H₀ H O ρ σ){a:Addr}(ha:a∈O.adr)(f:Bool):bsOf X.ky f a=none:=by
 cases f with
 | false=>rfl
 | true=>exact(h.own a ha).2
theorem z3C{i:Nat}{a:Addr}(h:(i,a)∈O):a∈O.adr:=List.mem_map.mpr ⟨_,h,rfl⟩
theorem RepO.all(h:RepO X H₀ H O ρ σ):RepS X.ky H ρ σ:=by
 refine⟨h.len,h.below,fun i c e=>?_⟩
 obtain⟨o,e1,e2⟩:=h.at_ i c e
 refine⟨o,e1,?_⟩
 cases c with
 | no=>trivial
 | ex=>obtain⟨a,φ,q,r,z⟩:=e2;exact⟨a,φ,q,z0y _ _ r,z⟩
 | sh f d=>obtain⟨v,q,r⟩:=e2;exact⟨v,q,Rp.mono _ z0y r⟩
 | ow f ds =>
  obtain⟨a,vs,q1,q2,q3,r⟩:=e2
  exact⟨_,q2,Rp.lst_.mpr ⟨a,vs,rfl,h.bsFree (z3C q1) f,q3,Rps.mono _ (z3h fun b hb=>by rw[List.mem_singleton.mp hb];exact z3C q1) r⟩⟩
theorem RepO.rest(h:RepO X H₀ H O ρ σ):RepS X.ky (hidL O.adr H) (z1i ρ) σ:=by
 rw[z9r]
 refine⟨by rw[List.length_map];exact h.len,h.b0.trans h.same,fun i c e=>?_⟩
 rw[List.getElem?_map]at e
 cases q:ρ[i]? with
 | none=>rw[q]at e;cases e
 | some c' =>
  rw[q]at e
  obtain⟨o,e1,e2⟩:=h.at_ i c' q
  refine⟨o,e1,?_⟩
  cases c' with
  | no=>cases e;trivial
  | ex=>cases e;exact e2
  | sh f d=>cases e;obtain⟨v,q,r⟩:=e2;exact⟨v,q,r⟩
  | ow f ds=>cases e;trivial
def z3j(O:Own)(i:Nat):Own:=O.filter fun p=>p.1 != i
theorem z23{p:Nat×Addr}{i:Nat}:p∈z3j O i↔p∈O∧p.1≠i:=by
 unfold z3j
 rw[List.mem_filter]
 simp
theorem z1p{i:Nat}:∀ a∈(z3j O i).adr,a∈O.adr:=fun a ha=>by
 obtain⟨p,hp,e⟩:=List.mem_map.mp ha
 exact List.mem_map.mpr ⟨p,(z23.mp hp).1,e⟩
theorem RepO.set(h:RepO X H₀ H O ρ σ){i:Nat}{f:Bool}{d:Dt}{v:V}(r:Rp X.K (bsOf X.ky f) d (hidL O.adr H) v):RepO X H₀ H (z3j O i) (ρ.set i (.sh f d)) (σ.set i (some v)):=by
 have sm:Same (hidL O.adr H) (hidL (z3j O i).adr H):=z3h z1p
 refine⟨h.ndA.sublist (List.Sublist.map _ (List.filter_sublist)),h.ndI.sublist (List.Sublist.map _ (List.filter_sublist)),fun a ha=>h.own a (z1p a ha),by rw[List.length_set,List.length_set];exact h.len,h.b0,h.same.trans sm,fun j c q=>?_⟩
 by_cases e:i=j
 · subst e
   rw[List.getElem?_set,if_pos rfl]at q
   rw[List.getElem?_set,if_pos rfl]
   split at q
   · rename_i hl
     cases q
     rw[if_pos (by rw[←h.len];exact hl)]
     exact⟨_,rfl,v,rfl,Rp.mono _ sm r⟩
   · cases q
 · rw[List.getElem?_set_ne e]at q ⊢
   obtain⟨o,e1,e2⟩:=h.at_ j c q
   refine⟨o,e1,?_⟩
   cases c with
   | no=>trivial
   | ex=>obtain⟨a,φ,q,r,z⟩:=e2;exact⟨a,φ,q,sm _ _ r,z⟩
   | sh f d=>obtain⟨v,q,r⟩:=e2;exact⟨v,q,Rp.mono _ sm r⟩
   | ow f ds=>obtain⟨a,vs,q1,q2,q3,r⟩:=e2;exact⟨a,vs,z23.mpr ⟨q1,fun z=>e z.symm⟩,q2,q3,Rps.mono _ sm r⟩
theorem z7U{D:Addr}{A:List Addr}{H:Hp}:hidL A (hidL [D] H)=hidL (D::A) H:=funext fun b=>by
 unfold hidL
 by_cases q1:b=D
 · subst q1;simp
 · by_cases q2:b∈A
   · simp[q1,q2]
   · simp[q1,q2]
theorem RepO.setNew(h:RepO X H₀ H' O ρ σ){i:Nat}{D:Addr}{f:Bool}{ds:List Dt}{vs:List V}(hi:i<ρ.length)(sm0:Same H' H)(hN:H' D=none)(hD:H D=some (.lst vs))(hn:D ∉ O.adr)(hX:X.H₀ D=none)
   (r:Rps X.K (bsOf X.ky f) ds (hidL (D::O.adr) H) vs):RepO X H₀ H ((i,D)::z3j O i) (ρ.set i (.ow f ds)) (σ.set i (some (.ref D))):=by
 have sub:∀ a∈(Own.adr ((i,D)::z3j O i)),a∈D::O.adr:=fun a ha=>by
   rcases List.mem_cons.mp ha with z|z
   · rw[z];exact List.mem_cons_self
   · exact List.mem_cons_of_mem _ (z1p a z)
 have sm:Same (hidL (D::O.adr) H) (hidL (Own.adr ((i,D)::z3j O i)) H):=z3h sub
 have sm1:Same H' (hidL [D] H):=fun b o e=>by
   rw[z0l (by rw[List.mem_singleton];rintro rfl;rw[hN]at e;cases e)];exact sm0 _ _ e
 have sm2:Same (hidL O.adr H') (hidL (D::O.adr) H):=by rw[←z7U];exact z0R sm1
 have nD:D ∉ (z3j O i).adr:=fun z=>hn (z1p D z)
 refine⟨List.nodup_cons.mpr ⟨nD,h.ndA.sublist (List.Sublist.map _ (List.filter_sublist))⟩,List.nodup_cons.mpr ⟨fun z=>?_,h.ndI.sublist (List.Sublist.map _ (List.filter_sublist))⟩,fun a ha=>?_,by rw[List.length_set,List.length_set];exact h.len,h.b0,h.same.trans (sm2.trans sm),fun j c q=>?_⟩
 · obtain⟨p,hp,e⟩:=List.mem_map.mp z
   exact(z23.mp hp).2 e
 · rcases List.mem_cons.mp ha with z|z
   · rw[z];exact⟨⟨vs,hD⟩,hX⟩
   · obtain⟨⟨ws,q⟩,z2⟩:=h.own a (z1p a z)
     exact⟨⟨ws,sm0 _ _ q⟩,z2⟩
 · by_cases e:i=j
   · subst e
     rw[List.getElem?_set,if_pos rfl,if_pos hi]at q
     rw[List.getElem?_set,if_pos rfl,if_pos (by rw[←h.len];exact hi)]
     cases q
     exact⟨_,rfl,D,vs,List.mem_cons_self,rfl,hD,Rps.mono _ sm r⟩
   · rw[List.getElem?_set_ne e]at q ⊢
     obtain⟨o,e1,e2⟩:=h.at_ j c q
     refine⟨o,e1,?_⟩
     cases c with
     | no=>trivial
     | ex=>obtain⟨a,φ,q,r,z⟩:=e2;exact⟨a,φ,q,(sm2.trans sm) _ _ r,z⟩
     | sh f d=>obtain⟨v,q,r⟩:=e2;exact⟨v,q,Rp.mono _ (sm2.trans sm) r⟩
     | ow f ds' =>
      obtain⟨a,vs',q1,q2,q3,r⟩:=e2
      exact⟨a,vs',List.mem_cons_of_mem _ (z23.mpr ⟨q1,fun z=>e z.symm⟩),q2,sm0 _ _ q3,Rps.mono _ (sm2.trans sm) r⟩
theorem zg4{O:Own}(nd:O.adr.Nodup):∀{p q:Nat×Addr},p∈O→q∈O→p.2=q.2→p=q:=by
 induction O with
 | nil=>intro p q hp;cases hp
 | cons o O ih =>
  intro p q hp hq e
  have nd:(o.2::O.map (·.2)).Nodup:=nd
  obtain⟨n1,n2⟩:=List.nodup_cons.mp nd
  rcases List.mem_cons.mp hp with hp|hp<;>rcases List.mem_cons.mp hq with hq|hq
  · rw[hp,hq]
  · exact absurd (List.mem_map.mpr ⟨q,hq,by rw[←e,hp]⟩) n1
  · exact absurd (List.mem_map.mpr ⟨p,hp,by rw[e,hq]⟩) n1
  · exact ih n2 hp hq e
theorem zlP{O:Own}(nd:(O.map (·.1)).Nodup):∀{p q:Nat×Addr},p∈O→q∈O→p.1=q.1→p=q:=by
 induction O with
 | nil=>intro p q hp;cases hp
 | cons o O ih =>
  intro p q hp hq e
  have nd:(o.1::O.map (·.1)).Nodup:=nd
  obtain⟨n1,n2⟩:=List.nodup_cons.mp nd
  rcases List.mem_cons.mp hp with hp|hp<;>rcases List.mem_cons.mp hq with hq|hq
  · rw[hp,hq]
  · exact absurd (List.mem_map.mpr ⟨q,hq,by rw[←e,hp]⟩) n1
  · exact absurd (List.mem_map.mpr ⟨p,hp,by rw[e,hq]⟩) n1
  · exact ih n2 hp hq e
theorem zcR{A:List Addr}{a:Addr}{o:HO}{H:Hp}(h:a∈A):hidL A (upd H a o)=hidL A H:=funext fun b=>by
 by_cases q:b∈A
 · rw[z2f q,z2f q]
 · rw[z0l q,z0l q,z0q fun z=>q (by rw[z];exact h)]
theorem RepO.upd(h:RepO X H₀ H O ρ σ){i:Nat}{a:Addr}{f g:Bool}{ds ds0:List Dt}{vs:List V}(hc:ρ[i]?=some (.ow g ds0))(hi:(i,a)∈O)(r:Rps X.K (bsOf X.ky f) ds (hidL O.adr H) vs):
   RepO X H₀ (upd H a (.lst vs)) O (ρ.set i (.ow f ds)) σ:=by
 have ha:a∈O.adr:=z3C hi
 have hh:hidL O.adr (L2.upd H a (.lst vs))=hidL O.adr H:=zcR ha
 have hlt:i<ρ.length:=by
   by_cases hlt:i<ρ.length
   · exact hlt
   · rw[List.getElem?_eq_none (by omega)]at hc;cases hc
 refine⟨h.ndA,h.ndI,fun b hb=>?_,by rw[List.length_set];exact h.len,h.b0,by rw[hh];exact h.same,fun j c q=>?_⟩
 · by_cases e:b=a
   · subst e;exact⟨⟨vs,z0H⟩,(h.own b hb).2⟩
   · rw[z0q e];exact h.own b hb
 · by_cases e:i=j
   · subst e
     rw[List.getElem?_set,if_pos rfl,if_pos hlt]at q
     cases q
     obtain⟨o,e1,a',vs',q1,q2,q3,r'⟩:=h.at_ i _ hc
     have e2:(i,a')=(i,a):=zlP h.ndI q1 hi rfl
     cases e2
     exact⟨o,e1,a,vs,hi,q2,z0H,by rw[hh];exact r⟩
   · rw[List.getElem?_set_ne e]at q
     obtain⟨o,e1,e2⟩:=h.at_ j c q
     refine⟨o,e1,?_⟩
     cases c with
     | no=>trivial
     | ex=>obtain⟨b,φ,q,r,z⟩:=e2;exact⟨b,φ,q,by rw[hh];exact r,z⟩
     | sh f d=>obtain⟨v,q,r⟩:=e2;exact⟨v,q,by rw[hh];exact r⟩
     | ow f ds' =>
      obtain⟨b,vs',q1,q2,q3,r'⟩:=e2
      have hne:b≠a:=fun z=>by
       have:=zg4 h.ndA q1 hi z
       exact e (congrArg Prod.fst this).symm
      exact⟨b,vs',q1,q2,by rw[z0q hne];exact q3,by rw[hh];exact r'⟩
def relC:Cell→Cell
 | .ow f ds => .sh f (.lst ds)
 | c=>c
def z9s(ρ:Rho)(i:Nat):Rho:=match ρ[i]? with|some c=>ρ.set i (relC c)|none=>ρ
def relS:List Nat→Rho→Rho
 | [],ρ=>ρ
 | i::is,ρ=>relS is (z9s ρ i)
theorem RepO.rel(h:RepO X H₀ H O ρ σ)(i:Nat):RepO X H₀ H (z3j O i) (z9s ρ i) σ:=by
 have sm:Same (hidL O.adr H) (hidL (z3j O i).adr H):=z3h z1p
 have hl:(z9s ρ i).length=ρ.length:=by
  unfold z9s
  split
  · exact List.length_set
  · rfl
 refine⟨h.ndA.sublist (List.Sublist.map _ (List.filter_sublist)),h.ndI.sublist (List.Sublist.map _ (List.filter_sublist)),fun a ha=>h.own a (z1p a ha),hl.trans h.len,h.b0,h.same.trans sm,fun j c q=>?_⟩
 have other:∀{c:Cell},ρ[j]?=some c→(∀ f ds,c = .ow f ds→j≠i)→∃ o,σ[j]?=some o∧CellB X H (z3j O i) j c o:=fun{c} q hne=>by
  obtain⟨o,e1,e2⟩:=h.at_ j c q
  refine⟨o,e1,?_⟩
  cases c with
  | no=>trivial
  | ex=>obtain⟨a,φ,q,r,z⟩:=e2;exact⟨a,φ,q,sm _ _ r,z⟩
  | sh f d=>obtain⟨v,q,r⟩:=e2;exact⟨v,q,Rp.mono _ sm r⟩
  | ow f ds=>obtain⟨a,vs,q1,q2,q3,r⟩:=e2;exact⟨a,vs,z23.mpr ⟨q1,hne f ds rfl⟩,q2,q3,Rps.mono _ sm r⟩
 unfold z9s at q
 cases e:ρ[i]? with
 | none =>
  rw[e]at q
  exact other q fun f ds _ z=>by rw[z,e]at q;cases q
 | some c' =>
  rw[e]at q
  dsimp only at q
  by_cases hij:i=j
  · subst hij
    have hlt:i<ρ.length:=by
     by_cases hlt:i<ρ.length
     · exact hlt
     · rw[List.getElem?_eq_none (by omega)]at e;cases e
    rw[List.getElem?_set,if_pos rfl,if_pos hlt]at q
    cases q
    cases c' with
    | no=>obtain⟨o,e1,e2⟩:=h.at_ i _ e;exact⟨o,e1,trivial⟩
    | ex=>exact other e fun f ds z=>by cases z
    | sh f d=>exact other e fun f ds z=>by cases z
    | ow f ds =>
     obtain⟨o,e1,a,vs,q1,q2,q3,r⟩:=h.at_ i _ e
     have hna:a ∉ (z3j O i).adr:=fun z=>by
       obtain⟨p,hp,ep⟩:=List.mem_map.mp z
       have:=zg4 h.ndA (z23.mp hp).1 q1 ep
       exact(z23.mp hp).2 (by rw[this])
     refine⟨o,e1,.ref a,q2,Rp.lst_.mpr ⟨a,vs,rfl,h.bsFree (z3C q1) f,by rw[z0l hna];exact q3,Rps.mono _ ?_ r⟩⟩
     rw[z7L,z7U]
     refine z3h fun b hb=>?_
     rcases List.mem_cons.mp hb with z|z
     · rw[z];exact z3C q1
     · exact z1p b z
  · rw[List.getElem?_set_ne hij]at q
    exact other q fun f ds _ z=>hij z.symm
theorem RepO.rels(h:RepO X H₀ H O ρ σ):∀ is:List Nat,∃ O',RepO X H₀ H O' (relS is ρ) σ:=fun is=>by
 induction is generalizing O ρ with
 | nil=>exact⟨O,h⟩
 | cons i is ih=>exact ih (h.rel i)
end
inductive Oc where
 | nx (ρ:Rho)|rt (f:Fl) (d:Dt)|bk (ρ:Rho)|ct (ρ:Rho)|ex (n:Nat)
def OcOk(X:Cx)(H₀:Hp)(D:Ends):Oc→Prop
 | .nx ρ=>∀ σ H,RepB X H₀ H ρ σ→D.nx σ H
 | .rt f d=>∀ v H,Same H₀ H→Rp X.K (bsOf X.ky f.isFr) d H v→D.rt v H
 | .bk ρ=>∀ σ H,RepB X H₀ H ρ σ→D.bk σ H
 | .ct ρ=>∀ σ H,RepB X H₀ H ρ σ→D.ct σ H
 | .ex n=>∀ C,X.mg (exN n)=some (.ref C)→XOk X H₀ C
abbrev FS:=Rho→Option Oc
def upS(X:Cx)(F:FS):TS:=fun D σ H=>∃ H₀ ρ oc,RepB X H₀ H ρ σ∧F ρ=some oc∧OcOk X H₀ D oc
def PFS(X:Cx)(st:Stmt)(F:FS):Prop:=PS X st (upS X F)
def PFSs(X:Cx)(sts:List Stmt)(F:FS):Prop:=PSs X sts (upS X F)
theorem PS.imp{X:Cx}{st:Stmt}{t t':TS}(h:PS X st t)(q:∀ D σ H,t' D σ H→t D σ H):PS X st t':=fun pins s σ H D I z=>h pins s σ H D I (q D σ H z)
theorem PSs.imp{X:Cx}{st:List Stmt}{t t':TS}(h:PSs X st t)(q:∀ D σ H,t' D σ H→t D σ H):PSs X st t':=fun pins s σ H D I z=>h pins s σ H D I (q D σ H z)
section
variable {X:Cx}{st:Stmt}{rest:List Stmt}{F G:FS}{e:Expr}{Fe:FE}{pos:Pos}
def z0M:FS:=fun ρ=>some (.nx ρ)
def seqO(G:FS):Oc→Option Oc
 | .nx ρ=>G ρ
 | o=>some o
def sSeq(F G:FS):FS:=fun ρ=>(F ρ).bind (seqO G)
theorem z0K:PFSs X [] z0M:=zlm.imp (by rintro D σ H ⟨H₀,ρ,oc,rb,e,k⟩;cases e;exact k σ H rb)
theorem z0a(h:PFS X st F):PFSs X [st] F:=zln h
theorem z05(h1:PFS X st F)(h2:PFSs X rest G):PFSs X (st::rest) (sSeq F G):=(zhB h1 h2).imp fun D σ H hZ=>hZ.elim fun H₀ hZ=>hZ.elim fun ρ hZ=>hZ.elim fun oc hZ=>hZ.elim fun rb hZ=>hZ.elim fun e k=>by
 obtain⟨o1,e1,e2⟩:=z04 e
 refine⟨H₀,ρ,o1,rb,e1,?_⟩
 cases o1 with
 | nx ρ'=>exact fun σ' H' rb'=>⟨H₀,ρ',oc,rb',e2,k⟩
 | rt f d=>cases e2;exact k
 | ex C=>cases e2;exact k
 | bk ρ'=>cases e2;exact k
 | ct ρ'=>cases e2;exact k
def z6f:FS:=fun _=>none
theorem z5C:PFS X st z6f:=fun pins s σ H D I hZ=>hZ.elim fun H₀ hZ=>hZ.elim fun ρ hZ=>hZ.elim fun oc hZ=>hZ.elim fun rb hZ=>hZ.elim fun e k=>by cases e
def sRet(F:FE):FS:=fun ρ=>(F ρ).map fun x => .rt x.1 x.2
theorem z0m(he:PF X e Fe):PFS X (.Return (some e) pos) (sRet Fe):=(ps_ret he).imp fun D σ H ⟨H₀,ρ,oc,⟨O,rb⟩,e0,k⟩=>by
 unfold sRet at e0
 cases h:Fe ρ with
 | none=>rw[h]at e0;cases e0
 | some x =>
  rw[h]at e0
  cases e0
  refine⟨ρ,x.1,x.2,rb.all,h,fun v H' sm r=>k v H' (rb.same.trans (z0y.trans sm)) ?_⟩
  by_cases q:x.1.isFr=true
  · rw[q];exact r.fr rb.below q
  · rw[show x.1.isFr=false by simpa using q];exact r.sh
def sIf(c:FT)(F G:FS):FS:=fun ρ=>(c ρ).bind fun b=>if b then F ρ else G ρ
theorem s_if{c:Expr}{a b:List Stmt}{Fc:FT}(hc:PFT X c Fc)(ha:PFSs X a F)(hb:PFSs X b G):PFS X (.If c a b pos) (sIf Fc F G):=(ps_if hc ha hb).imp fun D σ H ⟨H₀,ρ,oc,⟨O,rb⟩,e0,k⟩=>by
 obtain⟨z,e1,e2⟩:=z04 e0
 refine⟨ρ,z,rb.all,e1,fun H' sm=>?_⟩
 dsimp only
 cases z with
 | true=>rw[if_pos rfl]at e2 ⊢;exact⟨H₀,ρ,oc,⟨O,rb.mono sm⟩,e2,k⟩
 | false=>rw[if_neg Bool.false_ne_true]at e2 ⊢;exact⟨H₀,ρ,oc,⟨O,rb.mono sm⟩,e2,k⟩
def z54(F:FE):FS:=fun ρ=>(F ρ).map fun _ => .nx ρ
theorem z7V(he:PF X e Fe)(hs:swapsWith e none pos.line X.env=pure false:=by rfl):PFS X (.Expr e pos) (z54 Fe):=(zaq he hs).imp fun D σ H ⟨H₀,ρ,oc,⟨O,rb⟩,e0,k⟩=>by
 unfold z54 at e0
 cases h:Fe ρ with
 | none=>rw[h]at e0;cases e0
 | some x =>
  rw[h]at e0
  cases e0
  exact⟨ρ,x.1,x.2,rb.all,h,fun v H' sm r=>k σ H' ⟨O,rb.mono sm⟩⟩
def AsgF(X:Cx)(st:Stmt)(i:Nat)(F:FE):Prop:=PS X st (tAsg (upF X F) (z7F i))
theorem z08{i:Nat}{x:Str}{pos':Pos}(he:PF X e Fe)(hN:X.N.Nodup)(hi:X.N[i]?=some x)(hx:Loc X.env.scope x)(hs:swapsWith e (some (.Name x pos')) pos.line X.env=pure false)(hf:X.fn x=true∨X.env.scope.names.lookup x=some .local):
 AsgF X (.Assign [.Name x pos'] e pos) i Fe:=zhF hN hi hx he hs hf
theorem z3k{N:List Str}{scope:Scope}{nt:Nat}{js:List Nat}{tg elt iter:Expr}{ifs:List Expr}{Fi:FI}{g:Tg}{Fc:FT}{i:Nat}{x:Str}{pos' spos:Pos}(hN:X.N.Nodup)(hix:X.N[i]?=some x)(hx:X.env.scope.names.lookup x=some .local)
  (hsw:swapsWith (.ListComp elt [⟨tg,iter,ifs,0⟩] scope pos) (some (.Name x pos')) spos.line X.env=pure true)
  (S:CompScope X N scope nt js) (hc:X.calm=true) (hi:PFI X tg iter Fi) (hg:∀ cl C fp s H,PG (z0P X N scope cl C fp s H) tg (g.low X.K)) (hb:g.below nt)
  (hcs:∀ cl C fp s H,PFTs (z0P X N scope cl C fp s H) ifs Fc) (he:∀ cl C fp s H,PF (z0P X N scope cl C fp s H) elt Fe) (hj:∀ j∈js,j<X.N.length)
  (hs:∀ x,foldedSetIterable iter X.env x=pure x:=by intro _;rfl):AsgF X (.Assign [.Name x pos'] (.ListComp elt [⟨tg,iter,ifs,0⟩] scope pos) spos) i (z0k nt js Fi g Fc Fe):=by
 intro pins s σ H D I h
 exact zlF hN hix hx S hc hi hg (Tg.ok hb) (fun cl C fp s H=>PTs.frame (t:=fun H1=>upBK ⟨X.K,H1⟩ Fc) (hcs cl C fp s H)) (fun cl C fp s H=>PE.frame (he cl C fp s H)) hsw hs pins s σ H D I
  (zg3 (fun j z=>by rw[I.len];exact hj j z) h)
def sSet(rels:List Nat)(i:Nat)(F:FE):FS:=fun ρ=>(F (z1i (relS rels ρ))).map fun x => .nx ((relS rels ρ).set i (.sh x.1.isFr x.2))
theorem z0i{rels:List Nat}{i:Nat}(ha:AsgF X st i Fe):PFS X st (sSet rels i Fe):=(PS.frame ha).imp fun D σ H ⟨H₀,ρ,oc,⟨O,rb⟩,e0,k⟩=>by
 unfold sSet at e0
 cases h:Fe (z1i (relS rels ρ)) with
 | none=>rw[h]at e0;cases e0
 | some x =>
  rw[h]at e0
  cases e0
  obtain⟨O',rb'⟩:=rb.rels rels
  refine⟨O'.adr,rb'.own,z1i (relS rels ρ),x.1,x.2,rb'.rest,h,fun v H' sm r hn=>?_⟩
  have hg:hidL O'.adr (z11 O'.adr H H')=H':=z2M hn
  have rb2:RepO X H₀ (z11 O'.adr H H') O' (relS rels ρ) σ:=rb'.mono (Same.glue sm hn)
  refine k _ _ ⟨_,rb2.set (f:=x.1.isFr) ?_⟩
  rw[hg]
  by_cases q:x.1.isFr=true
  · rw[q];exact r.fr (rb'.b0.trans rb'.same) q
  · rw[show x.1.isFr=false by simpa using q];exact r.sh
def z33(i:Nat)(F:FE):FS:=fun ρ=>(F ρ).bind fun x=>if x.1.isNw then some (.nx (ρ.set i (.sh true x.2))) else none
theorem zi8{H H':Hp}{O:Own}{f:Fl}{d:Dt}{v:V}(ho:OwnL X O.adr H)(sm:Same H H')(q:f.isNw=true)(r:RpF X.ky H f d H' v):Rp X.K H d (hidL O.adr H') v:=by
 cases f<;>first|cases q|skip
 refine Rp.hid (fun b hb=>?_) d (fun b hb o e=>?_) r
 · obtain⟨⟨vs,z⟩,_⟩:=ho b hb
   rw[z];exact fun w=>nomatch w
 · obtain⟨⟨vs,z⟩,_⟩:=ho b hb
   rw[sm _ _ z]at e
   cases e
   exact⟨vs,rfl⟩
theorem zaB{i:Nat}(ha:AsgF X st i Fe):PFS X st (z33 i Fe):=PS.imp ha fun D σ H ⟨H₀,ρ,oc,⟨O,rb⟩,e0,k⟩=>by
 obtain⟨x,e1,e2⟩:=z04 e0
 split at e2
 · rename_i q
   cases e2
   refine⟨ρ,x.1,x.2,rb.all,e1,fun v H' sm r=>k _ _ ⟨_,(rb.mono sm).set (f:=true) ?_⟩⟩
   exact Rp.anti rb.below _ (zi8 rb.own sm q r)
 · cases e2
def sOwn(i:Nat)(F:FE):FS:=fun ρ=>(F (z1i ρ)).bind fun x=>match x with
 | (.nw,.lst ds)=>if i<ρ.length then some (.nx (ρ.set i (.ow true ds))) else none
 | (.tn,.lst ds)=>if i<ρ.length then some (.nx (ρ.set i (.ow false ds))) else none
 | _=>none
theorem zbs{i:Nat}(ha:AsgF X st i Fe):PFS X st (sOwn i Fe):=(PS.frame ha).imp fun D σ H ⟨H₀,ρ,oc,⟨O,rb⟩,e0,k⟩=>by
 obtain⟨x,e1,e2⟩:=z04 e0
 refine⟨O.adr,rb.own,z1i ρ,x.1,x.2,rb.rest,e1,fun v H' sm r hn=>?_⟩
 have hg:hidL O.adr (z11 O.adr H H')=H':=z2M hn
 have sg:Same H (z11 O.adr H H'):=Same.glue sm hn
 have new:∀{f:Bool} {ds:List Dt} {D:Addr} {vs:List V},hidL O.adr H D=none→H' D=some (.lst vs)→Rps X.K (bsOf X.ky f) ds (hidL [D] H') vs→i<ρ.length→RepB X H₀ (z11 O.adr H H') (ρ.set i (.ow f ds)) (σ.set i (some (.ref D))):=by
   intro f ds D vs hD hv hr hi
   have nO:D ∉ O.adr:=fun z=>by rw[hn D z]at hv;cases hv
   have hH:H D=none:=by rw[z0l nO]at hD;exact hD
   refine⟨_,rb.setNew hi sg hH (by rw[z0U nO];exact hv) nO (rb.below.free hH) ?_⟩
   rw[←z7U,z7L,hg]
   exact hr
 split at e2
 · rename_i ds
   split at e2
   · rename_i hi
     cases e2
     obtain⟨D,vs,rfl,h0,h1,h2⟩:=(Rp.lst_ (K:=X.K)).mp (show Rp X.K (hidL O.adr H) (.lst ds) H' v from r)
     exact k _ _ (new (f:=true) h0 h1 (Rps.anti (rb.b0.trans rb.same) _ h2) hi)
   · cases e2
 · rename_i ds
   split at e2
   · rename_i hi
     cases e2
     obtain⟨D,vs,rfl,h0,h1,h2⟩:=Rp.lst_.mp r.1
     exact k _ _ (new (f:=false) (r.2.2 D rfl) h1 h2 hi)
   · cases e2
 · cases e2
def sOwnA(i:Nat)(F:FE):FS:=fun ρ=>(F ρ).bind fun x=>match x with
 | (.nw,.lst ds)=>if i<ρ.length then some (.nx (ρ.set i (.ow true ds))) else none
 | _=>none
def z16(c:FT)(F:FS):Nat→FS
 | 0,_=>none
 | n+1,ρ=>(c ρ).bind fun b=>if b then(F ρ).bind fun oc=>match oc with|.nx ρ'=>z16 c F n ρ'|.ct ρ'=>z16 c F n ρ'|.bk ρ'=>some (.nx ρ')|.rt f d=>some (.rt f d)|.ex C=>some (.ex C) else some (.nx ρ)
open Classical in
noncomputable def z24(c:FT)(F:FS):FS:=fun ρ=>if h:∃ n o,z16 c F n ρ=some o then some (choose (choose_spec h)) else none
theorem z34{c:FT}{F:FS}:∀{n m:Nat} {ρ:Rho} {o:Oc},n≤m→z16 c F n ρ=some o→z16 c F m ρ=some o
 | 0,m,ρ,o,_,h=>by cases h
 | n+1,0,ρ,o,hl,h=>by omega
 | n+1,m+1,ρ,o,hl,h=>by
  unfold z16 at h ⊢
  obtain⟨b,e1,e2⟩:=z04 h
  rw[e1]
  show(if b=true then _ else _)=_
  cases b with
  | false=>exact e2
  | true =>
   rw[if_pos rfl]at e2 ⊢
   obtain⟨oc,e3,e4⟩:=z04 e2
   rw[e3]
   cases oc with
   | nx ρ'=>exact z34 (by omega) e4
   | ct ρ'=>exact z34 (by omega) e4
   | bk ρ'=>exact e4
   | rt f d=>exact e4
   | ex C=>exact e4
theorem z3l{c:FT}{F:FS}{n:Nat}{ρ:Rho}{o:Oc}(h:z16 c F n ρ=some o):z24 c F ρ=some o:=by
 have hx:∃ n o,z16 c F n ρ=some o:=⟨n,o,h⟩
 unfold z24
 rw[dif_pos hx]
 have z:=Classical.choose_spec (Classical.choose_spec hx)
 have a:=z34 (Nat.le_max_left n (Classical.choose hx)) h
 have b:=z34 (Nat.le_max_right n (Classical.choose hx)) z
 rw[a]at b
 exact b.symm
theorem zgR{c:FT}{F:FS}{ρ:Rho}{o:Oc}(h:z24 c F ρ=some o):∃ n,z16 c F n ρ=some o:=by
 unfold z24 at h
 split at h
 · rename_i hx
   cases h
   exact⟨_,Classical.choose_spec (Classical.choose_spec hx)⟩
 · cases h
theorem z7s{c:Expr}{body:List Stmt}{Fc:FT}(hp:PassesOwn (model X.prog X.w) X.A X.env X.xe)(hc:PFT X c Fc)(hb:PFSs X body F):PFS X (.While c body [] pos) (z24 Fc F):=(zhG hp hc hb).imp fun D σ H hZ=>hZ.elim fun H₀ hZ=>hZ.elim fun ρ hZ=>hZ.elim fun oc hZ=>hZ.elim fun rb hZ=>hZ.elim fun e0 k=>by
 obtain⟨n0,e1⟩:=zgR e0
 refine⟨fun m σ' H'=>∃ ρ',RepB X H₀ H' ρ' σ'∧z16 Fc F m ρ'=some oc,⟨n0,ρ,rb,e1⟩,?_⟩
 rintro m σ' H' ⟨ρ',⟨O,rb'⟩,w'⟩
 cases m with
 | zero=>cases w'
 | succ n =>
  unfold z16 at w'
  obtain⟨z,p1,p2⟩:=z04 w'
  refine⟨ρ',z,rb'.all,p1,fun H2 sm=>?_⟩
  dsimp only
  cases z with
  | false =>
   rw[if_neg Bool.false_ne_true]at p2 ⊢
   cases p2
   exact k _ _ ⟨O,rb'.mono sm⟩
  | true =>
   rw[if_pos rfl]at p2 ⊢
   obtain⟨oc',p3,p4⟩:=z04 p2
   refine⟨fun σ' H'=>∃ ρ'',RepB X H₀ H' ρ'' σ'∧z16 Fc F n ρ''=some oc,fun σ3 H3 hZ=>hZ.elim fun ρ3 hZ=>hZ.elim fun rb3 w3=>⟨n,Nat.lt_succ_self n,ρ3,rb3,w3⟩,H₀,ρ',oc',⟨O,rb'.mono sm⟩,p3,?_⟩
   cases oc' with
   | nx ρ3=>exact fun σ3 H3 rb3=>⟨ρ3,rb3,p4⟩
   | ct ρ3=>exact fun σ3 H3 rb3=>⟨ρ3,rb3,p4⟩
   | bk ρ3=>cases p4;exact k
   | rt f d=>cases p4;exact k
   | ex C=>cases p4;exact k
def forF(g:Tg)(F:FS):List Dt→FS
 | [],ρ=>some (.nx ρ)
 | x::xs,ρ=>(g.put x ρ).bind fun ρ2=>(F ρ2).bind fun oc=>match oc with|.nx ρ'=>forF g F xs ρ'|.ct ρ'=>forF g F xs ρ'|.bk ρ'=>some (.nx ρ')|.rt f d=>some (.rt f d)|.ex C=>some (.ex C)
def sFor(rels:List Nat)(Fi:FI)(g:Tg)(F:FS):FS:=fun ρ=>(Fi (z1i (relS rels ρ))).bind fun items=>forF g F items (relS rels ρ)
end
section
variable {X:Cx}{H₀ H H':Hp}{O:Own}{ρ ρ':Rho}{σ:St}
theorem z6U:∀{is:List Nat} {ds:List Dt} {vs:List V} {O:Own} {ρ:Rho} {σ:St},RepO X H₀ H O ρ σ→Rps X.K emp ds (hidL O.adr H) vs→ds.length=is.length→z22 ρ is ds=ρ' →
  z1U is vs σ H fun σ' H'=>H'=H∧∃ O',RepO X H₀ H O' ρ' σ'
 | [],[],vs,O,ρ,σ,rs,r,hl,q=>⟨Rps.nil_.mp r,rfl,O,by rw[←q];exact rs⟩
 | [],d::ds,vs,O,ρ,σ,rs,r,hl,q=>by cases hl
 | i::is,[],vs,O,ρ,σ,rs,r,hl,q=>by cases hl
 | i::is,d::ds,vs,O,ρ,σ,rs,r,hl,q=>by
  obtain⟨v,r',rfl,h1,h2⟩:=Rps.cons_.mp r
  exact⟨v,r',rfl,z6U (rs.set (f:=false) h1) (Rps.mono _ (z3h z1p) h2) (by simpa using hl) q⟩
theorem Tg.simO{g:Tg}{d:Dt}{v:V}(rs:RepO X H₀ H O ρ σ)(r:Rp X.K emp d (hidL O.adr H) v)(h:g.put d ρ=some ρ'):
  g.low X.K v σ H fun σ' H'=>H'=H∧∃ O',RepO X H₀ H O' ρ' σ':=by
 cases g with
 | one i=>cases h;exact⟨rfl,_,rs.set (f:=false) r⟩
 | many is =>
  cases d<;>first|cases h|skip
  rename_i ds
  replace h:(if ds.length=is.length then some (z22 ρ is ds) else none)=some ρ':=h
  split at h
  · rename_i hl
    obtain⟨a,vs,rfl,h1,h2⟩:=Rp.tup_.mp r
    exact⟨a,vs,rfl,z0y.seqT h1,by rw[h2.length];exact hl,z6U rs h2 hl (Option.some.inj h)⟩
  · cases h
end
section
variable {X:Cx}{tg iter:Expr}{body:List Stmt}{Fi:FI}{g:Tg}{F:FS}{pos:Pos}
theorem z7W{rels:List Nat}(hp:PassesOwn (model X.prog X.w) X.A X.env X.xe)(hc:X.calm=true)(hi:PFI X tg iter Fi)(hg:PG X tg (g.low X.K))(hb:PFSs X body F)
   (hs:∀ x,foldedSetIterable iter X.env x=pure x:=by intro _;rfl):PFS X (.For tg iter body [] pos) (sFor rels Fi g F):=(zhH hp hc (PI.frame hi) hg hb hs).imp fun D σ H ⟨H₀,ρ,oc,⟨O,rb⟩,e0,k⟩=>by
 obtain⟨items,e1,e2⟩:=z04 e0
 obtain⟨O',rb'⟩:=rb.rels rels
 refine⟨O'.adr,rb'.own,z1i (relS rels ρ),items,rb'.rest,e1,fun J H1 sm hsz wk hn=>?_⟩
 have hg1:hidL O'.adr (z11 O'.adr H H1)=H1:=z2M hn
 have s01:Same H₀ H1:=rb'.same.trans sm
 have start:RepO X H1 (z11 O'.adr H H1) O' (relS rels ρ) σ:=by
   have z:=rb'.mono (Same.glue sm hn)
   exact⟨z.ndA,z.ndI,z.own,z.len,rb'.b0.trans s01,by rw[hg1];exact Same.refl _,z.at_⟩
 have back:∀{oc:Oc},OcOk X H₀ D oc→OcOk X H1 D oc:=fun{oc} z=>by
   cases oc with
   | nx ρ5=>exact fun σ5 H5 hZ=>hZ.elim fun O5 r5=>z σ5 H5 ⟨O5,r5.base s01 rb'.b0⟩
   | bk ρ5=>exact fun σ5 H5 hZ=>hZ.elim fun O5 r5=>z σ5 H5 ⟨O5,r5.base s01 rb'.b0⟩
   | ct ρ5=>exact fun σ5 H5 hZ=>hZ.elim fun O5 r5=>z σ5 H5 ⟨O5,r5.base s01 rb'.b0⟩
   | rt f d=>exact fun v H5 s5 r5=>z v H5 (s01.trans s5) r5
   | ex n=>exact fun C q=>(z C q).base s01
 refine⟨fun i m σ' H'=>m=items.length-i∧∃ ρ',RepB X H1 H' ρ' σ'∧forF g F (items.drop i) ρ'=some oc,⟨_,rfl,_,⟨O',start⟩,e2⟩,?_⟩
 rintro i m σ' H' ⟨rfl,ρ',⟨O2,r2⟩,f2⟩
 obtain⟨w1,w2⟩:=wk O2.adr H' r2.same fun a ha=>by obtain⟨⟨vs,q⟩,_⟩:=r2.own a ha;exact⟨_,q⟩
 by_cases hlt:i<items.length
 · obtain⟨x,hx⟩:∃ x,items[i]?=some x:=⟨_,List.getElem?_eq_getElem hlt⟩
   have hdrop:items.drop i=x::items.drop (i+1):=by
    rw[List.drop_eq_getElem_cons hlt]
    rw[List.getElem?_eq_getElem hlt]at hx
    cases hx;rfl
   rw[hdrop]at f2
   unfold forF at f2
   obtain⟨ρ2,p1,f3⟩:=z04 f2
   obtain⟨oc',p2,f4⟩:=z04 f3
   obtain⟨go,yl⟩:=w1 i x hx
   refine .inr ⟨go,fun σ3 H3=>∃ ρ3,RepB X H1 H3 ρ3 σ3∧forF g F (items.drop (i+1)) ρ3=some oc,fun σ3 H3 hZ=>hZ.elim fun ρ3 hZ=>hZ.elim fun r3 f3=>⟨items.length-(i+1),by omega,rfl,ρ3,r3,f3⟩,fun xv H3 y3=>?_⟩
   obtain⟨s3,k3,r3⟩:=yl xv H3 y3
   have sm3:Same H' H3:=fun b o e=>by
    by_cases hb:b∈O2.adr
    · rw[k3 b hb];exact e
    · exact(z3A (s3 b o (by rw[z0l hb];exact e))).2
   refine Tg.low_mono (Tg.simO (r2.mono sm3) r3 p1) ?_
   rintro σ4 H4 ⟨eH,O4,r4⟩
   subst eH
   refine⟨H1,ρ2,oc',⟨O4,r4⟩,p2,?_⟩
   cases oc' with
   | nx ρ5=>exact fun σ5 H5 r5=>⟨ρ5,r5,f4⟩
   | ct ρ5=>exact fun σ5 H5 r5=>⟨ρ5,r5,f4⟩
   | bk ρ5=>cases f4;exact back k
   | rt f d=>cases f4;exact back k
   | ex C=>cases f4;exact back k
 · have hd:items.drop i=[]:=List.drop_of_length_le (by omega)
   rw[hd]at f2
   cases f2
   exact .inl ⟨w2 i (by omega),back k σ' H' ⟨O2,r2⟩⟩
end
section
variable {P:Program}{w:World}{K:PySem.W.Frag}{mg:Str→Option Value}{base:Heap}
def rho0(n:Nat)(ds:List Dt):Rho:=ds.map (Cell.sh false)++List.replicate (n-ds.length) Cell.no
theorem zcS{X:Cx}{H:Hp}{ds:List Dt}{vs:List V}{N:List Str}(h0:X.H₀=H)(h:Rps X.K emp ds H vs):RepO X H H [] (rho0 N.length ds) (start N vs):=by
 have hl:=h.length
 refine⟨List.nodup_nil,List.nodup_nil,fun a ha=>(nomatch ha),by unfold rho0 start;simp[hl],by rw[h0];exact Same.refl H,by show Same H (hidL [] H);rw[zbk];exact Same.refl H,fun i c e=>?_⟩
 unfold rho0 at e
 unfold start
 by_cases hi:i<ds.length
 · rw[List.getElem?_append_left (by simpa using hi),List.getElem?_map]at e
   cases q:ds[i]? with
   | none=>rw[q]at e;cases e
   | some d =>
     rw[q]at e
     cases e
     obtain⟨v,e1,e2⟩:=h.get q
     refine⟨some v,?_,v,rfl,by show Rp X.K emp d (hidL [] H) v;rw[zbk];exact e2⟩
     rw[List.getElem?_append_left (by simp;omega),List.getElem?_map,e1];rfl
 · rw[List.getElem?_append_right (by simp;omega),List.getElem?_replicate]at e
   split at e
   · cases e
     rename_i hlt
     simp at hlt
     refine⟨none,?_,trivial⟩
     rw[List.getElem?_append_right (by simp;omega),List.getElem?_replicate,if_pos (by simp;omega)]
   · cases e
def cOf(np n:Nat)(fr:Bool)(F:FS):FC:=fun ds=>if ds.length=np then
 (F (rho0 n ds)).bind fun oc=>match oc with|.rt f d=>if fr&&!(f.isFr||d.flat) then none else some d|.nx _=>some .non|_=>none
 else none
theorem Fun.data{x qual:Str}{st:Stmt}{f:Addr}{fd:FuncData}{N ps:List Str}{k:Nat}{fr:Bool}{F:FS}(Fu:Fun K x qual st f fd)(S:FnScope N ps (z06 st))
    (body:∀(cdv:Value) (A:Around) (outer:List Env) (s:Shared) (H:Hp) (E:XK),Room k (A.deeper (envOfC qual (z06 st) s.heap.objs.size f cdv)) →
      PFSs (cxOf CX0 P w K mg base N qual (z06 st) f cdv A outer s H E).nox (z1o st) F):FnOk P w K mg base CX0 (k+1) f fd ps (spc K fr (cOf ps.length N.length fr F)):=by
  refine Fu.ok S (fun vs H Q E h=>?_) (fun cdv A outer s H vs Q E hr h=>?_)
  · obtain⟨ds,d,r,e,q⟩:=h
    unfold cOf at e
    split at e
    · rename_i hl
      rw[r.length];exact hl
    · cases e
  · obtain⟨ ds,d,r,e,q⟩:=h
    unfold cOf at e
    split at e
    · rename_i hl
      obtain⟨oc,e1,e2⟩:=z04 e
      refine⟨_,body cdv A outer s H E hr,H,rho0 N.length ds,oc,⟨[],zcS rfl r⟩,e1,?_⟩
      cases oc with
      | nx ρ=>cases e2;exact fun σ H' hZ=>hZ.elim fun O rb=>q _ H' (rb.same.trans z0y) (Rp.non_.mpr rfl)
      | bk ρ=>cases e2
      | ct ρ=>cases e2
      | ex C=>cases e2
      | rt f d' =>
        have e2:(if(fr&&!(f.isFr||d'.flat))=true then none else some d')=some d:=e2
        split at e2
        · cases e2
        · rename_i hf
          cases e2
          refine fun v H' sm r'=>q v H' sm ?_
          cases fr with
          | false=>exact Rp.anti Same.emp _ r'
          | true =>
            have hf:f.isFr=true∨d.flat=true:=by
              cases h1:f.isFr<;>cases h2:d.flat<;>simp[h1,h2]at hf ⊢
            rcases hf with hf|hf
            · rw[hf]at r';exact r'
            · exact Rp.flat d hf r'
    · cases e
theorem zgS{l:PySem.W.OpenLaw}{q:Program}{loose:List Str}{XP:(Str→Option Value)→Heap→Prop}{YP:World→Heap→Prop}{d:DefRec}{K:Params→PySem.W.Frag}{x:Str}{k:Nat}{fr:Bool}{c:FC}(hn:l.most=some 63)(hdf:d.params.defaults=[])
  (hY:∀(w:World) (h:Heap),YP w h→(K w.params).In h)
  (F:∀(w:World) (mg:Str→Option Value) (fa:Addr) (h:Heap),(K w.params).In h→h.Ns mainGlobals mg→mg d.name=some (.ref fa) →
   ∃ fd:FuncData,(∀(s:Shared) (u:Value),BindsTo s fd ⟨[u],[]⟩ [(x,u)])∧∀ base:Heap,(K w.params).In base→base.Ns mainGlobals mg→FnOk l.prog w (K w.params) mg base CX0 k fa fd [x] (spc (K w.params) fr c))
  (hc:∀ ns:List Int,ns.length≤63→c [.scr ns]=some (.bl true))
  (hr:Room k callerA):PySem.W.WalkO q loose XP YP l.row.toRowW d [] (fun f vs=>PySem.call f vs) :=
 L2.zlB (n:=63) (k:=k) (x:=x) (CX:=fun _=>CX0) (sp:=fun w=>spc (K w.params) fr c) hn (by decide) hdf hr hY F
  (fun w H a ns hl _ hS=>⟨[.scr ns],_,Rps.one (Rp.scr_.mpr ⟨a,rfl,rfl,hS⟩),hc ns hl,fun v H' _ r=>by cases fr<;>exact Rp.bl_.mp r⟩) fun _ _ _ _ _ z=>z
end
def zi9(XN:List Str)(xs:List (Str×NameKind))(scope:Scope)(N:List Str)(nt:Nat)(js:List Nat):Bool :=
 decide ((scope.names.map (·.1)).Nodup)&&(N.length==nt+js.length)&&((List.range js.length).all fun k=>match js[k]? with
  | some j=>(match N[nt+k]?,XN[j]? with|some x,some y=>x==y&&scope.names.lookup x==some .free|_,_=>false)
  | none=>false)&&scope.names.all fun p=>p.2 != .free||xs.lookup p.1==some .cell||xs.lookup p.1==some .free
theorem z0h{X:Cx}{N:List Str}{scope:Scope}{nt:Nat}{js:List Nat}(XN:List Str)(xs:List (Str×NameKind))(h1:X.N=XN)(h2:X.env.scope.names=xs)(hk:scope.kind = .function)(c:zi9 XN xs scope N nt js=true):CompScope X N scope nt js:=by
 unfold zi9 at c
 rw[Bool.and_eq_true,Bool.and_eq_true,Bool.and_eq_true]at c
 obtain⟨⟨⟨c1,c2⟩,c3⟩,c4⟩:=c
 have nd:=of_decide_eq_true c1
 refine⟨hk,nd,fun x hx e=>by rw[z2n nd hx,e],beq_iff_eq.mp c2,fun k j e=>?_,fun x hx e=>?_⟩
 · have hk:k<js.length:=by
     by_cases hk:k<js.length
     · exact hk
     · rw[List.getElem?_eq_none (by omega)]at e;cases e
   have z:=List.all_eq_true.mp c3 k (List.mem_range.mpr hk)
   rw[e]at z
   dsimp only at z
   rw[h1]
   cases q1:N[nt+k]? with
   | none=>rw[q1]at z;cases z
   | some x =>
     cases q2:XN[j]? with
     | none=>rw[q1,q2]at z;cases z
     | some y =>
       rw[q1,q2]at z
       dsimp only at z
       rw[Bool.and_eq_true]at z
       have exy:x=y:=beq_iff_eq.mp z.1
       subst exy
       exact⟨x,rfl,rfl,beq_iff_eq.mp z.2⟩
 · have z:=List.all_eq_true.mp c4 x hx
   rw[e]at z
   have z:(xs.lookup x.1==some .cell||xs.lookup x.1==some .free)=true:=by simpa using z
   show X.env.scope.names.lookup x.1=_∨X.env.scope.names.lookup x.1=_
   rw[h2]
   rcases Bool.or_eq_true _ _ |>.mp z with z|z
   · exact .inl (beq_iff_eq.mp z)
   · exact .inr (beq_iff_eq.mp z)
structure Df(K:PySem.W.Frag)(mg:Str→Option Value)(name:Str)(st:Stmt)(ps:List Str)(f:Addr)(fd:FuncData):Prop where
 fn:Fun K name name st f fd
 mg:mg name=some (.ref f)
 bd:Binds K fd ps []
theorem df_mk{K:PySem.W.Frag}{h:Heap}{mg:Str→Option Value}(X:K.In h)(G:h.Ns mainGlobals mg){x:Str}{st:Stmt}{f:Addr}{oc:Value}{od an:Option Addr}{osl:Array (Option Value)}{kV doc pm cdv ct:Value}{ps:List Str}
  (e:PySem.W.nsIn K mainGlobals x=some (some (.ref f))) (l:K.lookup f=some ⟨oc,od,.func (PySem.W.fnOf x x (z2e st) (z1o st) (z06 st) .none kV doc pm an cdv ct),osl⟩) (c:PySem.W.codeIn K cdv x=true) (k:PySem.W.keepIn K (.ref f)=true)
  (hb:∀(kV doc pm:Value) (an:Option Addr) (cdv ct:Value) (us:List Value),us.length=ps.length→bindArgs (PySem.W.fnOf x x (z2e st) (z1o st) (z06 st) .none kV doc pm an cdv ct) ⟨us,[]⟩=pure (ps.zip us)) :
  Df K mg x st ps f (PySem.W.fnOf x x (z2e st) (z1o st) (z06 st) .none kV doc pm an cdv ct) :=
 ⟨zhQ l c k,PySem.W.mg_of X G e,(zhQ (st:=st) l c k).binds hb⟩
end L2

end
section
set_option Elab.async false
set_option linter.all false
set_option maxRecDepth 100000
namespace ZL
open PySem PyProof.Rows
def ItAt(h:Heap)(tu:Bool)(it l:Addr)(k:Nat):Prop:=if tu then h.IsTupleIter it l k else h.IsListIter it l k
def SqAt(h:Heap)(tu:Bool)(l:Addr)(xs:Array Value):Prop:=if tu then h.IsTuple l xs else h.IsList l xs
section
variable {h h':Heap}{tu:Bool}{it l c:Addr}{k:Nat}{xs:Array Value}
theorem ItAt.at(x:ItAt h tu it l k)(q:∀ o,h.get? it=some o→h'.get? it=some o):ItAt h' tu it l k:=by
 unfold ItAt at x ⊢
 cases tu with
 | true=>obtain⟨o,e,r⟩:=x;exact⟨o,q o e,r⟩
 | false=>obtain⟨o,e,r⟩:=x;exact⟨o,q o e,r⟩
theorem SqAt.at(x:SqAt h tu l xs)(q:∀ o,h.get? l=some o→h'.get? l=some o):SqAt h' tu l xs:=by
 unfold SqAt at x ⊢
 cases tu with
 | true=>obtain⟨o,e,r⟩:=x;exact⟨o,q o e,r⟩
 | false=>obtain⟨o,e,r⟩:=x;exact⟨o,q o e,r⟩
theorem ItAt.lt(x:ItAt h tu it l k):it<h.objs.size:=by
 unfold ItAt at x
 cases tu with
 | true=>obtain⟨o,e,_⟩:=x;exact Heap.lt_size e
 | false=>obtain⟨o,e,_⟩:=x;exact Heap.lt_size e
theorem SqAt.lt(x:SqAt h tu l xs):l<h.objs.size:=by
 unfold SqAt at x
 cases tu with
 | true=>obtain⟨o,e,_⟩:=x;exact Heap.lt_size e
 | false=>obtain⟨o,e,_⟩:=x;exact Heap.lt_size e
end
section
variable {prog:Program}{w:World}{A:Around}{E:Value→Shared→Prop}{s:Shared}
theorem zcT{it t:Addr}{i:Nat}{items:Array Value}{x:Value}{Q:Value→Shared→Prop}(a:s.heap.IsTupleIter it t i)(b:s.heap.IsTuple t items)(c:items[i]?=some x)
  (q:∀ h',h'.IsTupleIter it t (i+1)→Heap.SameBut it s.heap h'→Q x { s with heap:=h' }):wpAny (model prog w) A (Builtin.SmallTypes.nextOf (.ref it)) Q E s:=by
 obtain⟨o,e1,e2,e3⟩:=id a
 obtain⟨p,f1,_,n,f2⟩:=b
 unfold Builtin.SmallTypes.nextOf
 refine wpAny_bind (wpAny_callSpecial?_slot (name:=Str.ofString "__next__") a.typeIs F.slot_tuple_iterator_next (wpAny_call_entry F.slot_tuple_iterator_next a.typeIs F.entry_tuple_iterator_next ?_ (F.args_tuple_iterator_next_1 _)))
 show wpAny _ _ (field (.ref it) 0 >>= fun z=>_) _ _ s
 refine wpAny_bind (wpAny_field e1 e3 (x:=Value.ref t) rfl ?_)
 show wpAny _ _ (if(Value.ref t==Value.none)=true then _ else _) _ _ s
 rw[if_neg (by exact Bool.false_ne_true)]
 show wpAny _ _ (field (.ref it) 1 >>= fun z=>_) _ _ s
 refine wpAny_bind (wpAny_field e1 e3 (x:=Value.int i 0) rfl ?_)
 show wpAny _ _ (seqItems? (.ref t) >>= fun z=>_) _ _ s
 refine wpAny_bind (wpAny_seqItems f1 f2 ?_)
 simp only[Int.toNat_natCast,c]
 refine wpAny_bind (wpAny_setField e1 e3 (by simp) (wpAny_pure ⟨x,rfl,wpAny_pure (q _ ⟨_,Heap.get?_update_self _ e1 (Obj.isFreed_of_fields (Obj.data_mapFields e3 _)),(Obj.cls_mapFields ..).trans e2,?_⟩ (Heap.SameBut.update ..))⟩))
 rw[Obj.data_mapFields e3]
 simp[rawInt]
theorem zgT{it t:Addr}{i:Nat}{items:Array Value}{Q:Value→Shared→Prop}(hn:A.handled=none)(a:s.heap.IsTupleIter it t i)(b:s.heap.IsTuple t items)(c:items[i]?=none)
  (q:∀ h' e,Heap.ExtBut it s.heap h'→(∃ o,h'.get? e=some o∧o.cls = .type "StopIteration")→E (.ref e) { s with heap:=h' }):wpAny (model prog w) A (Builtin.SmallTypes.nextOf (.ref it)) Q E s:=by
 obtain⟨o,e1,e2,e3⟩:=id a
 obtain⟨p,f1,_,n,f2⟩:=b
 unfold Builtin.SmallTypes.nextOf
 refine wpAny_bind (wpAny_callSpecial?_slot (name:=Str.ofString "__next__") a.typeIs F.slot_tuple_iterator_next (wpAny_call_entry F.slot_tuple_iterator_next a.typeIs F.entry_tuple_iterator_next ?_ (F.args_tuple_iterator_next_1 _)))
 show wpAny _ _ (field (.ref it) 0 >>= fun z=>_) _ _ s
 refine wpAny_bind (wpAny_field e1 e3 (x:=Value.ref t) rfl ?_)
 show wpAny _ _ (if(Value.ref t==Value.none)=true then _ else _) _ _ s
 rw[if_neg (by exact Bool.false_ne_true)]
 show wpAny _ _ (field (.ref it) 1 >>= fun z=>_) _ _ s
 refine wpAny_bind (wpAny_field e1 e3 (x:=Value.int i 0) rfl ?_)
 show wpAny _ _ (seqItems? (.ref t) >>= fun z=>_) _ _ s
 refine wpAny_bind (wpAny_seqItems f1 f2 ?_)
 simp only[Int.toNat_natCast,c]
 refine wpAny_bind (wpAny_rule (wpAny_bind (wpAny_setField e1 e3 (by simp) ?_)))
 show wpAny _ _ (newExc (.type "StopIteration") [] >>= fun z=>_) _ _ _
 refine wpAny_bind ?_
 simp only[newExc,newTuple]
 refine wpAny_bind (wpAny_newObj_type ?_ (by size_fits))
 refine wpAny_bind (m:=firstArgMember _ _) (wpAny_of_eq (a:=Value.none) (by first|(simp only[firstArgMember];rfl)|rfl) ?_)
 refine wpAny_newObj_type ?_ (by size_fits)
 simp only[raiseNew]
 refine wpAny_bind (wpAny_handled ?_)
 first|rw[hn]|rw[show A.in1.handled=none from hn]
 refine wpAny_bind (wpAny_pure (wpAny_throw ?_))
 exact q _ _ (((Heap.SameBut.update ..).extBut.push _).push _) ⟨_,Heap.get?_push_size _ rfl,rfl⟩
theorem z9t{tu:Bool}{it l:Addr}{i:Nat}{items:Array Value}{x:Value}{Q:Option Value→Shared→Prop}(a:ItAt s.heap tu it l i)(b:SqAt s.heap tu l items)(c:items[i]?=some x)
  (q:∀ h',ItAt h' tu it l (i+1)→Heap.SameBut it s.heap h'→Q (some x) { s with heap:=h' }):wpAny (model prog w) A (Builtin.SmallTypes.nextOrEnd (.ref it)) Q E s:=by
 unfold Builtin.SmallTypes.nextOrEnd
 cases tu with
 | true=>exact wpAny_bind (wpAny_attempt (zcT a b c fun h' p1 p2=>wpAny_pure (q h' p1 p2)))
 | false=>exact wpAny_bind (wpAny_attempt (wpAny_nextOf_list_item a b c fun h' p1 p2=>wpAny_pure (q h' p1 p2)))
theorem zbt{tu:Bool}{it l:Addr}{i:Nat}{items:Array Value}{Q:Option Value→Shared→Prop}(hn:A.handled=none)(a:ItAt s.heap tu it l i)(b:SqAt s.heap tu l items)(c:items[i]?=none)
  (q:∀ h',Heap.ExtBut it s.heap h'→Q none { s with heap:=h' }):wpAny (model prog w) A (Builtin.SmallTypes.nextOrEnd (.ref it)) Q E s:=by
 unfold Builtin.SmallTypes.nextOrEnd
 cases tu with
 | true=>exact wpAny_bind (wpAny_attempt (zgT hn a b c fun h' e p1 hZ=>hZ.elim fun o hZ=>hZ.elim fun p2 p3=>wpAny_bind (wpAny_isInstance (T := "StopIteration") (b:=true) ⟨o,p2,p3⟩ isSubtype_stop (wpAny_pure (q h' p1)))))
 | false=>exact wpAny_bind (wpAny_attempt (wpAny_nextOf_list_end hn a b c fun h' e p1 hZ=>hZ.elim fun o hZ=>hZ.elim fun p2 p3=>wpAny_bind (wpAny_isInstance (T := "StopIteration") (b:=true) ⟨o,p2,p3⟩ isSubtype_stop (wpAny_pure (q h' p1)))))
def z2h(h:Heap)(z ti to:Addr)(f:Value):Prop:=h.get? z=some { cls := .type "zip",dict:=none,data := .fields #[f,.bool false,.bool true,.ref ti,.ref to],slots:=#[] }
structure Apart(z ti to i j a b:Addr):Prop where
 p1:ti≠z
 p2:to≠z
 p3:i≠z
 p4:j≠z
 p5:ti≠to
 p6:ti≠i
 p7:ti≠j
 p8:to≠i
 p9:to≠j
 p10:i≠j
 a1:a≠z
 a2:a≠to
 a3:a≠i
 a4:a≠j
 b1:b≠z
 b2:b≠to
 b3:b≠i
 b4:b≠j
def zEnd(l:List Value)(n:Nat):Sem PySem.Fin:=do
 if n > 0 then
  rule "zip.__next__.shorter";raiseError "ValueError" s!"zip() argument {n + 1} is shorter than {if n == 1 then "argument 1" else s!"arguments 1-{n}"}"
 for (e,m) in (l.drop 1).zipIdx 1 do
  if(←Builtin.SmallTypes.nextOrEnd e).isSome then
   rule "zip.__next__.longer";raiseError "ValueError" s!"zip() argument {m + 1} is longer than {if m == 1 then "argument 1" else s!"arguments 1-{m}"}"
 rule "zip.__next__.all-ended";Builtin.SmallTypes.stopIteration
theorem zia{z ti to i j a b:Addr}{ta tb:Bool}{k:Nat}{xs ys:Array Value}{x y u v:Value}{Q:Value→Shared→Prop}(D:Apart z ti to i j a b)
  (hz:z2h s.heap z ti to .none) (hI:IsPair s.heap ti (.ref i) (.ref j)) (hO:IsPair s.heap to u v) (hi:ItAt s.heap ta i a k) (hj:ItAt s.heap tb j b k) (ha:SqAt s.heap ta a xs) (hb:SqAt s.heap tb b ys) (hx:xs[k]?=some x) (hy:ys[k]?=some y)
  (hQ:∀ h',z2h h' z ti to (rawInt s.heap.objs.size)→IsPair h' to x y→ItAt h' ta i a (k+1)→ItAt h' tb j b (k+1)→IsPair h' s.heap.objs.size x y→h'.objs.size=s.heap.objs.size+1 →
   (∀ c o,c≠z→c≠to→c≠i→c≠j→s.heap.get? c=some o→h'.get? c=some o)→Q (.ref s.heap.objs.size) { s with heap:=h' }) :
  wpAny (model prog w) A (Builtin.«zip.__next__» ⟨[.ref z],[]⟩) (fun fin s'=>∃ v,fin = .done (.ret v)∧Q v s') E s:=by
 show wpAny _ _ (field (.ref z) 2 >>= fun t=>_) _ _ _
 refine wpAny_bind (wpAny_field hz rfl (x:=Value.bool true) rfl ?_)
 show wpAny _ _ (field (.ref z) 3 >>= fun t=>_) _ _ _
 refine wpAny_bind (wpAny_field hz rfl (x:=Value.ref ti) rfl ?_)
 refine wpAny_bind (wpAny_seqItems hI rfl ?_)
 show wpAny _ _ (Builtin.SmallTypes.ownedTupleIsFree (.ref z) >>= fun t=>_) _ _ _
 refine wpAny_bind ?_
 unfold Builtin.SmallTypes.ownedTupleIsFree
 refine wpAny_bind (wpAny_field hz rfl (x:=Value.none) rfl (wpAny_pure ?_))
 simp only[if_true]
 refine wpAny_bind (wpAny_rule ?_)
 refine wpAny_bind (wpAny_field hz rfl (x:=Value.ref to) rfl ?_)
 refine wpAny_bind (wpAny_setField_rec hz (by simp) fun g1 z1 m1=>?_)
 replace z1:z2h g1 z ti to .ellipsis:=z1
 refine wpAny_bind ?_
 simp only[List.zipIdx_cons,List.forIn_cons,List.zipIdx_nil,List.forIn_nil]
 refine wpAny_bind (wpAny_bind (wpAny_onRaise ?_))
 show wpAny _ _ (Builtin.SmallTypes.nextOrEnd (.ref i)) _ _ _
 refine z9t (hi.at fun o e=>m1.extBut _ _ D.p3 e) (ha.at fun o e=>m1.extBut _ _ D.a1 e) hx fun g2 i2 m2=>?_
 have o2:IsPair g2 to u v:=m2.extBut _ _ D.p8 (m1.extBut _ _ D.p2 hO)
 refine wpAny_bind (wpAny_seqItems o2 rfl ?_)
 refine wpAny_bind (wpAny_updateSeq_pair o2 fun g3 o3 m3=>?_)
 replace o3:IsPair g3 to x v:=o3
 refine wpAny_bind (wpAny_letGo (wpAny_pure ?_))
 refine wpAny_bind (wpAny_bind (wpAny_onRaise ?_))
 show wpAny _ _ (Builtin.SmallTypes.nextOrEnd (.ref j)) _ _ _
 refine z9t (hj.at fun o e=>m3.extBut _ _ D.p9.symm (m2.extBut _ _ D.p10.symm (m1.extBut _ _ D.p4 e))) (hb.at fun o e=>m3.extBut _ _ D.b2 (m2.extBut _ _ D.b3 (m1.extBut _ _ D.b1 e))) hy fun g4 j4 m4=>?_
 have o4:IsPair g4 to x v:=m4.extBut _ _ D.p9 o3
 refine wpAny_bind (wpAny_seqItems o4 rfl ?_)
 refine wpAny_bind (wpAny_updateSeq_pair o4 fun g5 o5 m5=>?_)
 replace o5:IsPair g5 to x y:=o5
 refine wpAny_bind (wpAny_letGo (wpAny_pure (wpAny_pure ?_)))
 refine wpAny_bind (wpAny_seqItems o5 rfl ?_)
 refine wpAny_bind (wpAny_newTuple ?_)
 have sz:g5.objs.size=s.heap.objs.size:=by rw[m5.1,m4.1,m3.1,m2.1,m1.1]
 have z5:z2h g5 z ti to .ellipsis:=m5.extBut _ _ D.p2.symm (m4.extBut _ _ D.p4.symm (m3.extBut _ _ D.p2.symm (m2.extBut _ _ D.p3.symm z1)))
 have k5:∀ c o,c≠z→c≠to→c≠i→c≠j→s.heap.get? c=some o→g5.get? c=some o:=fun c o c1 c2 c3 c4 e=>m5.extBut _ _ c2 (m4.extBut _ _ c4 (m3.extBut _ _ c2 (m2.extBut _ _ c3 (m1.extBut _ _ c1 e))))
 have i5:ItAt g5 ta i a (k+1):=i2.at fun o e=>m5.extBut _ _ D.p8.symm (m4.extBut _ _ D.p10 (m3.extBut _ _ D.p8.symm e))
 have j5:ItAt g5 tb j b (k+1):=j4.at fun o e=>m5.extBut _ _ D.p9.symm e
 have zl:z<g5.objs.size:=Heap.lt_size z5
 show wpAny _ _ (Builtin.SmallTypes.ownedTupleHandOut (.ref z) (.ref g5.objs.size) >>= fun t=>_) _ _ _
 refine wpAny_bind ?_
 unfold Builtin.SmallTypes.ownedTupleHandOut
 have z6:z2h (g5.push { cls := .type "tuple",data := .seq #[x,y] }) z ti to .ellipsis:=Heap.get?_push_of_some _ z5
 refine wpAny_bind (wpAny_setField_rec z6 (by simp) fun g7 z7 m7=>?_)
 replace z7:z2h g7 z ti to (rawInt g5.objs.size):=z7
 refine wpAny_setField_rec z7 (by simp) fun g8 z8 m8=>?_
 replace z8:z2h g8 z ti to (rawInt g5.objs.size):=z8
 have up:∀ c o,c≠z→g5.get? c=some o→g8.get? c=some o:=fun c o c1 e=>m8.extBut _ _ c1 (m7.extBut _ _ c1 (Heap.get?_push_of_some _ e))
 have t8:IsPair g8 g5.objs.size x y:=m8.extBut _ _ (Nat.ne_of_gt zl) (m7.extBut _ _ (Nat.ne_of_gt zl) (Heap.get?_push_size _ rfl))
 have s8:g8.objs.size=g5.objs.size+1:=by rw[m8.1,m7.1,Heap.size_push]
 rw[sz]at z8 t8 s8
 refine wpAny_pure ⟨_,rfl,?_⟩
 show Q (.ref g5.objs.size) _
 rw[sz]
 exact hQ g8 z8 (up _ _ D.p2 o5) (i5.at fun o e=>up _ o D.p3 e) (j5.at fun o e=>up _ o D.p4 e) t8 s8 fun c o c1 c2 c3 c4 e=>up c o c1 (k5 c o c1 c2 c3 c4 e)
theorem zlQ{z ti to i j a b:Addr}{ta tb:Bool}{k:Nat}{xs ys:Array Value}{u v:Value}{Q:Fin→Shared→Prop}(hn:A.handled=none)(D:Apart z ti to i j a b)
  (hz:z2h s.heap z ti to .none) (hI:IsPair s.heap ti (.ref i) (.ref j)) (hO:IsPair s.heap to u v) (hi:ItAt s.heap ta i a k) (hj:ItAt s.heap tb j b k) (ha:SqAt s.heap ta a xs) (hb:SqAt s.heap tb b ys) (hx:xs[k]?=none) (hy:ys[k]?=none)
  (hE:∀ h' e,(∀ c o,c≠z→c≠to→c≠i→c≠j→s.heap.get? c=some o→h'.get? c=some o)→(∃ o,h'.get? e=some o∧o.cls = .type "StopIteration")→E (.ref e) { s with heap:=h' }) :
  wpAny (model prog w) A (Builtin.«zip.__next__» ⟨[.ref z],[]⟩) Q E s:=by
 show wpAny _ _ (field (.ref z) 2 >>= fun t=>_) _ _ _
 refine wpAny_bind (wpAny_field hz rfl (x:=Value.bool true) rfl ?_)
 show wpAny _ _ (field (.ref z) 3 >>= fun t=>_) _ _ _
 refine wpAny_bind (wpAny_field hz rfl (x:=Value.ref ti) rfl ?_)
 refine wpAny_bind (wpAny_seqItems hI rfl ?_)
 show wpAny _ _ (Builtin.SmallTypes.ownedTupleIsFree (.ref z) >>= fun t=>_) _ _ _
 refine wpAny_bind ?_
 unfold Builtin.SmallTypes.ownedTupleIsFree
 refine wpAny_bind (wpAny_field hz rfl (x:=Value.none) rfl (wpAny_pure ?_))
 simp only[if_true]
 refine wpAny_bind (wpAny_rule ?_)
 refine wpAny_bind (wpAny_field hz rfl (x:=Value.ref to) rfl ?_)
 refine wpAny_bind (wpAny_setField_rec hz (by simp) fun g1 z1 m1=>?_)
 replace z1:z2h g1 z ti to .ellipsis:=z1
 refine wpAny_bind ?_
 simp only[List.zipIdx_cons,List.forIn_cons,List.zipIdx_nil,List.forIn_nil]
 refine wpAny_bind (wpAny_bind (wpAny_onRaise ?_))
 show wpAny _ _ (Builtin.SmallTypes.nextOrEnd (.ref i)) _ _ _
 refine zbt hn (hi.at fun o e=>m1.extBut _ _ D.p3 e) (ha.at fun o e=>m1.extBut _ _ D.a1 e) hx fun g2 m2=>?_
 have z2:z2h g2 z ti to .ellipsis:=m2 _ _ D.p3.symm z1
 refine wpAny_bind (wpAny_setField_rec z2 (by simp) fun g3 z3 m3=>?_)
 refine wpAny_bind ?_
 show wpAny _ _ (zEnd [.ref i,.ref j] 0) _ _ _
 unfold zEnd
 rw[if_neg (Nat.lt_irrefl 0)]
 show wpAny _ _ (forIn [(Value.ref j,1)] PUnit.unit _ >>= fun t=>_) _ _ _
 simp only[List.forIn_cons,List.forIn_nil]
 refine wpAny_bind (wpAny_bind (wpAny_bind (zbt hn (hj.at fun o e=>m3.extBut _ _ D.p4 (m2 _ _ D.p10.symm (m1.extBut _ _ D.p4 e))) (hb.at fun o e=>m3.extBut _ _ D.b1 (m2 _ _ D.b3 (m1.extBut _ _ D.b1 e))) hy fun g4 m4=>?_)))
 simp only[Option.isSome_none,Bool.false_eq_true,if_false]
 refine wpAny_pure (wpAny_pure (wpAny_bind (wpAny_rule ?_)))
 unfold Builtin.SmallTypes.stopIteration
 refine wpAny_bind ?_
 simp only[newExc,newTuple]
 refine wpAny_bind (wpAny_newObj_type ?_ (by size_fits))
 refine wpAny_bind (m:=firstArgMember _ _) (wpAny_of_eq (a:=Value.none) (by first|(simp only[firstArgMember];rfl)|rfl) ?_)
 refine wpAny_newObj_type ?_ (by size_fits)
 simp only[raiseNew]
 refine wpAny_bind (wpAny_handled ?_)
 first|rw[hn]|rw[show A.in1.handled=none from hn]
 refine wpAny_bind (wpAny_pure (wpAny_throw ?_))
 refine hE _ _ (fun c o c1 c2 c3 c4 e=>?_) ⟨_,Heap.get?_push_size _ rfl,rfl⟩
 exact Heap.get?_push_of_some _ (Heap.get?_push_of_some _ (m4 _ _ c4 (m3.extBut _ _ c1 (m2 _ _ c3 (m1.extBut _ _ c1 e)))))
theorem zgU{z ti to i j a b:Addr}{ta tb:Bool}{k:Nat}{xs ys:Array Value}{x y u v:Value}{Q:Option Value→Shared→Prop}(D:Apart z ti to i j a b)
  (hz:z2h s.heap z ti to .none) (hI:IsPair s.heap ti (.ref i) (.ref j)) (hO:IsPair s.heap to u v) (hi:ItAt s.heap ta i a k) (hj:ItAt s.heap tb j b k) (ha:SqAt s.heap ta a xs) (hb:SqAt s.heap tb b ys) (hx:xs[k]?=some x) (hy:ys[k]?=some y)
  (hQ:∀ h',z2h h' z ti to (rawInt s.heap.objs.size)→IsPair h' to x y→ItAt h' ta i a (k+1)→ItAt h' tb j b (k+1)→IsPair h' s.heap.objs.size x y→h'.objs.size=s.heap.objs.size+1 →
   (∀ c o,c≠z→c≠to→c≠i→c≠j→s.heap.get? c=some o→h'.get? c=some o)→Q (some (.ref s.heap.objs.size)) { s with heap:=h' }):wpAny (model prog w) A (pyNext (.ref z)) Q E s:=by
 have t:s.TypeIs (.ref z) "zip" := ⟨_,hz,rfl⟩
 unfold pyNext
 exact wpAny_bind (wpAny_attempt (wpAny_callSpecial?_slot (name:=Str.ofString "__next__") t F.slot_zip_next (wpAny_call_entry F.slot_zip_next t F.entry_zip_next
  (zia D hz hI hO hi hj ha hb hx hy fun h' q1 q2 q3 q4 q5 q6 q7=>wpAny_pure (hQ h' q1 q2 q3 q4 q5 q6 q7)) (F.args_zip_next_1 _))))
theorem zib{z ti to i j a b:Addr}{ta tb:Bool}{k:Nat}{xs ys:Array Value}{u v:Value}{Q:Option Value→Shared→Prop}(hn:A.handled=none)(D:Apart z ti to i j a b)
  (hz:z2h s.heap z ti to .none) (hI:IsPair s.heap ti (.ref i) (.ref j)) (hO:IsPair s.heap to u v) (hi:ItAt s.heap ta i a k) (hj:ItAt s.heap tb j b k) (ha:SqAt s.heap ta a xs) (hb:SqAt s.heap tb b ys) (hx:xs[k]?=none) (hy:ys[k]?=none)
  (hQ:∀ h',(∀ c o,c≠z→c≠to→c≠i→c≠j→s.heap.get? c=some o→h'.get? c=some o)→Q none { s with heap:=h' }):wpAny (model prog w) A (pyNext (.ref z)) Q E s:=by
 have t:s.TypeIs (.ref z) "zip" := ⟨_,hz,rfl⟩
 unfold pyNext
 refine wpAny_bind (wpAny_attempt (wpAny_callSpecial?_slot (name:=Str.ofString "__next__") t F.slot_zip_next (wpAny_call_entry F.slot_zip_next t F.entry_zip_next
  (zlQ hn D hz hI hO hi hj ha hb hx hy fun h' e q1 hZ=>hZ.elim fun o hZ=>hZ.elim fun q2 q3=>?_) (F.args_zip_next_1 _))))
 exact wpAny_bind (wpAny_isInstance (T := "StopIteration") (b:=true) ⟨o,q2,q3⟩ isSubtype_stop (wpAny_pure (hQ _ q1)))
theorem let_go{elts:List Expr}{n:Nat}{pos:Pos}{z ti to t:Addr}{Q:Unit→Shared→Prop}(hz:z2h s.heap z ti to (rawInt t))
  (hQ:∀ h',z2h h' z ti to .none→Heap.SameBut z s.heap h'→Q () { s with heap:=h' }):wpAny (model prog w) A (letOwnedTupleGo (.Tuple elts n pos) (.ref z) (.ref t)) Q E s:=by
 unfold letOwnedTupleGo
 refine wpAny_bind (wpAny_load hz ?_)
 show wpAny _ _ (if(["enumerate", "zip", "dict_itemiterator", "dict_reverseitemiterator", "odict_iterator", "itertools.zip_longest", "itertools.pairwise"].contains "zip" && (#[rawInt t,.bool false,.bool true,.ref ti,.ref to]:Array Value)[0]?==some (rawInt t))=true then _ else _) Q E s
 rw[if_pos (by simp)]
 refine wpAny_bind (wpAny_rule ?_)
 show wpAny _ _ (setField (.ref z) 0 .none) Q E s
 exact wpAny_setField_rec hz (by simp) fun h' q1 q2=>hQ h' q1 q2
theorem zbu{z ti to:Addr}{f:Value}{Q:Value→Shared→Prop}(hz:z2h s.heap z ti to f)(h:Q (.ref z) s):wpAny (model prog w) A (pyIter (.ref z)) Q E s:=by
 have t:s.TypeIs (.ref z) "zip" := ⟨_,hz,rfl⟩
 refine wpAny_pyIter_slot t F.slot_zip_iter (wpAny_call_entry F.slot_zip_iter t F.entry_zip_iter ?_ (F.args_zip_iter_1 _))
 show wpAny _ _ (ret (.ref z)) _ _ s
 exact wpAny_pure ⟨_,rfl, "zip",_,t,F.slot_zip_next.lookup,h⟩
def zbv(tu:Bool)(l:Addr):Obj:={ cls := .type (if tu then "tuple_iterator" else "list_iterator"),data := .fields #[.ref l,.int 0 0] }
theorem zbw{tu:Bool}{l:Addr}{xs:Array Value}{Q:Value→Shared→Prop}(h:SqAt s.heap tu l xs)(q:Q (.ref s.heap.objs.size) { s with heap:=s.heap.push (zbv tu l) }):wpAny (model prog w) A (pyIter (.ref l)) Q E s:=by
 cases tu with
 | true=>exact wpAny_pyIter_tuple h q
 | false=>exact wpAny_pyIter_list h q
theorem zbx{h:Heap}{tu:Bool}{l p:Addr}(e:h.get? p=some (zbv tu l)):ItAt h tu p l 0:=by
 unfold ItAt
 cases tu with
 | true=>exact⟨_,e,rfl,rfl⟩
 | false=>exact⟨_,e,rfl,rfl⟩
abbrev h1(h:Heap)(ta:Bool)(a:Addr):Heap:=h.push (zbv ta a)
abbrev h2(h:Heap)(ta tb:Bool)(a b:Addr):Heap:=(h1 h ta a).push (zbv tb b)
abbrev h3(h:Heap)(ta tb:Bool)(a b:Addr):Heap:=(h2 h ta tb a b).push { cls := .type "tuple",data := .seq #[.ref h.objs.size,.ref (h1 h ta a).objs.size] }
abbrev h4(h:Heap)(ta tb:Bool)(a b:Addr):Heap:=(h3 h ta tb a b).push { cls := .type "tuple",data := .seq #[.none,.none] }
abbrev h5(h:Heap)(ta tb:Bool)(a b:Addr):Heap:=(h4 h ta tb a b).push { cls := .type "zip",data := .fields #[.none,.bool false,.bool true,.ref (h2 h ta tb a b).objs.size,.ref (h3 h ta tb a b).objs.size] }
theorem zgV(a b:Addr)(ta tb:Bool)(xs ys:Array Value):Meets (Builtin.«zip.__new__» ⟨[.type "zip",.ref a,.ref b],[(Str.ofString "strict",.bool true)]⟩)
  (fun _ R s=>SqAt s.heap ta a xs∧SqAt s.heap tb b ys∧R (.ok (.ret (.ref (h4 s.heap ta tb a b).objs.size))) { s with heap:=h5 s.heap ta tb a b }) :=
 .of_wp fun prog w A R s hZ=>hZ.elim fun qa hZ=>hZ.elim fun qb q=>by
  obtain⟨hp,g,d,tk,os⟩:=s
  have f1:=sub_zip
  have e1:SqAt (Shared.heap ⟨hp,g,d,tk,os⟩) ta a xs:=qa
  have e2:SqAt (Shared.heap ⟨hp.push (zbv ta a),g,d,tk,os⟩) tb b ys:=qb.at fun o e=>Heap.get?_push_of_some _ e
  wp_walk using zbw e1,zbw e2
  exact⟨_,rfl,q⟩
end
end ZL

end
section
set_option Elab.async false
set_option linter.all false
set_option maxRecDepth 100000
set_option maxHeartbeats 4000000
namespace ZL
open PySem PyProof.Rows
theorem okT(a b v:Value):checkTypeCall "zip" ⟨[a,b],[(Str.ofString "strict",v)]⟩=pure ():=by kernel_rfl
theorem okN(a b v:Value):checkBuiltinCall "zip.__new__" ⟨[.type "zip",a,b],[(Str.ofString "strict",v)]⟩=pure ():=by kernel_rfl
theorem okI(a b c v:Value):argsOk "object.__init__" ⟨[a,b,c],[(Str.ofString "strict",v)]⟩:=by
 unfold argsOk;rw[signature?_of (id := "object.__init__") (n := "__init__".toList.reverse) (o := "object".toList.reverse) (by kernel_rfl) F.owner_object];kernel_rfl
section
variable {prog:Program}{w:World}{A:Around}{E:Value→Shared→Prop}{s:Shared}
theorem zcU(self a b v:Value):Meets (Builtin.«object.__init__» ⟨[self,a,b],[(Str.ofString "strict",v)]⟩) (fun _ R s=>s.TypeIs self "zip" ∧ R (.ok (.ret .none)) s):=by
 refine Meets.of_wp ?_
 rintro prog w A R s ⟨t,q⟩
 have hl:=F.called_zip.init.lookup
 have hm:=F.called_zip.made
 have hne:(some "zip.__new__" != some "object.__new__")=true:=by decide
 repeat (any_goals first|assumption|wp_step)
 exact⟨_,rfl,q⟩
theorem zic{a b:Addr}{ta tb:Bool}{xs ys:Array Value}{Q:Value→Shared→Prop}(qa:SqAt s.heap ta a xs)(qb:SqAt s.heap tb b ys)
   (q:Q (.ref (h4 s.heap ta tb a b).objs.size) { s with heap:=h5 s.heap ta tb a b }):wpAny (model prog w) A (call (.type "zip") [.ref a,.ref b] [(Str.ofString "strict",.bool true)]) Q E s:=by
 obtain⟨c,tl,hmro⟩:=F.called_zip.mro
 have m1:=F.called_zip.made
 have m2:=F.called_zip.sub
 have m3:=okT (.ref a) (.ref b) (.bool true)
 refine wpAny_call (codeAny_of_tree ?_)
 show wpAny _ _ (callAny (.type "zip") _) _ _ _
 refine wpAny_pure ⟨Code.quiet_builtin _ (by decide +kernel),codeAny_builtin F.entry_type_call ?_⟩
 rw[Around.under_plain (weight_type_call_type "zip" _ _) (units_type_call_type "zip" _ _)]
 have m4:=F.called_zip.notType
 have m5:=F.called_zip.canCreate
 repeat (any_goals first|assumption|wp_step)
 refine codeAny_mono (codeAny_call_builtin F.called_zip.plain F.entry_zip_new (wpAny_of_eq (okN _ _ _) (zgV a b ta tb xs ys prog w A.in1 (wants (fun o s1=>s1.TypeIs o "zip" ∧ Q o s1) E) s ⟨qa,qb,?_⟩))) fun r s1 hr=>?_
 · exact⟨⟨_,Heap.get?_push_size _ rfl,rfl⟩,q⟩
 cases r with
 | error e=>exact hr
 | ok fl =>
   cases fl with
   | ret o =>
    obtain⟨ty,hq⟩:=hr
    have n1:=F.called_zip.init.lookup
    have n2:=F.called_zip.init.bind o
    repeat (any_goals first|assumption|wp_step)
    refine codeAny_mono (codeAny_call_builtin F.called_zip.init.plain F.entry_object_init (F.called_zip.init.check _ _ _ _ _ _ _ _ ty (okI o _ _ _) (zcU o _ _ _ prog w A.in1 (wants (fun r s2=>r = .none∧Q o s2) E) s1 ⟨ty,rfl,hq⟩))) fun r2 s2 hr2=>?_
    cases r2 with
    | error e=>exact hr2
    | ok f2 =>
     cases f2 with
     | ret r =>
      obtain⟨rfl,hq⟩:=hr2
      repeat (any_goals first|assumption|wp_step)
     | _=>exact hr2.elim
   | _=>exact hr.elim
end
end ZL

end
section
local macro_rules|`(tactic| omega)=>`(tactic| first|lia|omega +splitDisjunctions)
set_option Elab.async false
set_option linter.all false
set_option maxRecDepth 100000
set_option maxHeartbeats 1000000
namespace L2
open PySem PySem.Spec PyProof.Rows ZL
section
variable {X:Cx}{pins:List (Addr×Obj)}{σ:St}{H:Hp}{s:Shared}{h':Heap}
theorem Inv.turnedL{t':Nat}{ch:List Addr}(I:Inv X pins σ H s)(k:∀ b o,b ∉ ch→s.heap.get? b=some o→h'.get? b=some o)(hc:∀ b∈ch,FpOk X pins H b):Inv X pins σ H { s with heap:=h',toks:=t' }:=by
 have nit:∀ b u,H b=some u→b ∉ ch:=fun b u e z=>by rw[(hc b z).1]at e;cases e
 refine I.step (g':=s.gens) (d':=s.drawn) (ch:=ch) (fun b hb=>?_) (fun b o _ _ hn e _=>k b o hn e) (fun b o _ _ hn e _=>⟨o.slots,k b o hn e⟩) (fun _ _ _ _ n=>n)
   (fun b o hn e=>⟨o,k b o hn e⟩) (fun _ _ e=>e) (fun _ _ _ e=>e) (fun b ps e=>⟨#[],by rw[e];simp⟩) (fun m hm=>?_) (fun b u e=>?_) I.bare
 · obtain⟨f0,f1,f2,f3,f4,f5⟩:=hc b hb
   exact⟨f3,f1,f4,f5⟩
 · obtain⟨o,es,ep,ho,r⟩:=hm
   exact⟨o,es,ep,k _ o (fun z=>(hc _ z).2.1 rfl) ho,r⟩
 · refine(I.hok b u e).stay (fun c v hcc q=>k c v ?_ q) (fun _ q=>q) fun _ _ q=>q
   rcases hcc with z|z
   · rw[z];exact nit b u e
   · exact nit c _ z
theorem Inv.pair{t':Nat}{ch:List Addr}{x y:V}{u v:Value}(I:Inv X pins σ H s)(rx:RelV x u)(ry:RelV y v)(hp:h'.get? s.heap.objs.size=some { cls := .type "tuple",data := .seq #[u,v] })
   (k:∀ b o,b ∉ ch→s.heap.get? b=some o→h'.get? b=some o) (hc:∀ b∈ch,FpOk X pins H b) (hl:∀ b∈ch,b<s.heap.objs.size) :
   H s.heap.objs.size=none∧Inv X pins σ (upd H s.heap.objs.size (.tup [x,y])) { s with heap:=h',toks:=t' }:=by
 have hn:H s.heap.objs.size=none:=I.hok.fresh (Nat.le_refl _)
 have I1:Inv X pins σ (upd H s.heap.objs.size (.tup [x,y])) { s with heap:=s.heap.push { cls := .type "tuple",data := .seq #[u,v] },toks:=t' } :=
   I.laid (fun b o e=>Heap.get?_push_of_some _ e) (Nat.le_refl _) ⟨by show 2≤sizeLine;decide,[u,v],.cons rx (.cons ry .nil),⟨_,Heap.get?_push_size _ rfl,rfl,_,rfl⟩⟩
 refine⟨hn,Inv.turnedL (s:={ s with heap:=s.heap.push { cls := .type "tuple",data := .seq #[u,v] },toks:=t' }) (h':=h') (t':=t') (ch:=ch) I1 (fun b o hb e=>?_) fun b hb=>?_⟩
 · by_cases q:b=s.heap.objs.size
   · subst q
     have e2:(s.heap.push { cls := .type "tuple",data := .seq #[u,v] }).get? s.heap.objs.size=some _:=Heap.get?_push_size _ rfl
     have e:(s.heap.push { cls := .type "tuple",data := .seq #[u,v] }).get? s.heap.objs.size=some o:=e
     rw[e2]at e
     rw[hp];exact e
   · refine k b o hb ?_
     have e:(s.heap.push { cls := .type "tuple",data := .seq #[u,v] }).get? b=some o:=e
     rw[Heap.get?_push_ne _ _ _ q]at e
     exact e
 · obtain⟨f0,f⟩:=hc b hb
   exact⟨by rw[z0q (Nat.ne_of_lt (hl b hb))];exact f0,f⟩
end
def SqV(K:PySem.W.Frag)(tu:Bool)(H:Hp)(a:Addr)(xs:List V):Prop:=if tu then SqT K H a xs else SqL K H a xs
theorem SqV.mono{K:PySem.W.Frag}{tu:Bool}{H H':Hp}{a:Addr}{xs:List V}(e:Same H H')(h:SqV K tu H a xs):SqV K tu H' a xs:=by
 unfold SqV at h ⊢
 cases tu with
 | true=>exact e.seqT h
 | false=>exact e.seq h
theorem Inv.sq{X:Cx}{pins:List (Addr×Obj)}{σ:St}{H:Hp}{s:Shared}{tu:Bool}{a:Addr}{xs:List V}(I:Inv X pins σ H s)(h:SqV X.K tu H a xs):∃ its:List Value,Vals xs its∧SqAt s.heap tu a its.toArray∧xs.length≤sizeLine:=by
 unfold SqV at h
 unfold SqAt
 cases tu with
 | true=>obtain⟨its,r,p,z⟩:=I.tuple h;exact⟨its,r,p,z⟩
 | false=>obtain⟨its,r,p,z⟩:=I.list h;exact⟨its,r,p.isList,z⟩
theorem Inv.sq_inj{X:Cx}{pins:List (Addr×Obj)}{σ:St}{H:Hp}{s:Shared}{tu:Bool}{a:Addr}{xs ys:List V}(I:Inv X pins σ H s)(h:SqV X.K tu H a xs)(h':SqV X.K tu H a ys):xs=ys:=by
 unfold SqV at h h'
 cases tu with
 | true=>exact I.tuple_inj h h'
 | false=>exact I.list_inj h h'
def Itz(K:PySem.W.Frag)(ta tb:Bool)(a b:Addr):It where
 go:=fun i H=>∃ xs ys x y,SqV K ta H a xs∧SqV K tb H b ys∧xs[i]?=some x∧ys[i]?=some y
 yld:=fun i H v H'=>∃ p x y,(∀ xs,SqV K ta H a xs→xs[i]?=some x)∧(∀ ys,SqV K tb H b ys→ys[i]?=some y)∧H p=none∧v = .ref p∧H'=upd H p (.tup [x,y])
 stop:=fun i H=>∃ xs ys,SqV K ta H a xs∧SqV K tb H b ys∧xs.length≤i∧ys.length≤i
theorem mem5{z ti to i j c:Addr}(h:c ∉ [z,ti,to,i,j]):c≠z∧c≠ti∧c≠to∧c≠i∧c≠j:=by simpa using h
theorem zid{P:Program}{w:World}{K:PySem.W.Frag}{elts:List Expr}{n:Nat}{pos:Pos}{ta tb:Bool}{z ti to i j a b:Addr}(D:Apart z ti to i j a b):
  Turn P w K (.Tuple elts n pos) (Itz K ta tb a b) [z,ti,to,i,j] z (fun k h=>z2h h z ti to .none∧IsPair h ti (.ref i) (.ref j)∧(∃ u v,IsPair h to u v)∧ItAt h ta i a k∧ItAt h tb j b k) where
 mem:=by simp
 obj:=fun k h ⟨q1,q2,⟨u,v,q3⟩,q4,q5⟩ c hc=>by
  have it:∀{tu:Bool} {it l:Addr} {k:Nat},ItAt h tu it l k→∃ o,h.get? it=some o∧∀ v,o.data ≠ .cell v:=fun{tu it l k} q=>by
    unfold ItAt at q
    cases tu with
    | true=>obtain⟨o,e,_,d⟩:=q;exact⟨o,e,fun v z=>by rw[d]at z;cases z⟩
    | false=>obtain⟨o,e,_,d⟩:=q;exact⟨o,e,fun v z=>by rw[d]at z;cases z⟩
  simp only[List.mem_cons,List.not_mem_nil,or_false]at hc
  rcases hc with rfl|rfl|rfl|rfl|rfl
  · exact⟨_,q1,fun v z=>by have z':Data.fields _=Data.cell v:=z;cases z'⟩
  · exact⟨_,q2,fun v z=>by have z':Data.seq _ _=Data.cell v:=z;cases z'⟩
  · exact⟨_,q3,fun v z=>by have z':Data.seq _ _=Data.cell v:=z;cases z'⟩
  · exact it q4
  · exact it q5
 keep:=fun k h h' ⟨q1,q2,⟨u,v,q3⟩,q4,q5⟩ kk=>⟨kk z (by simp) _ q1,kk ti (by simp) _ q2,⟨u,v,kk to (by simp) _ q3⟩,q4.at fun o e=>kk i (by simp) o e,q5.at fun o e=>kk j (by simp) o e⟩
 item:=by
  intro X hP hw hK hc k pins s σ H E I hf ⟨q1,q2,⟨u,v,q3⟩,q4,q5⟩ hg
  subst hP hw hK
  obtain⟨xs,ys,x,y,hx,hy,ex,ey⟩:=hg
  obtain⟨its,rx,px,_⟩:=I.sq hx
  obtain⟨jts,ry,py,_⟩:=I.sq hy
  obtain⟨ux,hux,rux⟩:=rx.get ex
  obtain⟨uy,huy,ruy⟩:=ry.get ey
  have lt:∀ b∈[z,ti,to,i,j],b<s.heap.objs.size:=fun b hb=>by
    simp only[List.mem_cons,List.not_mem_nil,or_false]at hb
    rcases hb with rfl|rfl|rfl|rfl|rfl
    · exact Heap.lt_size q1
    · exact Heap.lt_size q2
    · exact Heap.lt_size q3
    · exact q4.lt
    · exact q5.lt
  refine zgU D q1 q2 q3 q4 q5 px py (x:=ux) (y:=uy) (by simpa using hux) (by simpa using huy) fun h' a1 a2 a3 a4 a5 a6 a7=>⟨_,rfl,let_go a1 fun h'' b1 b2=>?_⟩
  have hzp:s.heap.objs.size≠z:=Nat.ne_of_gt (lt z (by simp))
  have kk:∀ b o,b ∉ [z,ti,to,i,j]→s.heap.get? b=some o→h''.get? b=some o:=fun b o hb e=>by
    obtain⟨c1,c2,c3,c4,c5⟩:=mem5 hb
    exact b2.extBut _ _ c1 (a7 b o c1 c3 c4 c5 e)
  obtain⟨hn,I1⟩:=I.pair (t':=s.toks) (h':=h'') rux ruy (b2.extBut _ _ hzp a5) kk hf lt
  refine⟨.ref s.heap.objs.size,_,I1,rfl,⟨_,x,y,fun zs hz=>by rw[I.sq_inj hz hx];exact ex,fun zs hz=>by rw[I.sq_inj hz hy];exact ey,hn,rfl,rfl⟩,?_,fun b hb=>by rw[z0q (Nat.ne_of_lt (lt b hb))];exact(hf b hb).1⟩
  exact⟨b1,b2.extBut _ _ D.p1 (a7 _ _ D.p1 D.p5 D.p6 D.p7 q2),⟨_,_,b2.extBut _ _ D.p2 a2⟩,a3.at fun o e=>b2.extBut _ _ D.p3 e,a4.at fun o e=>b2.extBut _ _ D.p4 e⟩
 done:=by
  intro X hP hw hK hc k pins s σ H E I hf ⟨q1,q2,⟨u,v,q3⟩,q4,q5⟩ hg
  subst hP hw hK
  obtain⟨xs,ys,hx,hy,ex,ey⟩:=hg
  obtain⟨its,rx,px,_⟩:=I.sq hx
  obtain⟨jts,ry,py,_⟩:=I.sq hy
  have l1:=rx.length
  have l2:=ry.length
  refine zib (I.ok.hd hc) D q1 q2 q3 q4 q5 px py (by simp;omega) (by simp;omega) fun h' a7=>⟨rfl,I.turnedL (t':=s.toks) (ch:=[z,ti,to,i,j]) (fun b o hb e=>?_) hf⟩
  obtain⟨c1,c2,c3,c4,c5⟩:=mem5 hb
  exact a7 b o c1 c3 c4 c5 e
 self:=fun _ _ _ _ _ q h=>zbu q.1 h
def Ite(K:PySem.W.Frag)(a:Addr):It where
 go:=fun i H=>∃ xs x,SqL K H a xs∧xs[i]?=some x
 yld:=fun i H v H'=>∃ p x,(∀ xs,SqL K H a xs→xs[i]?=some x)∧H p=none∧v = .ref p∧H'=upd H p (.tup [.int i,x])
 stop:=fun i H=>∃ xs,SqL K H a xs∧xs.length≤i
theorem zgW{P:Program}{w:World}{K:PySem.W.Frag}{elts:List Expr}{n:Nat}{pos:Pos}{e it a:Addr}(hne:e≠it):
  Turn P w K (.Tuple elts n pos) (Ite K a) [e,it] e (fun k h=>(∃ old,IsEnum h e it k old)∧h.IsListIter it a k) where
 mem:=by simp
 obj:=fun k h ⟨⟨old,q1⟩,q2⟩ c hc=>by
  simp only[List.mem_cons,List.not_mem_nil,or_false]at hc
  rcases hc with rfl|rfl
  · exact⟨_,q1,fun v z=>by have z':Data.fields _=Data.cell v:=z;cases z'⟩
  · obtain⟨o,e,_,d⟩:=q2;exact⟨o,e,fun v z=>by rw[d]at z;cases z⟩
 keep:=fun k h h' ⟨⟨old,q1⟩,q2⟩ kk=>⟨⟨old,kk e (by simp) _ q1⟩,q2.at fun o q=>kk it (by simp) o q⟩
 item:=by
  intro X hP hw hK hc k pins s σ H E I hf ⟨⟨old,q1⟩,q2⟩ hg
  subst hP hw hK
  obtain⟨xs,x,hx,ex⟩:=hg
  obtain⟨its,rx,px,_⟩:=I.list hx
  obtain⟨ux,hux,rux⟩:=rx.get ex
  have lt:∀ b∈[e,it],b<s.heap.objs.size:=fun b hb=>by
    simp only[List.mem_cons,List.not_mem_nil,or_false]at hb
    rcases hb with rfl|rfl
    · exact Heap.lt_size q1
    · obtain⟨o,z,_⟩:=q2;exact Heap.lt_size z
  refine wpAny_pyNext_enum_item q1 q2 px.isList (x:=ux) (by simpa using hux) hne fun h' a1 a2 a3 a4 a5=>⟨_,rfl,wpAny_letOwnedTupleGo_enum a1 fun h'' b1 b2=>?_⟩
  have hzp:s.heap.objs.size≠e:=Nat.ne_of_gt (lt e (by simp))
  have kk:∀ b o,b ∉ [e,it]→s.heap.get? b=some o→h''.get? b=some o:=fun b o hb q=>by
    have c:b≠e∧b≠it:=by simpa using hb
    exact b2.extBut _ _ c.1 (a5 b o c.1 c.2 q)
  obtain⟨hn,I1⟩:=I.pair (x := .int k) (t':=s.toks+1) (h':=h'') ⟨s.toks,rfl⟩ rux (b2.extBut _ _ hzp a3) kk hf lt
  refine⟨.ref s.heap.objs.size,_,I1,rfl,⟨_,x,fun zs hz=>by rw[I.list_inj hz hx];exact ex,hn,rfl,rfl⟩,⟨⟨_,b1⟩,a2.at fun o q=>b2.extBut _ _ (Ne.symm hne) q⟩,fun b hb=>by rw[z0q (Nat.ne_of_lt (lt b hb))];exact(hf b hb).1⟩
 done:=by
  intro X hP hw hK hc k pins s σ H E I hf ⟨⟨old,q1⟩,q2⟩ hg
  subst hP hw hK
  obtain⟨xs,hx,ex⟩:=hg
  obtain⟨its,rx,px,_⟩:=I.list hx
  have l1:=rx.length
  refine wpAny_pyNext_enum_end (I.ok.hd hc) q1 q2 px.isList (by simp;omega) fun h' a5=>⟨rfl,I.turnedL (t':=s.toks) (ch:=[e,it]) (fun b o hb q=>?_) hf⟩
  have c:b≠e∧b≠it:=by simpa using hb
  exact a5 b o c.2 q
 self:=fun _ _ _ _ _ q h=>by obtain⟨⟨old,q1⟩,_⟩:=q;exact wpAny_pyIter_enum q1 h
def Itv(K:PySem.W.Frag)(a:Addr)(n:Nat):It where
 go:=fun i H=>i<n∧∃ xs,SqL K H a xs∧xs.length=n
 yld:=fun i H v H'=>H'=H∧∀ xs,SqL K H a xs→xs[n-1-i]?=some v
 stop:=fun i H=>n≤i
theorem zie{P:Program}{w:World}{K:PySem.W.Frag}{tg:Expr}{it a:Addr}{n:Nat}:Turn P w K tg (Itv K a n) [it] it (fun k h=>k≤n∧h.IsRevIter it a ((n:Int)-1-(k:Int))) where
 mem:=by simp
 obj:=fun k h ⟨_,q⟩ c hc=>by
  have e:c=it:=by simpa using hc
  subst e
  obtain⟨o,e,_,d⟩:=q;exact⟨o,e,fun v z=>by rw[d]at z;cases z⟩
 keep:=fun k h h' ⟨q0,q⟩ kk=>⟨q0,q.at fun o z=>kk it (by simp) o z⟩
 item:=by
  intro X hP hw hK hc k pins s σ H E I hf ⟨q0,q⟩ hg
  subst hP hw hK
  obtain⟨hk,xs,hx,hn⟩:=hg
  obtain⟨its,rx,px,_⟩:=I.list hx
  have hlt:n-1-k<xs.length:=by omega
  obtain⟨ux,hux,rux⟩:=rx.get (List.getElem?_eq_getElem hlt)
  obtain⟨f0,f1,f2,f3,f4,f5⟩:=hf it (by simp)
  have e1:(n:Int)-1-(k:Int)=((n-1-k:Nat):Int):=by omega
  rw[e1]at q
  refine wpAny_pyNext_rev_item q px.isList (x:=ux) (by simpa using hux) fun h' b1 b2=>?_
  have I1:Inv X pins σ H { s with heap:=h' }:=I.turned (t':=s.toks) (fun b o hb e=>(b2.2 b hb).trans e) f0 f1 f3 f4 f5
  have e2:((n-1-k:Nat):Int)-1=(n:Int)-1-((k+1:Nat):Int):=by omega
  rw[e2]at b1
  obtain⟨o,e,c,d⟩:=id b1
  exact⟨ux,rfl,zfU (s:={ s with heap:=h' }) e c d (by decide) ⟨_,H,I1,rux,⟨rfl,fun ys hy=>by rw[I.list_inj hy hx];exact List.getElem?_eq_getElem hlt⟩,⟨by omega,b1⟩,fun b hb=>(hf b hb).1⟩⟩
 done:=by
  intro X hP hw hK hc k pins s σ H E I hf ⟨q0,q⟩ hg
  subst hP hw hK
  have hg:n≤k:=hg
  obtain rfl:k=n:=by omega
  obtain⟨f0,f1,f2,f3,f4,f5⟩:=hf it (by simp)
  have e1:(k:Int)-1-(k:Int) = -1:=by omega
  rw[e1]at q
  exact wpAny_pyNext_rev_end (I.ok.hd hc) q fun h' eb=>⟨rfl,I.turned (t':=s.toks) (fun b o hb e=>eb b o hb e) f0 f1 f3 f4 f5⟩
 self:=fun _ _ _ _ _ st h=>wpAny_pyIter_revIter st.2 h
section
variable {K:PySem.W.Frag}{H1:Hp}
theorem zlR{A:List Addr}{H:Hp}{p:Addr}{o:HO}(hp:H p=none)(hA:∀ a∈A,∃ o,H a=some o):hidL A (upd H p o)=upd (hidL A H) p o:=funext fun b=>by
 have np:p ∉ A:=fun z=>by obtain⟨u,e⟩:=hA p z;rw[hp]at e;cases e
 by_cases q:b=p
 · subst q;rw[z0l np,z0H,z0H]
 · rw[z0q q]
   by_cases z:b∈A
   · rw[z2f z,z2f z]
   · rw[z0l z,z0l z,z0q q]
theorem zby{A:List Addr}{H:Hp}{p:Addr}{d d':Dt}{x y:V}(hp:H p=none)(hA:∀ a∈A,∃ o,H a=some o)(rx:Rp K emp d (hidL A H) x)(ry:Rp K emp d' (hidL A H) y):
  Same (hidL A H) (hidL A (upd H p (.tup [x,y])))∧(∀ a∈A,upd H p (.tup [x,y]) a=H a)∧Rp K emp (.tup [d,d']) (hidL A (upd H p (.tup [x,y]))) (.ref p):=by
 have np:p ∉ A:=fun z=>by obtain⟨u,e⟩:=hA p z;rw[hp]at e;cases e
 have hq:hidL A H p=none:=by rw[z0l np];exact hp
 rw[zlR hp hA]
 refine⟨z0W hq,fun a ha=>z0q fun z=>np (z ▸ ha),Rp.tup_.mpr ⟨p,_,rfl,SqT.of z0H,?_⟩⟩
 exact Rps.cons_.mpr ⟨x,[y],rfl,Rp.mono _ (z0W hq) rx,Rps.one (Rp.mono _ (z0W hq) ry)⟩
def zipD:List Dt→List Dt→List Dt
 | x::xs,y::ys => .tup [x,y]::zipD xs ys
 | _,_=>[]
theorem zbz:∀{xs ys:List Dt} {i:Nat} {d:Dt},(zipD xs ys)[i]?=some d→∃ x y,xs[i]?=some x∧ys[i]?=some y∧d = .tup [x,y]
 | [],ys,i,d,h=>by simp[zipD]at h
 | x::xs,[],i,d,h=>by simp[zipD]at h
 | x::xs,y::ys,0,d,h=>by simp[zipD]at h;exact⟨x,y,rfl,rfl,h.symm⟩
 | x::xs,y::ys,i+1,d,h=>by
  have h:(zipD xs ys)[i]?=some d:=by simpa[zipD]using h
  obtain⟨a,b,q1,q2,q3⟩:=zbz h
  exact⟨a,b,by simpa using q1,by simpa using q2,q3⟩
theorem z5D:∀{xs ys:List Dt},(zipD xs ys).length=min xs.length ys.length
 | [],ys=>by simp[zipD]
 | x::xs,[]=>by simp[zipD]
 | x::xs,y::ys=>by rw[zipD,List.length_cons,z5D,List.length_cons,List.length_cons];omega
theorem zif{ta tb:Bool}{a b:Addr}{ds es:List Dt}{vs ws:List V}(h1:SqV K ta H1 a vs)(h2:SqV K tb H1 b ws)(r1:Rps K emp ds H1 vs)(r2:Rps K emp es H1 ws)(hl:ds.length=es.length):Walk K (Itz K ta tb a b) (zipD ds es) H1:=by
 intro A H sm hA
 have s2:Same H1 H:=sm.trans z0y
 refine⟨fun i d e=>?_,fun i hi=>⟨vs,ws,h1.mono s2,h2.mono s2,?_,?_⟩⟩
 · obtain⟨x,y,ex,ey,rfl⟩:=zbz e
   obtain⟨v,e1,p1⟩:=r1.get ex
   obtain⟨u,e2,p2⟩:=r2.get ey
   refine⟨⟨vs,ws,v,u,h1.mono s2,h2.mono s2,e1,e2⟩,?_⟩
   rintro z H' ⟨p,v',u',f1,f2,hp,ez,eH⟩
   have g1:=f1 vs (h1.mono s2)
   have g2:=f2 ws (h2.mono s2)
   rw[e1]at g1
   rw[e2]at g2
   cases g1;cases g2
   subst ez;subst eH
   exact zby hp hA (Rp.mono _ sm p1) (Rp.mono _ sm p2)
 · rw[z5D]at hi;rw[r1.length];omega
 · rw[z5D]at hi;rw[r2.length];omega
def z2p:Nat→List Dt→List Dt
 | _,[]=>[]
 | n,x::xs => .tup [.int n,x]::z2p (n+1) xs
theorem z9u:∀{xs:List Dt} {n i:Nat} {d:Dt},(z2p n xs)[i]?=some d→∃ x,xs[i]?=some x∧d = .tup [.int ((n+i:Nat):Int),x]
 | [],n,i,d,h=>by simp[z2p]at h
 | x::xs,n,0,d,h=>by simp[z2p]at h;exact⟨x,rfl,h.symm⟩
 | x::xs,n,i+1,d,h=>by
  have h:(z2p (n+1) xs)[i]?=some d:=by simpa[z2p]using h
  obtain⟨a,q1,q3⟩:=z9u h
  exact⟨a,by simpa using q1,by rw[q3,show n+1+i=n+(i+1) by omega]⟩
theorem z6g:∀{xs:List Dt} {n:Nat},(z2p n xs).length=xs.length
 | [],n=>rfl
 | x::xs,n=>by rw[z2p,List.length_cons,List.length_cons,z6g]
theorem zgX{a:Addr}{ds:List Dt}{vs:List V}(h1:SqL K H1 a vs)(r1:Rps K emp ds H1 vs):Walk K (Ite K a) (z2p 0 ds) H1:=by
 intro A H sm hA
 have s2:Same H1 H:=sm.trans z0y
 refine⟨fun i d e=>?_,fun i hi=>⟨vs,s2.seq h1,?_⟩⟩
 · obtain⟨x,ex,rfl⟩:=z9u e
   rw[Nat.zero_add]
   obtain⟨v,e1,p1⟩:=r1.get ex
   refine⟨⟨vs,v,s2.seq h1,e1⟩,?_⟩
   rintro z H' ⟨p,v',f1,hp,ez,eH⟩
   have g1:=f1 vs (s2.seq h1)
   rw[e1]at g1
   cases g1
   subst ez;subst eH
   exact zby hp hA (Rp.int_.mpr rfl) (Rp.mono _ sm p1)
 · rw[z6g]at hi;rw[r1.length];omega
theorem zig{a:Addr}{ds:List Dt}{vs:List V}(h1:SqL K H1 a vs)(r1:Rps K emp ds H1 vs):Walk K (Itv K a vs.length) ds.reverse H1:=by
 intro A H sm hA
 have s2:Same H1 H:=sm.trans z0y
 have hl:=r1.length
 refine⟨fun i d e=>?_,fun i hi=>?_⟩
 · have hi:i<ds.length:=by
    by_cases hi:i<ds.length
    · exact hi
    · rw[List.getElem?_eq_none (by simp;omega)]at e;cases e
   rw[List.getElem?_reverse hi]at e
   obtain⟨v,e1,p1⟩:=r1.get e
   refine⟨⟨by omega,vs,s2.seq h1,rfl⟩,?_⟩
   rintro z H' ⟨eH,f1⟩
   subst eH
   have g1:=f1 vs (s2.seq h1)
   rw[hl,e1]at g1
   cases g1
   exact⟨Same.refl _,fun _ _=>rfl,Rp.mono _ sm p1⟩
 · show vs.length≤i
   rw[List.length_reverse]at hi;omega
end
section
variable {X:Cx}{a b e:Expr}{Fa Fb:FE}{elts:List Expr}{n:Nat}{tpos pos:Pos}
theorem zgY{M:Model}{A:Around}{E:Value→Shared→Prop}{s:Shared}{env:Env}{T:String}{es:List Expr}{kws:List Keyword}{Q:Value→Shared→Prop}
  (h:wpAny M A (spliced (backTo pos (starEach (e::es) env))) (fun vs s1=>wpAny M A (evalAll ((backToKw pos (keywordEach kws env)).map (·.2))) (fun ks s2=>wpAny M A (call (.type T) vs (((backToKw pos (keywordEach kws env)).filterMap (·.1)).zip ks)) Q E s2) E s1) E s)
  (h1:backTo pos (starEach (e::es) env)=(false,eval e env)::backTo pos (starEach es env)) (h2:(backTo pos (starEach (e::es) env)).any (·.1)=false) (h3:(backToKw pos (keywordEach kws env)).all (·.1.isSome)=true) (h4:(backToKw pos (keywordEach kws env)).any (·.1.isNone)=false) :
  wpAny M A (callWith pos (.type T) [] (backTo pos (starEach (e::es) env)) (backToKw pos (keywordEach kws env))) Q E s:=by
 unfold callWith
 have g:wpAny M A (evalArgs (.type T) true (backTo pos (starEach (e::es) env)) (backToKw pos (keywordEach kws env))) (fun z s1=>wpAny M A (call (.type T) ([]++z.pos) z.kw) Q E s1) E s:=by
  rw[h1]at h ⊢
  exact evalArgs_kwB h3 h
 refine wpAny_bind (wpAny_holding (wpAny_mono g (fun z s1 g1=>wpAny_bind (wpAny_standAt ?_)) fun _ _ x=>x))
 simp only[h2,h4,Bool.or_false]
 refine wpAny_bind (wpAny_pure ?_)
 exact wpAny_bind (wpAny_mono g1 (fun r s2 hr=>wpAny_bind (wpAny_holding (wpAny_point (wpAny_pure hr)))) fun _ _ x=>x)
theorem zih{H:Hp}{d:Dt}{ds:List Dt}{v:V}(e:seqD d=some ds)(r:Rp X.K emp d H v):∃ tu p vs,v = .ref p∧SqV X.K tu H p vs∧Rps X.K emp ds H vs:=by
 cases d<;>first|cases e|skip
 · obtain⟨p,vs,rfl,_,h1,h2⟩:=r.items
   exact⟨false,p,vs,rfl,SqL.of h1,h2⟩
 · obtain⟨p,vs,rfl,h1,h2⟩:=Rp.tup_.mp r
   exact⟨true,p,vs,rfl,h1,h2⟩
def iZip(F G:FE):FI:=fun ρ=>(F ρ).bind fun x=>(G ρ).bind fun y=>(seqD x.2).bind fun xs=>(seqD y.2).bind fun ys=>if xs.length=ys.length then some (zipD xs ys) else none
theorem zii{p kp kpos:Pos}{jc:Nat}(hg:Gl X "zip")(hm:X.mg "zip" = none)(ha:PF X a Fa)(hb:PF X b Fb)(hs:starEach [a,b] X.env=[(false,eval a X.env),(false,eval b X.env)]:=by rfl)(hs1:starEach [b] X.env=[(false,eval b X.env)]:=by rfl):
   PFI X (.Tuple elts n tpos) (.Call (.Name "zip" p) [a,b] [⟨some "strict",.Constant (.bool true) jc kp,kpos⟩] pos) (iZip Fa Fb):=by
 intro pins s σ H R I ⟨ρ,items,rs,e0,k⟩
 obtain⟨⟨fa,da⟩,ea,e1⟩:=z04 e0
 obtain⟨⟨fb,db⟩,eb,e2⟩:=z04 e1
 obtain⟨xs,ex,e3⟩:=z04 e2
 obtain⟨ys,ey,e4⟩:=z04 e3
 clear e0 e1 e2 e3
 split at e4
 · rename_i hl
   cases e4
   have hA:PA X [a,b] (upAs X (z02 Fa (z02 Fb fNil))):=z03 ha (z03 hb z07 hs1) (by rw[hs,hs1])
   refine wpAny_Call_Name_kw (z3u I hg hm (by decide +kernel:bootBuiltins "zip" = some (.type "zip")) ?_)
   refine zgY (T := "zip") (thn (hA pos pins s σ H (fun vs H1=>Same H H1∧∃ va vb,vs=[va,vb]∧Rp X.K emp da H1 va∧Rp X.K emp db H1 vb) I ⟨ρ,[(fa,da),(fb,db)],rs,by simp[z02,fNil,ea,eb],fun vs H1 s1 ⟨va,r1,ee1,q1,vb,r2,ee2,q2,q3⟩=>⟨s1,va,vb,by rw[ee1,ee2,show r2=[]from q3],q1.sh,q2.sh⟩⟩) fun us s1 ⟨vs,H1,I1,rv,s1H,va,vb,ev,ra,rb⟩=>?_) (by rw[hs,hs1];rfl) (by rw[hs];rfl) rfl rfl
   subst ev
   obtain⟨ua,ub,rfl,rua,rub⟩:=rv.two
   obtain⟨ta,pa,vsa,rfl,qa1,qa2⟩:=zih ex ra
   obtain⟨tb,pb,vsb,rfl,qb1,qb2⟩:=zih ey rb
   cases rua;cases rub
   have hk:=zfV (X:=X) (nm:=some "strict") (kpos:=kpos) (pe_bl (X:=X) (b:=true) (j:=jc) (pos:=kp)) zhM
   refine thn (hk pos pins s1 σ H1 (fun zs H2=>zs=[.bl true]∧H2=H1) I1 ⟨rfl,rfl⟩) ?_
   rintro ks s2 ⟨zs,H2,I2,rz,ez,eH⟩
   subst ez;subst eH
   obtain⟨uk,rfl,ruk⟩:=rz.one
   cases ruk
   obtain⟨ita,rva,sa,hza⟩:=I2.sq qa1
   obtain⟨itb,rvb,sb,hzb⟩:=I2.sq qb1
   refine zic sa sb ?_
   have z1:(h1 s2.heap ta pa).objs.size=s2.heap.objs.size+1:=Heap.size_push ..
   have z2:(h2 s2.heap ta tb pa pb).objs.size=s2.heap.objs.size+2:=by rw[Heap.size_push,z1]
   have z3:(h3 s2.heap ta tb pa pb).objs.size=s2.heap.objs.size+3:=by rw[Heap.size_push,z2]
   have z4:(h4 s2.heap ta tb pa pb).objs.size=s2.heap.objs.size+4:=by rw[Heap.size_push,z3]
   have g5:(h5 s2.heap ta tb pa pb).get? (h4 s2.heap ta tb pa pb).objs.size=some _:=Heap.get?_push_size _ rfl
   have g4:(h5 s2.heap ta tb pa pb).get? (h3 s2.heap ta tb pa pb).objs.size=some _:=Heap.get?_push_of_some _ (Heap.get?_push_size _ rfl)
   have g3:(h5 s2.heap ta tb pa pb).get? (h2 s2.heap ta tb pa pb).objs.size=some _:=Heap.get?_push_of_some _ (Heap.get?_push_of_some _ (Heap.get?_push_size _ rfl))
   have g2:(h5 s2.heap ta tb pa pb).get? (h1 s2.heap ta pa).objs.size=some _:=Heap.get?_push_of_some _ (Heap.get?_push_of_some _ (Heap.get?_push_of_some _ (Heap.get?_push_size _ rfl)))
   have g1:(h5 s2.heap ta tb pa pb).get? s2.heap.objs.size=some _:=Heap.get?_push_of_some _ (Heap.get?_push_of_some _ (Heap.get?_push_of_some _ (Heap.get?_push_of_some _ (Heap.get?_push_size _ rfl))))
   have up:∀ c o,s2.heap.get? c=some o→(h5 s2.heap ta tb pa pb).get? c=some o:=fun c o x=>Heap.get?_push_of_some _ (Heap.get?_push_of_some _ (Heap.get?_push_of_some _ (Heap.get?_push_of_some _ (Heap.get?_push_of_some _ x))))
   refine zbu (z:=(h4 s2.heap ta tb pa pb).objs.size) (ti:=(h2 s2.heap ta tb pa pb).objs.size) (to:=(h3 s2.heap ta tb pa pb).objs.size) (f := .none) g5 ?_
   have la:=sa.lt
   have lb:=sb.lt
   have D:Apart (h4 s2.heap ta tb pa pb).objs.size (h2 s2.heap ta tb pa pb).objs.size (h3 s2.heap ta tb pa pb).objs.size s2.heap.objs.size (h1 s2.heap ta pa).objs.size pa pb:=by
     rw[z1,z2,z3,z4]
     constructor<;>exact fun z=>by simp only[Addr]at *;omega
   refine⟨_,[(h4 s2.heap ta tb pa pb).objs.size,(h2 s2.heap ta tb pa pb).objs.size,(h3 s2.heap ta tb pa pb).objs.size,s2.heap.objs.size,(h1 s2.heap ta pa).objs.size],_,_,H2,rfl,I2.kept (t':=s2.toks) up,zid (ta:=ta) (tb:=tb) D,⟨g5,g3,⟨_,_,g4⟩,zbx g1,zbx g2⟩,fun c hc=>?_,k _ H2 s1H ?_ (zif qa1 qb1 qa2 qb2 hl)⟩
   · have hge:s2.heap.objs.size≤c:=by
      rw[z1,z2,z3,z4]at hc
      simp only[List.mem_cons,List.not_mem_nil,or_false]at hc
      rcases hc with rfl|rfl|rfl|rfl|rfl<;>omega
     exact I2.fpOk hge (I2.hok.fresh hge)
   · rw[z5D,←qa2.length];omega
 · cases e4
def lstD:Dt→Option (List Dt)
 | .lst ds=>some ds
 | _=>none
def z5E(F:FE):FI:=fun ρ=>(F ρ).bind fun x=>(lstD x.2).map (z2p 0)
theorem zij{H:Hp}{d:Dt}{ds:List Dt}{v:V}(e:lstD d=some ds)(r:Rp X.K emp d H v):∃ p vs,v = .ref p∧SqL X.K H p vs∧Rps X.K emp ds H vs:=by
 cases d<;>first|cases e|skip
 obtain⟨p,vs,rfl,_,h1,h2⟩:=r.items
 exact⟨p,vs,rfl,SqL.of h1,h2⟩
theorem zik{p:Pos}(hg:Gl X "enumerate")(hm:X.mg "enumerate" = none)(ha:PF X a Fa)(hs:starEach [a] X.env=[(false,eval a X.env)]:=by rfl):PFI X (.Tuple elts n tpos) (.Call (.Name "enumerate" p) [a] [] pos) (z5E Fa):=by
 intro pins s σ H R I ⟨ρ,items,rs,e0,k⟩
 obtain⟨⟨fa,da⟩,ea,e1⟩:=z04 e0
 cases ex:lstD da with
 | none=>rw[ex]at e1;cases e1
 | some xs =>
  rw[ex]at e1
  cases e1
  have hA:PA X [a] (upAs X (z02 Fa fNil)):=z03 ha z07 hs
  refine wpAny_Call_Name_kw (z3u I hg hm (by decide +kernel:bootBuiltins "enumerate" = some (.type "enumerate")) ?_)
  refine PyProof.Rows.callWith_type1 (thn (hA pos pins s σ H (fun vs H1=>Same H H1∧∃ va,vs=[va]∧Rp X.K emp da H1 va) I ⟨ρ,[(fa,da)],rs,by simp[z02,fNil,ea],fun vs H1 s1 ⟨va,r1,ee1,q1,q3⟩=>⟨s1,va,by rw[ee1,show r1=[]from q3],q1.sh⟩⟩) fun us s1 ⟨vs,H1,I1,rv,s1H,va,ev,ra⟩=>?_) hs rfl
  subst ev
  obtain⟨ua,rfl,rua⟩:=rv.one
  obtain⟨pa,vsa,rfl,qa1,qa2⟩:=zij ex ra
  cases rua
  obtain⟨ita,rva,pl,hza⟩:=I1.list qa1
  refine call_enumerate_list pl.isList fun h' b1 b2 b3 b4=>wpAny_pyIter_enum b1 ?_
  refine⟨_,[s1.heap.objs.size+1,s1.heap.objs.size],_,_,H1,rfl,I1.kept (t':=s1.toks) b4,zgW (Nat.succ_ne_self _),⟨⟨_,b1⟩,b2⟩,fun c hc=>?_,k _ H1 s1H ?_ (zgX qa1 qa2)⟩
  · have hge:s1.heap.objs.size≤c:=by
     simp only[List.mem_cons,List.not_mem_nil,or_false]at hc
     rcases hc with rfl|rfl
     · exact Nat.le_succ _
     · exact Nat.le_refl _
    exact I1.fpOk hge (I1.hok.fresh hge)
  · rw[z6g,←qa2.length];exact hza
def iRev(F:FE):FI:=fun ρ=>(F ρ).bind fun x=>(lstD x.2).map List.reverse
theorem i_rev{tg:Expr}{p:Pos}(hg:Gl X "reversed")(hm:X.mg "reversed" = none)(ha:PF X a Fa)(hs:starEach [a] X.env=[(false,eval a X.env)]:=by rfl):PFI X tg (.Call (.Name "reversed" p) [a] [] pos) (iRev Fa):=by
 intro pins s σ H R I ⟨ρ,items,rs,e0,k⟩
 obtain⟨⟨fa,da⟩,ea,e1⟩:=z04 e0
 cases ex:lstD da with
 | none=>rw[ex]at e1;cases e1
 | some xs =>
  rw[ex]at e1
  cases e1
  have hA:PA X [a] (upAs X (z02 Fa fNil)):=z03 ha z07 hs
  refine wpAny_Call_Name_kw (z3u I hg hm (by decide +kernel:bootBuiltins "reversed" = some (.type "reversed")) ?_)
  refine PyProof.Rows.callWith_type1 (thn (hA pos pins s σ H (fun vs H1=>Same H H1∧∃ va,vs=[va]∧Rp X.K emp da H1 va) I ⟨ρ,[(fa,da)],rs,by simp[z02,fNil,ea],fun vs H1 s1 ⟨va,r1,ee1,q1,q3⟩=>⟨s1,va,by rw[ee1,show r1=[]from q3],q1.sh⟩⟩) fun us s1 ⟨vs,H1,I1,rv,s1H,va,ev,ra⟩=>?_) hs rfl
  subst ev
  obtain⟨ua,rfl,rua⟩:=rv.one
  obtain⟨pa,vsa,rfl,qa1,qa2⟩:=zij ex ra
  cases rua
  obtain⟨ita,rva,pl,hza⟩:=I1.list qa1
  have hn:ita.toArray.size=vsa.length:=by rw[List.size_toArray,←rva.length]
  refine call_reversed_list pl.isList ?_
  rw[hn]
  have g1:(s1.heap.push (revObj pa ((vsa.length:Int)-1))).get? s1.heap.objs.size=some _:=Heap.get?_push_size _ rfl
  have it1:(s1.heap.push (revObj pa ((vsa.length:Int)-1))).IsRevIter s1.heap.objs.size pa ((vsa.length:Int)-1-((0:Nat):Int)):=⟨_,g1,rfl,by show Data.fields _=_;simp⟩
  refine wpAny_pyIter_revIter it1 ?_
  refine⟨_,[s1.heap.objs.size],_,_,H1,rfl,I1.kept (t':=s1.toks) (fun c o x=>Heap.get?_push_of_some _ x),zie (n:=vsa.length),⟨Nat.zero_le _,it1⟩,fun c hc=>?_,k _ H1 s1H ?_ (zig qa1 qa2)⟩
  · rw[List.mem_singleton.mp hc]
    exact I1.fpOk (Nat.le_refl _) (I1.hok.fresh (Nat.le_refl _))
  · rw[List.length_reverse,←qa2.length];exact hza
end
end L2

end
section
set_option Elab.async false
set_option linter.all false
set_option maxRecDepth 100000
set_option maxHeartbeats 1000000
namespace L2
open PySem PySem.Spec PyProof.Rows
section
variable {X:Cx}
def zil:V→List V→Hp→VK→Prop:=fun x vs H Q=>∃ l xs y,x = .ref l∧vs=[.int 0,y]∧H l=some (.lst xs)∧xs.length<sizeLine∧Q .non (upd H l (.lst (y::xs)))
theorem zcV:MtM X "list.insert" zil:=by
 intro pins s σ H x vs v us Q I rx rv h
 obtain⟨l,xs,y,rfl,rfl,hH,hz,q⟩:=h
 cases rx
 obtain⟨u0,u,rfl,ru0,ru⟩:=rv.two
 obtain⟨t0,rfl⟩:=ru0
 obtain⟨z,its,n,r,hl,e⟩:=I.lstM hH
 refine call_meets F.slot_list_insert ⟨_,e,rfl⟩ F.entry_list_insert (F.args_list_insert_3 _ _ _) (AutoSeq1.list_insert_list_int_val_1 l its.toArray n 0 t0 u (by decide) (by rw[List.size_toArray];omega)) ⟨e,?_⟩
 refine⟨.non,_,I.lset (its':=u::its) hH e ?_ (.cons ru r) ?_,rfl,q⟩
 · simp
 · rw[List.length_cons];omega
theorem zg5{Y:Ky}{f g:Bool}:Same (bsOf Y (f&&g)) (bsOf Y f):=by
 cases f<;>cases g<;>first|exact Same.refl _|exact Same.emp
theorem zg6{Y:Ky}{f g:Bool}:Same (bsOf Y (f&&g)) (bsOf Y g):=by
 cases f<;>cases g<;>first|exact Same.refl _|exact Same.emp
section
variable {H₀ H H':Hp}{O:Own}{ρ:Rho}{σ:St}{i:Nat}{f:Bool}{ds:List Dt}
theorem RepO.get(h:RepO X H₀ H O ρ σ)(e:ρ[i]?=some (.ow f ds)):∃ a vs,(i,a)∈O∧σ[i]?=some (some (.ref a))∧H a=some (.lst vs)∧Rps X.K (bsOf X.ky f) ds (hidL O.adr H) vs:=by
 obtain⟨o,e1,a,vs,q1,q2,q3,q4⟩:=h.at_ i _ e
 subst q2
 exact⟨a,vs,q1,e1,q3,q4⟩
theorem zbA{x:Dv}{v:V}(rb:RepO X H₀ H O ρ σ)(r:RpF X.ky (hidL O.adr H) x.1 x.2 H' v):Rp X.K (bsOf X.ky x.1.isFr) x.2 H' v:=by
 by_cases q:x.1.isFr=true
 · rw[q];exact r.fr (rb.b0.trans rb.same) q
 · rw[show x.1.isFr=false by simpa using q];exact r.sh
theorem zlS{x:Dv}{v:V}(rb:RepO X H₀ H O ρ σ)(sm:Same H H')(q:x.1.isNw=true)(r:RpF X.ky H x.1 x.2 H' v):Rp X.K (bsOf X.ky true) x.2 (hidL O.adr H') v :=
 Rp.anti rb.below _ (zi8 rb.own sm q r)
end
abbrev FW:=List Dt→Dt→Option (List Dt)
def z35(ρ:Rho)(i:Nat):Option (Bool×List Dt):=match ρ[i]? with|some (.ow f ds)=>some (f,ds)|_=>none
theorem z3D{ρ:Rho}{i:Nat}{f:Bool}{ds:List Dt}(h:z35 ρ i=some (f,ds)):ρ[i]?=some (.ow f ds):=by
 unfold z35 at h
 split at h
 · rename_i e;cases h;exact e
 · cases h
def sWr(w:FW)(i:Nat)(F:FE):FS:=fun ρ=>(z35 ρ i).bind fun o=>(F (z1i ρ)).bind fun x=>(w o.2 x.2).map fun ds => .nx (ρ.set i (.ow (o.1&&x.1.isFr) ds))
def sWrA(w:FW)(i:Nat)(F:FE):FS:=fun ρ=>(z35 ρ i).bind fun o=>(F ρ).bind fun x=>if x.1.isNw then(w o.2 x.2).map fun ds => .nx (ρ.set i (.ow o.1 ds)) else none
def wApp:FW:=fun ds d=>if ds.length<1000000 then some (ds++[d]) else none
def z7X:FW:=fun ds d=>if ds.length<1000000 then some (d::ds) else none
def MtW(X:Cx)(id:String)(pre:List V)(w:FW):Prop:=∀(H:Hp) (B:Hp) (Hh:Hp) (l:Addr) (vs:List V) (y:V) (ds:List Dt) (d:Dt) (ds':List Dt) (Q:VK),H l=some (.lst vs)→Same Hh H→Rps X.K B ds Hh vs→Rp X.K B d Hh y→w ds d=some ds' →
 (∀ vs',Rps X.K B ds' Hh vs'→Q .non (upd H l (.lst vs')))→∃ r,MtM X id r∧r (.ref l) (pre++[y]) H Q
theorem zim:MtW X "list.append" [] wApp:=fun H B Hh l vs y ds d ds' Q hl sm rs r e k=>by
 unfold wApp at e
 split at e
 · rename_i h
   cases e
   exact⟨_,z9e,l,vs,y,rfl,rfl,hl,by rw[rs.length];exact Nat.lt_trans h (by decide),k _ (rs.append (Rps.one r))⟩
 · cases e
theorem zlT:MtW X "list.insert" [.int 0] z7X:=fun H B Hh l vs y ds d ds' Q hl sm rs r e k=>by
 unfold z7X at e
 split at e
 · rename_i h
   cases e
   exact⟨_,zcV,l,vs,y,rfl,rfl,hl,by rw[rs.length];exact Nat.lt_trans h (by decide),k _ (Rps.cons_.mpr ⟨y,vs,rfl,r,rs⟩)⟩
 · cases e
section
variable {id:String}{w:FW}{x:Str}{name:Str}{e:Expr}{Fe:FE}{i:Nat}{px apos cpos pos:Pos}{pre:List V}
theorem s_wr1(hw:MtW X id [] w)(slot:Slot "list" name id)(hty:typeOf (.builtin id)=pure (.type "method_descriptor"))(hN:X.N[i]?=some x)(hv:Vis X.env.scope x)(he:PF X e Fe)(hd:(x==("__debug__" : Str))=false:=by decide)(hcd:(x==("__classdict__" : Str))=false:=by decide)
  (hbase:attributeBase (.Name x px) name X.env (eval (.Name x px) X.env)=eval (.Name x px) X.env:=by rfl)
  (hfew:((backTo cpos (starEach [e] X.env)).all (fun x=>!x.1)&&(backToKw cpos (keywordEach [] X.env)).all (fun x=>x.1.isSome)&&decide ([e].length+([]:List Keyword).length+(if([]:List Keyword).isEmpty then 0 else 1)<30))=true:=by rfl)
  (hline:(apos.endLine==cpos.line)=true:=by rfl) (hs:starEach [e] X.env=[(false,eval e X.env)]:=by rfl) (hsw:swapsWith (.Call (.Attribute (.Name x px) name apos) [e] [] cpos) none pos.line X.env=pure false:=by rfl) :
  PFS X (.Expr (.Call (.Attribute (.Name x px) name apos) [e] [] cpos) pos) (sWr w i Fe):=by
 intro pins s σ H D I ⟨H₀,ρ,oc,⟨O,rb⟩,e0,k⟩
 obtain⟨⟨f,ds⟩,e1,e2⟩:=z04 e0
 obtain⟨z,e3,e4⟩:=z04 e2
 cases hw':w ds z.2 with
 | none=>rw[hw']at e4;cases e4
 | some ds' =>
  rw[hw']at e4
  cases e4
  obtain⟨a,vs,q1,q2,q3,q4⟩:=rb.get (z3D e1)
  have hm:MtM X id (fun o us H' Q=>∃ y,o = .ref a∧us=[y]∧Same (hidL O.adr H) (hidL O.adr H')∧H' a=some (.lst vs)∧Rp X.K (bsOf X.ky z.1.isFr) z.2 (hidL O.adr H') y∧∀ vs',Rps X.K (bsOf X.ky (f&&z.1.isFr)) ds' (hidL O.adr H') vs'→Q .non (upd H' a (.lst vs'))):=by
   intro pins s σ H' o us v vs2 Q I ro ru ⟨y,eo,eu,sm,ha,ry,kk⟩
   subst eo;subst eu
   obtain⟨r,hr,hq⟩:=hw H' (bsOf X.ky (f&&z.1.isFr)) (hidL O.adr H') a vs y ds z.2 ds' Q ha z0y (Rps.anti zg5 _ (Rps.mono _ sm q4)) (Rp.anti zg6 _ ry) hw' kk
   exact hr pins s σ H' _ _ v vs2 Q I ro ru hq
  refine zaq (pe_bm F.plainAttrs_list slot hty hm (z56 hN hv hd hcd) (PA.frame (z03 he z07 hs)) hbase hfew hline hs rfl) hsw pins s σ H D I ⟨.ref a,q2,.inl ⟨rfl,vs,SqL.of q3⟩,O.adr,rb.own,z1i ρ,[z],rb.rest,by simp[z02,fNil,e3],?_⟩
  rintro us H' sm ⟨y,r,eu,ry,er⟩ hn
  have er:r=[]:=er
  subst er;subst eu
  have hg:hidL O.adr (z11 O.adr H H')=H':=z2M hn
  refine⟨y,rfl,rfl,by rw[hg];exact sm,by rw[z4F (z3C q1)];exact q3,by rw[hg];exact zbA rb ry,fun vs' rs'=>k _ _ ⟨O,?_⟩⟩
  exact(rb.mono (Same.glue sm hn)).upd (z3D e1) q1 rs'
theorem s_insA{j0:Nat}{p0:Pos}(hN:X.N[i]?=some x)(hv:Vis X.env.scope x)(he:PF X e Fe)(hd:(x==("__debug__" : Str))=false:=by decide)(hcd:(x==("__classdict__" : Str))=false:=by decide)
   (hbase:attributeBase (.Name x px) "insert" X.env (eval (.Name x px) X.env)=eval (.Name x px) X.env:=by rfl)
   (hfew:((backTo cpos (starEach [.Constant (.int 0) j0 p0,e] X.env)).all (fun x=>!x.1)&&(backToKw cpos (keywordEach [] X.env)).all (fun x=>x.1.isSome)&&decide ([Expr.Constant (.int 0) j0 p0,e].length+([]:List Keyword).length+(if([]:List Keyword).isEmpty then 0 else 1)<30))=true:=by rfl)
   (hline:(apos.endLine==cpos.line)=true:=by rfl) (hs:starEach [e] X.env=[(false,eval e X.env)]:=by rfl) (hs2:starEach [.Constant (.int 0) j0 p0,e] X.env=(false,eval (.Constant (.int 0) j0 p0) X.env)::starEach [e] X.env:=by rfl)
   (hsw:swapsWith (.Call (.Attribute (.Name x px) "insert" apos) [.Constant (.int 0) j0 p0,e] [] cpos) none pos.line X.env=pure false:=by rfl) :
   PFS X (.Expr (.Call (.Attribute (.Name x px) "insert" apos) [.Constant (.int 0) j0 p0,e] [] cpos) pos) (sWrA z7X i Fe):=by
 intro pins s σ H D I ⟨H₀,ρ,oc,⟨O,rb⟩,e0,k⟩
 obtain⟨⟨f,ds⟩,e1,e2⟩:=z04 e0
 obtain⟨z,e3,e5⟩:=z04 e2
 split at e5
 · rename_i qn
   cases hw':z7X ds z.2 with
   | none=>rw[hw']at e5;cases e5
   | some ds' =>
    rw[hw']at e5
    cases e5
    obtain⟨a,vs,q1,q2,q3,q4⟩:=rb.get (z3D e1)
    have hm:MtM X "list.insert" (fun o us H' Q=>∃ y,o = .ref a∧us=[.int 0,y]∧Same H H'∧RpF X.ky H z.1 z.2 H' y∧∀ vs',Rps X.K (bsOf X.ky f) ds' (hidL O.adr H') vs'→Q .non (upd H' a (.lst vs'))):=by
     intro pins s σ H' o us v vs2 Q I ro ru ⟨y,eo,eu,sm,ry,kk⟩
     subst eo;subst eu
     have r1:=zlS rb sm qn ry
     obtain⟨r,hr,hq⟩:=zlT (X:=X) H' (bsOf X.ky f) (hidL O.adr H') a vs y ds z.2 ds' Q (sm _ _ q3) z0y (Rps.mono _ (z0R sm) q4) (Rp.anti (by cases f<;>first|exact Same.refl _|exact Same.emp) _ r1) hw' kk
     exact hr pins s σ H' _ _ v vs2 Q I ro ru hq
    refine zaq (pe_bm F.plainAttrs_list F.slot_list_insert F.type_list_insert hm (z56 hN hv hd hcd) (z03 (z0b (X:=X)) (z03 he z07 hs) hs2) hbase hfew hline hs2 (by rw[hs];rfl)) hsw pins s σ H D I ⟨.ref a,q2,.inl ⟨rfl,vs,SqL.of q3⟩,ρ,[(.nw,.int 0),z],rb.all,by simp[z02,fNil,fC,e3],?_⟩
    rintro us H' sm ⟨y0,r0,eu0,ry0,y,r,eu,ry,er⟩
    have er:r=[]:=er
    subst er;subst eu;subst eu0
    have e00:y0 = .int 0:=Rp.int_.mp ry0.sh
    subst e00
    exact⟨y,rfl,rfl,sm,ry,fun vs' rs'=>k _ _ ⟨O,(rb.mono sm).upd (z3D e1) q1 rs'⟩⟩
 · cases e5
end
def setD(ds:List Dt)(j:Int)(d:Dt):Option (List Dt):=(ixN ds.length j).map fun k=>ds.set k d
def sPut(i:Nat)(Fj Fe:FE):FS:=fun ρ=>(z35 ρ i).bind fun o=>(Fe (z1i ρ)).bind fun x=>(Fj ρ).bind fun j=>(intD j.2).bind fun n=>(setD o.2 n x.2).map fun ds => .nx (ρ.set i (.ow (o.1&&x.1.isFr) ds))
section
variable {x:Str}{e j:Expr}{Fe Fj:FE}{i:Nat}{px spos pos:Pos}
theorem zin(hN:X.N[i]?=some x)(hv:Vis X.env.scope x)(hj:PF X j Fj)(he:PF X e Fe)(hd:(x==("__debug__" : Str))=false:=by decide)(hcd:(x==("__classdict__" : Str))=false:=by decide)
  (ha:∀ v,assign (.Subscript (.Name x px) j spos) X.env v=(do
   let ov ←holding [v] (eval (.Name x px) X.env)
   let iv ←holding [v,ov] (eval j X.env)
   standAt spos
   holding [v,ov,iv] (setItem ov iv v)
   release [v,ov,iv] []):=by intro _;rfl)
  (hs:swapsWithSole [.Subscript (.Name x px) j spos] e pos.line X.env=pure false:=by rfl) (hw:swappedStores [.Subscript (.Name x px) j spos] e X.env=pure none:=by rfl)
  (h1:(assignEach [.Subscript (.Name x px) j spos] X.env).map (·.2)=[assign (.Subscript (.Name x px) j spos) X.env]:=by rfl) :
  PFS X (.Assign [.Subscript (.Name x px) j spos] e pos) (sPut i Fj Fe):=by
 intro pins s σ H D I ⟨H₀,ρ,oc,⟨O,rb⟩,e0,k⟩
 obtain⟨⟨f,ds⟩,e1,e2⟩:=z04 e0
 obtain⟨z,e3,e4⟩:=z04 e2
 obtain⟨⟨fj,dj⟩,e5,e6⟩:=z04 e4
 obtain⟨n,e7,e8⟩:=z04 e6
 obtain⟨a,vs,q1,q2,q3,q4⟩:=rb.get (z3D e1)
 unfold setD at e8
 cases hx:ixN ds.length n with
 | none=>rw[hx]at e8;cases e8
 | some m =>
  rw[hx]at e8
  cases e8
  refine zhE (PE.frame he) (zhD (z56 hN hv hd hcd) hj zbi ha) hs hw h1 pins s σ H D I ⟨O.adr,rb.own,z1i ρ,z.1,z.2,rb.rest,e3,fun v H' sm r hn=>?_⟩
  have hg:hidL O.adr (z11 O.adr H H')=H':=z2M hn
  have rb2:=rb.mono (Same.glue sm hn)
  refine⟨.ref a,q2,ρ,fj,dj,rb2.all,e5,fun v2 H2 s2 r2=>?_⟩
  have ed:=z2r e7
  have ed:dj = .int n:=ed
  subst ed
  have rv:Rp X.K (bsOf X.ky z.1.isFr) z.2 (hidL O.adr H2) v:=Rp.mono _ (by rw[←hg];exact z0R s2) (zbA rb r)
  have ha2:H2 a=some (.lst vs):=s2 _ _ (by rw[z4F (z3C q1)];exact q3)
  refine⟨a,vs,n,m,rfl,Rp.int_.mp r2.sh,ha2,by rw[q4.length];exact hx,k _ _ ⟨O,(rb2.mono s2).upd (z3D e1) q1 ?_⟩⟩
  exact Rps.set m (Rps.anti zg5 _ (Rps.mono _ (z0R ((Same.glue sm hn).trans s2)) q4)) (Rp.anti zg6 _ rv)
end
end
end L2

end
section
set_option Elab.async false
set_option linter.all false
set_option maxRecDepth 100000
set_option maxHeartbeats 1000000
namespace L2
open PySem PySem.Spec PyProof.Rows
def upR(X:Cx)(F:FI):TI:=fun σ H R=>∃ ρ items,RepS X.ky H ρ σ∧F ρ=some items∧∀ J H',Same H H'→items.length≤sizeLine→(∀ H2,Walk X.K J items H2)→R J H'
def PFR(X:Cx)(tg e:Expr)(F:FI):Prop:=PI X tg e (upR X F)
section
variable {X:Cx}{tg a b e:Expr}{Fa Fb Fe:FE}{pos:Pos}
theorem zgZ{p:Pos}(hg:Gl X "range")(hm:X.mg "range" = none)(ha:PF X a Fa)(hs:starEach [a] X.env=[(false,eval a X.env)]:=by rfl):PFR X tg (.Call (.Name "range" p) [a] [] pos) (z0s Fa) :=
 (z97 hg hm (z3w ha z7I hs) hs).imp fun σ H R hZ=>hZ.elim fun ρ hZ=>hZ.elim fun items hZ=>hZ.elim fun rs hZ=>hZ.elim fun e0 k=>by
  obtain⟨⟨f,d⟩,e1,e2⟩:=z04 e0
  obtain⟨j,e3,e4⟩:=z04 e2
  clear e0 e2
  have ed:=z2r e3
  cases (show d = .int j from ed)
  split at e4
  · rename_i hr
    cases e4
    obtain⟨h1,h2⟩:=zaz hr
    refine⟨ρ,f,_,rs,e1,fun v H1 s1 r1=>⟨j,by rw[Rp.int_.mp r1.sh],by omega,by omega,k _ H1 s1 ?_ (fun _=>z5a)⟩⟩
    rw[z5b]
    have:sizeLine=16777216:=rfl
    omega
  · cases e4
theorem zh{p:Pos}(hg:Gl X "range")(hm:X.mg "range" = none)(ha:PF X a Fa)(hb:PF X b Fb)(hs:starEach [a,b] X.env=[(false,eval a X.env),(false,eval b X.env)]:=by rfl)
  (hs1:starEach [b] X.env=[(false,eval b X.env)]:=by rfl):PFR X tg (.Call (.Name "range" p) [a,b] [] pos) (z7r Fa Fb) :=
 (zgG hg hm (z3w ha (z3w hb z7I hs1) (by rw[hs,hs1])) hs hs1).imp fun σ H R hZ=>hZ.elim fun ρ hZ=>hZ.elim fun items hZ=>hZ.elim fun rs hZ=>hZ.elim fun e0 k=>by
  obtain⟨⟨f,d⟩,e1,e2⟩:=z04 e0
  obtain⟨⟨f',d'⟩,e1',e2'⟩:=z04 e2
  obtain⟨i,e3,e4⟩:=z04 e2'
  obtain⟨j,e5,e6⟩:=z04 e4
  clear e0 e2 e2' e4
  have ed:=z2r e3
  have ed':=z2r e5
  cases (show d = .int i from ed)
  cases (show d' = .int j from ed')
  split at e6
  · rename_i hr
    rw[Bool.and_eq_true]at hr
    cases e6
    obtain⟨h1,h2⟩:=zaz hr.1
    obtain⟨h3,h4⟩:=zaz hr.2
    refine⟨ρ,f,_,rs,e1,fun v H1 s1 r1=>⟨ρ,f',_,rs.mono s1,e1',fun v' H2 s2 r2=>⟨i,j,by rw[Rp.int_.mp r1.sh,Rp.int_.mp r2.sh],⟨by omega,by omega,by omega,by omega⟩,k _ H2 (s1.trans s2) ?_ (fun _=>z5a)⟩⟩⟩
    rw[z5b]
    have:sizeLine=16777216:=rfl
    omega
  · cases e6
end
def z9v(Fi:FI)(g:Tg)(F:FS):FS:=fun ρ=>(Fi ρ).bind fun items=>forF g F items ρ
section
variable {X:Cx}{tg iter:Expr}{body:List Stmt}{Fi:FI}{g:Tg}{F:FS}{pos:Pos}
theorem zio(hp:PassesOwn (model X.prog X.w) X.A X.env X.xe)(hc:X.calm=true)(hi:PFR X tg iter Fi)(hg:PG X tg (g.low X.K))(hb:PFSs X body F)
   (hs:∀ x,foldedSetIterable iter X.env x=pure x:=by intro _;rfl):PFS X (.For tg iter body [] pos) (z9v Fi g F):=(zhH hp hc hi hg hb hs).imp fun D σ H ⟨H₀,ρ,oc,⟨O,rb⟩,e0,k⟩=>by
 obtain⟨items,e1,e2⟩:=z04 e0
 refine⟨ρ,items,rb.all,e1,fun J H1 sm hsz wk=>?_⟩
 refine⟨fun i m σ' H'=>m=items.length-i∧∃ ρ',RepB X H₀ H' ρ' σ'∧forF g F (items.drop i) ρ'=some oc,⟨_,rfl,_,⟨O,rb.mono sm⟩,e2⟩,?_⟩
 rintro i m σ' H' ⟨rfl,ρ',⟨O2,r2⟩,f2⟩
 obtain⟨w1,w2⟩:=wk (hidL O2.adr H') O2.adr H' (Same.refl _) fun a ha=>by obtain⟨⟨vs,q⟩,_⟩:=r2.own a ha;exact⟨_,q⟩
 by_cases hlt:i<items.length
 · obtain⟨x,hx⟩:∃ x,items[i]?=some x:=⟨_,List.getElem?_eq_getElem hlt⟩
   have hdrop:items.drop i=x::items.drop (i+1):=by
    rw[List.drop_eq_getElem_cons hlt]
    rw[List.getElem?_eq_getElem hlt]at hx
    cases hx;rfl
   rw[hdrop]at f2
   unfold forF at f2
   obtain⟨ρ2,p1,f3⟩:=z04 f2
   obtain⟨oc',p2,f4⟩:=z04 f3
   obtain⟨go,yl⟩:=w1 i x hx
   refine .inr ⟨go,fun σ3 H3=>∃ ρ3,RepB X H₀ H3 ρ3 σ3∧forF g F (items.drop (i+1)) ρ3=some oc,fun σ3 H3 hZ=>hZ.elim fun ρ3 hZ=>hZ.elim fun r3 f3=>⟨items.length-(i+1),by omega,rfl,ρ3,r3,f3⟩,fun xv H3 y3=>?_⟩
   obtain⟨s3,k3,r3⟩:=yl xv H3 y3
   have sm3:Same H' H3:=fun b o e=>by
    by_cases hb:b∈O2.adr
    · rw[k3 b hb];exact e
    · exact(z3A (s3 b o (by rw[z0l hb];exact e))).2
   refine Tg.low_mono (Tg.simO (r2.mono sm3) r3 p1) ?_
   rintro σ4 H4 ⟨eH,O4,r4⟩
   subst eH
   refine⟨H₀,ρ2,oc',⟨O4,r4⟩,p2,?_⟩
   cases oc' with
   | nx ρ5=>exact fun σ5 H5 r5=>⟨ρ5,r5,f4⟩
   | ct ρ5=>exact fun σ5 H5 r5=>⟨ρ5,r5,f4⟩
   | bk ρ5=>cases f4;exact k
   | rt f d=>cases f4;exact k
   | ex C=>cases f4;exact k
 · have hd:items.drop i=[]:=List.drop_of_length_le (by omega)
   rw[hd]at f2
   cases f2
   exact .inl ⟨w2 i (by omega),k σ' H' ⟨O2,r2⟩⟩
end
section
variable {P:Program}{w:World}{K:PySem.W.Frag}{mg:Str→Option Value}{base:Heap}
theorem Fun.dat{x qual:Str}{st:Stmt}{f:Addr}{fd:FuncData}{N ps:List Str}{k np nn:Nat}{fr:Bool}{F:FS}(Fu:Fun K x qual st f fd)(S:FnScope N ps (z06 st))(hp:np=ps.length)(hn:nn=N.length)
  (body:∀(cdv:Value) (A:Around) (outer:List Env) (s:Shared) (H:Hp) (E:XK),Room k (A.deeper (envOfC qual (z06 st) s.heap.objs.size f cdv)) →
   PFSs (cxOf CX0 P w K mg base N qual (z06 st) f cdv A outer s H E).nox (z1o st) F):FnOk P w K mg base CX0 (k+1) f fd ps (spc K fr (cOf np nn fr F)):=by
 subst hp hn
 exact Fun.data Fu S body
end
theorem z0c{X:Cx}{e:Expr}{es:List Expr}{pos:Pos}{Fs:FA}{fr:Bool}{k k':Nat}{f:Addr}{fd:FuncData}{ps:List Str}{ct:FC}{x:Str}{st:Stmt}{p:Pos}(F:FnOk X.prog X.w X.K X.mg X.base CX0 k f fd ps (spc X.K fr ct))(D:Df X.K X.mg x st ps f fd)(hr:Room k' X.A)(hg:Gl X x)
  (ha:PFA X (e::es) Fs) (hle:k≤k':=by decide) (hdb:(x==("__debug__" : Str))=false:=by decide) (hst:starEach (e::es) X.env=(false,eval e X.env)::starEach es X.env:=by rfl) (hpl:(backTo pos (starEach es X.env)).any (·.1)=false:=by rfl):PF X (.Call (.Name x p) (e::es) [] pos) (z09 fr ct Fs) :=
 p_call F (hr.mono hle) hg D.mg D.fn.kp D.bd ha hdb hst hpl
def Dh(K:PySem.W.Frag)(x:Str)(st:Stmt)(f:Addr):Prop:=∃(oc kV doc pm cdv ct:Value) (od an:Option Addr) (osl:Array (Option Value)),PySem.W.nsIn K mainGlobals x=some (some (.ref f))∧K.lookup f=some ⟨oc,od,.func (PySem.W.fnOf x x (z2e st) (z1o st) (z06 st) .none kV doc pm an cdv ct),osl⟩∧PySem.W.codeIn K cdv x=true∧PySem.W.keepIn K (.ref f)=true
theorem dh{K:PySem.W.Frag}{x:Str}{st:Stmt}{f:Addr}{oc kV doc pm cdv ct:Value}{od an:Option Addr}{osl:Array (Option Value)}(e:PySem.W.nsIn K mainGlobals x=some (some (.ref f)))(l:K.lookup f=some ⟨oc,od,.func (PySem.W.fnOf x x (z2e st) (z1o st) (z06 st) .none kV doc pm an cdv ct),osl⟩)(c:PySem.W.codeIn K cdv x=true)(k:PySem.W.keepIn K (.ref f)=true):Dh K x st f:=⟨_,_,_,_,_,_,_,_,_,e,l,c,k⟩
theorem Dh.df{K:PySem.W.Frag}{h:Heap}{mg:Str→Option Value}(X:K.In h)(G:h.Ns mainGlobals mg){x:Str}{st:Stmt}{f:Addr}{ps:List Str}(d:Dh K x st f)
  (hb:∀(kV doc pm:Value) (an:Option Addr) (cdv ct:Value) (us:List Value),us.length=ps.length→bindArgs (PySem.W.fnOf x x (z2e st) (z1o st) (z06 st) .none kV doc pm an cdv ct) ⟨us,[]⟩=pure (ps.zip us)) :
  ∃ fd,Df K mg x st ps f fd∧∀ us:List Value,us.length=ps.length→bindArgs fd ⟨us,[]⟩=pure (ps.zip us):=by
 obtain⟨_,_,_,_,_,_,_,_,_,e,l,c,k⟩:=d
 exact⟨_,df_mk X G e l c k hb,hb _ _ _ _ _ _⟩
theorem zcW{M:Model}{A:Around}{Q:Value→Shared→Prop}{E:Value→Shared→Prop}{s:Shared}{a b:Bool}(h:Q (.bool (a != b)) s):wpAny M A (compareOp .IsNot (.bool a) (.bool b)) Q E s:=by
 cases a<;>cases b<;>exact wpAny_pure h
def zaC:FO:=fun x y=>match x,y with|.bl a,.bl b=>some (.nw,.bl (a != b))|_,_=>none
theorem o_notB{X:Cx}:OpF X (compareOp .IsNot) zaC:=by
 rintro pins s σ H x y v u Q I r1 r2 ⟨d1,d2,f,d,q1,q2,e,k⟩
 unfold zaC at e
 split at e
 · cases e
   have h1:=Rp.bl_.mp q1
   have h2:=Rp.bl_.mp q2
   subst h1 h2
   cases r1
   cases r2
   exact zcW (zcI I (k _ H (Same.refl H) RpF.b_) rfl)
 · cases e
theorem ndp(l:List Str)(h:l.Nodup:=by decide +kernel):l.Nodup:=h
theorem jlt(l:List Nat)(m:Nat)(h:∀ j∈l,j<m:=by decide):∀ j∈l,j<m:=h
theorem scm{N P:List Str}{sc:Scope}(kind:sc.kind = .function:=by rfl)(co:sc.isCoroutine=false:=by rfl)(gen:sc.isGenerator=false:=by rfl)(nd:N.Nodup:=by decide +kernel)(pre:N.take P.length=P:=by rfl)(par:∀ x∈P,sc.names.lookup x=some .local∨sc.names.lookup x=some .cell:=by decide +kernel)(nofree:∀ y∈sc.names,y.2 ≠ .free:=by decide +kernel):FnScope N P sc:=⟨kind,co,gen,nd,pre,par,nofree⟩
theorem ziq{Fi:FI}{g:Tg}{F:FS}{ρ:Rho}:z9v Fi g F ρ=(Fi ρ).bind fun items=>forF g F items ρ:=rfl
end L2

end
section
set_option Elab.async false
set_option linter.all false
set_option maxRecDepth 100000
namespace L2
open PySem PySem.Spec PySem.W PyProof.Rows
section
variable {X:Cx}{C:Addr}{n:Nat}{e:Expr}{es:List Expr}{pos:Pos}{Fs:FA}{fr:Bool}{k k':Nat}{f:Addr}{fd:FuncData}{ps:List Str}{x:Str}{st:Stmt}{p:Pos}
abbrev FX:=List Dt→Option (Dt ⊕ Nat)
end
section
variable {P:Program}{w:World}{K:PySem.W.Frag}{mg:Str→Option Value}{base:Heap}
end
end L2

end
section
set_option Elab.async false
set_option linter.all false
set_option maxRecDepth 100000
namespace L2
open PySem PySem.Spec PySem.W PyProof.Rows
section
variable {X:Cx}{pins:List (Addr×Obj)}{σ:St}{H H1 H' H₀:Hp}{s s1:Shared}{ea C M:Addr}{E:Value→Shared→Prop}
structure At(X:Cx)(pins:List (Addr×Obj))(σ:St)(H1:Hp)(s1:Shared)(H':Hp)(ea C:Addr)(s:Shared):Prop where
 inv:Inv X pins σ H' s
 fly:Fly s1.heap H' ea C s.heap
 un:Un (frs X.stack) [] H1 H' s1.heap s.heap
theorem At.step{a0:Value}{T:Addr}{l':List Env}{h':Heap}(I1:Inv X pins σ H1 s1)(a:At X pins σ H1 s1 H' ea C s)(n3:s1.heap.get? T=none)(n4:H' T=none)(f:(hideAll s.heap (ea::T::frs X.stack)).FlyingW l' ea (.ref C) a0 h')(us:s.heap.UpToSlots h'):
  At X pins σ H1 s1 H' ea C { s with heap:=h' }:=by
 obtain⟨f1,f2,f3⟩:=Fly.step a.fly.1 a.fly.2.1 n3 n4 a.inv.stack a.inv.stkFree a.inv.hok a.un f us (fun b hb => .inl hb) fun b o _=>by simp
 exact⟨I1.call' (ch:=[]) (a.inv.os.trans I1.os.symm) f3 f2 a.inv.bare fun b z=>absurd z (by simp),f1,f3⟩
end
section
variable {X:Cx}{C:Addr}{n:Nat}{e:Expr}{es:List Expr}{pos pos' tpos hpos np:Pos}{Fs:FA}{fr:Bool}{k k':Nat}{f:Addr}{fd:FuncData}{ps:List Str}{x y:Str}{st:Stmt}{p:Pos}{ct:FX}
end
section
variable {X:Cx}{H₀ H:Hp}{O:Own}{ρ:Rho}{σ:St}{pins:List (Addr×Obj)}{s:Shared}{ea:Addr}
end
end L2

end
section
set_option Elab.async false
set_option linter.all false
set_option maxRecDepth 100000
namespace L2
open PySem PySem.Spec PySem.W PyProof.Rows
section
variable {X:Cx}{C:Addr}{n:Nat}{e:Expr}{es:List Expr}{pos pos' tpos hpos np:Pos}{Fs:FA}{fr:Bool}{k k':Nat}{f:Addr}{fd:FuncData}{ps:List Str}{x y z:Str}{st:Stmt}{p:Pos}{ct:FX}
end
end L2

end
section
set_option Elab.async false
set_option linter.all false
set_option maxRecDepth 100000
namespace L2
open PySem PySem.Spec PySem.W PyProof.Rows
abbrev FR:=Rho→Option Nat
section
variable {X:Cx}{e a b:Expr}{es:List Expr}{pos pos' p:Pos}{Fs:FA}{R:FR}{fr:Bool}{k k':Nat}{f:Addr}{fd:FuncData}{ps:List Str}{x:Str}{st:Stmt}{ct:FX}
end
end L2

end
section
set_option Elab.async false
set_option linter.all false
set_option maxRecDepth 100000
namespace L2
open PySem PySem.Spec PyProof.Rows
section
variable {X:Cx}{x y:Str}{j j2:Expr}{Fj Fk:FE}{i iy:Nat}{px px2 spos spos2 pos pos':Pos}
def z6h(i:Nat)(Fj:FE):Rho→Option (Bool×Dt):=fun ρ=>(z35 ρ i).bind fun o=>(Fj ρ).bind fun j=>(intD j.2).bind fun n=>(atI o.2 n).map fun d=>(o.1,d)
def z5F(i iy:Nat)(Fj:FE):FS:=fun ρ=>(z6h i Fj ρ).map fun x => .nx (ρ.set iy (.sh x.1 x.2))
def zg7(i:Nat)(Fj Fk:FE):FS:=fun ρ=>(z6h i Fk ρ).bind fun x=>(z35 ρ i).bind fun o=>(Fj ρ).bind fun j=>(intD j.2).bind fun n=>(setD o.2 n x.2).map fun ds => .nx (ρ.set i (.ow o.1 ds))
theorem zir(hi:X.N[i]?=some x)(hv:Vis X.env.scope x)(hj:PF X j Fj)(hpl:z7p j)(hN:X.N.Nodup)(hy:X.N[iy]?=some y)(hl:Loc X.env.scope y)(hd:(x==("__debug__" : Str))=false:=by decide)(hcd:(x==("__classdict__" : Str))=false:=by decide)
  (hs:swapsWith (.Subscript (.Name x px) j spos) (some (.Name y pos')) pos.line X.env=pure false:=by rfl) (hf:X.fn y=true∨X.env.scope.names.lookup y=some .local:=by exact .inl rfl):PFS X (.Assign [.Name y pos'] (.Subscript (.Name x px) j spos) pos) (z5F i iy Fj) :=
 (zhF hN hy hl (zhO zat (z56 hi hv hd hcd) hj hpl) hs hf).imp fun D σ H ⟨H₀,ρ,oc,⟨O,rb⟩,e0,k⟩=>by
  unfold z5F at e0
  cases h:z6h i Fj ρ with
  | none=>rw[h]at e0;cases e0
  | some z =>
   rw[h]at e0
   cases e0
   obtain⟨⟨f,ds⟩,e1,e2⟩:=z04 h
   obtain⟨⟨fj,dj⟩,e3,e4⟩:=z04 e2
   obtain⟨n,e5,e6⟩:=z04 e4
   cases h2:atI ds n with
   | none=>rw[h2]at e6;cases e6
   | some d =>
    rw[h2]at e6
    cases e6
    obtain⟨a,vs,q1,q2,q3,q4⟩:=rb.get (z3D e1)
    have ed:dj = .int n:=z2r e5
    subst ed
    obtain⟨v,w1,w2⟩:=z2q q4 h2
    refine⟨.ref a,q2,ρ,fj,.int n,rb.all,e3,fun u H1 s1 r1=>⟨a,vs,n,v,rfl,Rp.int_.mp r1.sh,SqL.of (s1 _ _ q3),w1,?_⟩⟩
    exact k _ _ ⟨_,(rb.mono s1).set (f:=f) (Rp.mono _ (z0R s1) w2)⟩
theorem s_move(hN:X.N[i]?=some x)(hv:Vis X.env.scope x)(hj:PF X j Fj)(hk:PF X j2 Fk)(hpl:z7p j2)(hd:(x==("__debug__" : Str))=false:=by decide)(hcd:(x==("__classdict__" : Str))=false:=by decide)
  (ha:∀ v,assign (.Subscript (.Name x px) j spos) X.env v=(do
   let ov ←holding [v] (eval (.Name x px) X.env)
   let iv ←holding [v,ov] (eval j X.env)
   standAt spos
   holding [v,ov,iv] (setItem ov iv v)
   release [v,ov,iv] []):=by intro _;rfl)
  (hs:swapsWithSole [.Subscript (.Name x px) j spos] (.Subscript (.Name x px2) j2 spos2) pos.line X.env=pure false:=by rfl) (hw:swappedStores [.Subscript (.Name x px) j spos] (.Subscript (.Name x px2) j2 spos2) X.env=pure none:=by rfl)
  (h1:(assignEach [.Subscript (.Name x px) j spos] X.env).map (·.2)=[assign (.Subscript (.Name x px) j spos) X.env]:=by rfl) :
  PFS X (.Assign [.Subscript (.Name x px) j spos] (.Subscript (.Name x px2) j2 spos2) pos) (zg7 i Fj Fk):=by
 intro pins s σ H D I ⟨H₀,ρ,oc,⟨O,rb⟩,e0,k⟩
 obtain⟨z,g0,e0⟩:=z04 e0
 obtain⟨⟨f',ds'⟩,g1,g2⟩:=z04 g0
 obtain⟨⟨fk,dk⟩,g3,g4⟩:=z04 g2
 obtain⟨nk,g5,g6⟩:=z04 g4
 obtain⟨⟨f,ds⟩,e1,e4⟩:=z04 e0
 rw[e1]at g1
 cases g1
 obtain⟨⟨fj,dj⟩,e5,e6⟩:=z04 e4
 obtain⟨n,e7,e8⟩:=z04 e6
 cases h2:atI ds' nk with
 | none=>rw[h2]at g6;cases g6
 | some d =>
  rw[h2]at g6
  cases g6
  obtain⟨a,vs,q1,q2,q3,q4⟩:=rb.get (z3D e1)
  have ek:dk = .int nk:=z2r g5
  subst ek
  have ed:dj = .int n:=z2r e7
  subst ed
  obtain⟨v,w1,w2⟩:=z2q q4 h2
  unfold setD at e8
  cases hx:ixN ds'.length n with
  | none=>rw[hx]at e8;cases e8
  | some m =>
   rw[hx]at e8
   cases e8
   refine zhE (zhO zat (z56 hN hv hd hcd) hk hpl) (zhD (z56 hN hv hd hcd) hj zbi ha) hs hw h1 pins s σ H D I ⟨.ref a,q2,ρ,fk,.int nk,rb.all,g3,fun u H1 s1 r1=>⟨a,vs,nk,v,rfl,Rp.int_.mp r1.sh,SqL.of (s1 _ _ q3),w1,?_⟩⟩
   refine⟨.ref a,q2,ρ,fj,.int n,(rb.mono s1).all,e5,fun v2 H2 s2 r2=>?_⟩
   have s3:=s1.trans s2
   refine⟨a,vs,n,m,rfl,Rp.int_.mp r2.sh,s3 _ _ q3,by rw[q4.length];exact hx,k _ _ ⟨O,(rb.mono s3).upd (z3D e1) q1 ?_⟩⟩
   exact Rps.set m (Rps.mono _ (z0R s3) q4) (Rp.mono _ (z0R s3) w2)
end
def zaD:FO
 | .tup xs,.tup ys=>if xs.length+ys.length≤1000000 then some (if z0V (xs++ys) then .nw else .sh,.tup (xs++ys)) else none
 | _,_=>none
theorem o_catT{X:Cx}:OpF X (binaryOp .Add) zaD:=by
 rintro pins s σ H x y v u Q I r1 r2 ⟨d1,d2,f,d,q1,q2,e,k⟩
 unfold zaD at e
 split at e
 · rename_i xs ys
   split at e
   · rename_i hc
     cases e
     obtain⟨a,vs,rfl,ha,ra⟩:=Rp.tup_.mp q1
     obtain⟨b,ws,rfl,hb,rb⟩:=Rp.tup_.mp q2
     have rr:=ra.append rb
     have fin:∀(p:Addr) (H':Hp),Same H H'→SqT X.K H' p (vs++ws)→Q (.ref p) H':=fun p H' sm sq=>k _ _ sm (by
       have rp:Rp X.K emp (.tup (xs++ys)) H' (.ref p):=Rp.tup_.mpr ⟨p,vs++ws,rfl,sq,Rps.mono _ sm rr⟩
       by_cases z:z0V (xs++ys)=true
       · rw[if_pos z];exact RpF.scal (by rw[Dt.flat];exact z) rp
       · rw[if_neg z];exact rp)
     have hz:vs.length+ws.length≤sizeLine:=Nat.le_trans (by rw[ra.length,rb.length];exact hc) (by decide)
     by_cases hv:vs=[]
     · subst hv
       cases r1
       cases r2
       obtain⟨its,g1,p1,_⟩:=I.tuple ha
       obtain⟨its2,g2,p2,_⟩:=I.tuple hb
       have e1:its=[]:=g1.nil_iff.mpr rfl
       subst e1
       obtain⟨⟨cls,dd,data,sl⟩,ho,hc1,n,hd⟩:=id p1
       obtain⟨⟨cls2,dd2,data2,sl2⟩,ho2,hc2,n2,hd2⟩:=id p2
       simp only at hc1 hd hc2 hd2
       subst hc1 hd hc2 hd2
       exact concat_meets ⟨_,ho,rfl⟩ ⟨_,ho2,rfl⟩ noFill_tuple_add seq_tuple_add PySem.F.slot_tuple_add PySem.F.entry_tuple_add (PySem.F.args_tuple_add_2 _ _)
         (tuple_addW0 a b [].toArray its2.toArray n n2 dd dd2 sl sl2 (by simp)) ⟨ho,ho2,⟨.ref b,H,I,rfl,fin b H (Same.refl H) hb⟩⟩
     · refine zly pins s σ H _ _ v u Q I r1 r2 ⟨a,b,vs,ws,rfl,rfl,ha,hb,hv,hz,fun hw=>?_,fun hw p hp=>?_⟩
       · subst hw
         exact fin a H (Same.refl H) (by rw[List.append_nil];exact ha)
       · exact fin p _ (z0W hp) (SqT.of z0H)
   · cases e
 · cases e
end L2

end
section
local macro_rules|`(tactic| omega)=>`(tactic| first|lia|omega +splitDisjunctions)
set_option Elab.async false
set_option linter.all false
set_option maxRecDepth 100000
set_option maxHeartbeats 2000000
namespace L2
open PySem PySem.Spec PyProof.Rows
section
variable {α β:Type}
def insK(p:Int×α):List (Int×α)→List (Int×α)
 | []=>[p]
 | q::qs=>if p.1≤q.1 then p::q::qs else q::insK p qs
def z2i:List (Int×α)→List (Int×α)
 | []=>[]
 | p::ps=>insK p (z2i ps)
theorem z6i(p:Int×α):∀ qs:List (Int×α),(insK p qs).Perm (p::qs)
 | []=>List.Perm.refl _
 | q::qs=>by
  unfold insK
  split
  · exact List.Perm.refl _
  · exact((z6i p qs).cons q).trans (List.Perm.swap p q qs)
theorem z1G:∀ ps:List (Int×α),(z2i ps).Perm ps
 | []=>List.Perm.refl _
 | p::ps=>(z6i p _).trans ((z1G ps).cons p)
abbrev Le(p q:Int×α):Prop:=p.1≤q.1
theorem z6V(p:Int×α):∀ qs:List (Int×α),qs.Pairwise Le→(insK p qs).Pairwise Le
 | [],_=>List.pairwise_singleton _ _
 | q::qs,h=>by
  obtain⟨h1,h2⟩:=List.pairwise_cons.mp h
  unfold insK
  split
  · rename_i hle
    exact List.pairwise_cons.mpr ⟨fun x hx=>by
      rcases List.mem_cons.mp hx with rfl|hx
      · exact hle
      · exact Int.le_trans hle (h1 x hx),h⟩
  · rename_i hle
    refine List.pairwise_cons.mpr ⟨fun x hx=>?_,z6V p qs h2⟩
    rcases List.mem_cons.mp ((z6i p qs).mem_iff.mp hx)with rfl|hx
    · show q.1≤x.1;omega
    · exact h1 x hx
theorem z3E:∀ ps:List (Int×α),(z2i ps).Pairwise Le
 | []=>List.Pairwise.nil
 | p::ps=>z6V p _ (z3E ps)
theorem zbB(g:α→β)(p:Int×α):∀ qs:List (Int×α),insK (p.1,g p.2) (qs.map fun q=>(q.1,g q.2))=(insK p qs).map fun q=>(q.1,g q.2)
 | []=>rfl
 | q::qs=>by
  rw[List.map_cons]
  unfold insK
  by_cases h:p.1≤q.1
  · rw[if_pos h,if_pos h];rfl
  · rw[if_neg h,if_neg h,List.map_cons,zbB g p qs]
theorem z4I(g:α→β):∀ ps:List (Int×α),z2i (ps.map fun q=>(q.1,g q.2))=(z2i ps).map fun q=>(q.1,g q.2)
 | []=>rfl
 | p::ps=>by rw[List.map_cons,z2i,z2i,z4I g ps,zbB g p]
theorem z7Y:∀{xs ys:List (Int×α)},xs.Perm ys→xs.Pairwise Le→ys.Pairwise Le→(xs.map (·.1)).Nodup→xs=ys
 | [],ys,p,_,_,_=>(List.Perm.nil_eq p)
 | x::xs,[],p,_,_,_=>by have:=p.length_eq;simp at this
 | x::xs,y::ys,p,h1,h2,nd=>by
  obtain⟨a1,a2⟩:=List.pairwise_cons.mp h1
  obtain⟨b1,b2⟩:=List.pairwise_cons.mp h2
  have nd':(x.1::xs.map (·.1)).Nodup:=nd
  obtain⟨n1,n2⟩:=List.nodup_cons.mp nd'
  have hx:x∈y::ys:=p.mem_iff.mp List.mem_cons_self
  have hy:y∈x::xs:=p.mem_iff.mpr List.mem_cons_self
  have exy:x=y:=by
   rcases List.mem_cons.mp hx with e|hx
   · exact e
   · rcases List.mem_cons.mp hy with e|hy
     · exact e.symm
     · have l1:x.1≤y.1:=a1 y hy
       have l2:y.1≤x.1:=b1 x hx
       have e:x.1=y.1:=by omega
       exact absurd (List.mem_map.mpr ⟨y,hy,e.symm⟩) n1
  subst exy
  rw[z7Y (p.cons_inv) a2 b2 n2]
end
section
variable {X:Cx}{pins:List (Addr×Obj)}{σ:St}{H:Hp}{s:Shared}
theorem Inv.track{D:Addr}{its:List Value}{ys:List V}{n:Nat}(I:Inv X pins σ H s)(hD:H D=none)(f:FpOk X pins H D)(hn:X.s₀.heap.objs.size≤D)(ho:s.heap.get? D=some { cls := .type "list",data := .seq its.toArray n })(hv:Vals ys its)(hz:ys.length≤sizeLine):
   Inv X pins σ (upd H D (.lst ys)) s:=by
 obtain⟨f0,f1,f2,f3,f4,f5⟩:=f
 have ne:∀ b o,X.s₀.heap.get? b=some o→b≠D:=fun b o e z=>by
   subst z
   exact absurd (Nat.lt_of_lt_of_le (Heap.lt_size e) hn) (Nat.lt_irrefl _)
 have nH:∀ b o,H b=some o→b≠D:=fun b o e z=>by rw[z,hD]at e;cases e
 refine⟨I.ok,I.os,I.bare,⟨I.base.keep,I.base.slot,fun b o e q hx=>?_,I.base.there,fun b xs e=>?_,fun b o u e=>?_,fun b ps e=>?_⟩,I.loc,I.cell,?_,fun x c e=>?_,fun p hp=>?_,fun a o e=>?_,I.len⟩
 · rw[z0q (ne b o e)];exact I.base.free b o e q hx
 · have:=I.base.tups b xs e
   rw[z0q (nH b _ this)];exact this
 · have:=I.base.frzs b o u e
   rw[z0q (nH b _ this)];exact this
 · obtain⟨more,this⟩:=I.base.tbls b ps e
   exact⟨more,by rw[z0q (nH b _ this)];exact this⟩
 · rw[z0q (Ne.symm f1)];exact I.free
 · rw[z0q (f4 x c e)];exact I.freeC x c e
 · obtain⟨q1,q2,q3⟩:=I.pin p hp
   exact⟨q1,by rw[z0q (f5 p hp)];exact q2,q3⟩
 · by_cases z:a=D
   · subst z
     rw[z0H]at e
     cases e
     exact⟨hz,its,n,hv,ho⟩
   · rw[z0q z]at e
     refine(I.hok a o e).stay (fun b u _ q=>q) (fun b q=>?_) (fun b xs q=>?_)
     · rw[z0q (nH b _ q)];exact q
     · rw[z0q (nH b _ q)];exact q
theorem ns_inj{h:Heap}{a:Addr}{m m':Str→Option Value}(p:h.Ns a m)(q:h.Ns a m'):m=m':=by
 obtain⟨o,es,ep,e,d,_,f⟩:=p
 obtain⟨o',es',ep',e',d',_,f'⟩:=q
 rw[e]at e'
 cases e'
 rw[d]at d'
 cases d'
 funext x
 rw[←f x,←f' x]
def z7Z(base:Heap)(L a b:Addr)(h:Heap):List (Addr×Obj):=(List.range h.objs.size).filterMap fun c=>match h.get? c with
 | some o=>if base.get? c=none∧c≠L∧c≠a∧c≠b then some (c,o) else none
 | none=>none
theorem zcX{base:Heap}{L a b c:Addr}{h:Heap}{o:Obj}(e:h.get? c=some o)(h1:base.get? c=none)(h2:c≠L)(h3:c≠a)(h4:c≠b):(c,o)∈z7Z base L a b h :=
 List.mem_filterMap.mpr ⟨c,List.mem_range.mpr (Heap.lt_size e),by rw[e];simp[h1,h2,h3,h4]⟩
theorem z6j{base:Heap}{L a b:Addr}{h:Heap}{p:Addr×Obj}(hp:p∈z7Z base L a b h):h.get? p.1=some p.2∧base.get? p.1=none∧p.1≠L∧p.1≠a∧p.1≠b:=by
 obtain⟨c,hc,e⟩:=List.mem_filterMap.mp hp
 cases q:h.get? c with
 | none=>rw[q]at e;cases e
 | some o =>
  rw[q]at e
  dsimp only at e
  split at e
  · rename_i hh;cases e;exact⟨q,hh⟩
  · cases e
theorem Inv.turnedN{h':Heap}{t':Nat}{ch:List Addr}{m:Str→Option Value}(I:Inv X pins σ H s)(hm:s.heap.Ns X.env.locals m)(hm':h'.Ns X.env.locals m)(hl:∃ o,h'.get? X.env.locals=some o)(k:∀ b o,b ∉ ch→b≠X.env.locals→s.heap.get? b=some o→h'.get? b=some o)(hc:∀ b∈ch,FpOk X pins H b):
   Inv X pins σ H { s with heap:=h',toks:=t' }:=by
 have nit:∀ b u,H b=some u→b ∉ ch:=fun b u e z=>by rw[(hc b z).1]at e;cases e
 have nL:∀ b u,H b=some u→b≠X.env.locals:=fun b u e z=>by rw[z,I.free]at e;cases e
 refine I.step (g':=s.gens) (d':=s.drawn) (ch:=ch) (fun b hb=>?_) (fun b o nl _ hn e _=>k b o hn nl e) (fun b o nl _ hn e _=>⟨o.slots,k b o hn nl e⟩) (fun _ _ _ _ n=>n)
   (fun b o hn e=>?_) (fun _ _ e=>e) (fun _ _ _ e=>e) (fun b ps e=>⟨#[],by rw[e];simp⟩) (fun m' hm2=>by rw[←ns_inj hm hm2];exact hm') (fun b u e=>?_) I.bare
 · obtain⟨f0,f1,f2,f3,f4,f5⟩:=hc b hb
   exact⟨f3,f1,f4,f5⟩
 · by_cases z:b=X.env.locals
   · subst z;exact hl
   · exact⟨o,k b o hn z e⟩
 · refine(I.hok b u e).stay (fun c v hcc q=>k c v ?_ ?_ q) (fun _ q=>q) fun _ _ q=>q
   · rcases hcc with z|z
     · rw[z];exact nit b u e
     · exact nit c _ z
   · rcases hcc with z|z
     · rw[z];exact nL b u e
     · exact nL c _ z
end
def z25(c:FC):List Dt→Option (List Int)
 | []=>some []
 | d::ds=>(c [d]).bind fun r=>(intD r).bind fun i=>(z25 c ds).map (i::·)
theorem z5c{c:FC}:∀{ds:List Dt} {ks:List Int},z25 c ds=some ks→ks.length=ds.length
 | [],ks,h=>by cases h;rfl
 | d::ds,ks,h=>by
  obtain⟨r,_,h⟩:=z04 h
  obtain⟨i,_,h⟩:=z04 h
  cases q:z25 c ds with
  | none=>rw[q]at h;cases h
  | some js=>rw[q]at h;cases h;rw[List.length_cons,List.length_cons,z5c q]
theorem z80{c:FC}:∀{ds:List Dt} {ks:List Int} {j:Nat} {d:Dt} {k:Int},z25 c ds=some ks→ds[j]?=some d→ks[j]?=some k→c [d]=some (.int k)
 | [],ks,j,d,k,h,e,_=>by simp at e
 | a::ds,ks,j,d,k,h,e,e'=>by
  obtain⟨r,h1,h⟩:=z04 h
  obtain⟨i,h2,h⟩:=z04 h
  cases q:z25 c ds with
  | none=>rw[q]at h;cases h
  | some js =>
   rw[q]at h
   cases h
   cases j with
   | zero =>
    simp at e e'
    subst e;subst e'
    rw[h1,z2r h2]
   | succ j=>exact z80 q (by simpa using e) (by simpa using e')
section
variable {X:Cx}{pins:List (Addr×Obj)}{σ:St}{H:Hp}{s:Shared}{k:Nat}{f:Addr}{fd:FuncData}{p:Str}{fr:Bool}{ct:FC}{l:Addr}{vs:List V}{ds:List Dt}{ks:List Int}{Q:VK}
theorem zlU{H1:Hp}{s1:Shared}{d:Dt}{v:V}{u:Value}{n:Int}(F:FnOk X.prog X.w X.K X.mg X.base CX0 k f fd [p] (spc X.K fr ct))(hr:Room (k+2) X.A)(hb:Binds X.K fd [p] [])(I:Inv X pins σ H1 s1)(r:RelV v u)(rd:Rp X.K emp d H1 v)(hc:ct [d]=some (.int n))
  {P:Value→Shared→Prop} {E:Value→Shared→Prop} (q:∀ t H2 s2,Inv X pins σ H2 s2→Same H1 H2→(∀ b o,s1.heap.get? b=some o→H1 b=none→b ∉ frs X.stack→s2.heap.get? b=some o∧H2 b=none)→P (.int n t) s2):wpAny (model X.prog X.w) X.A.in1.in1 (call (.ref f) [u]) P E s1:=by
 have hr2:Room k X.A.in1.in1:=(show Room (k+1+1) X.A from hr).in1.in1
 refine wpAny_call (codeAny_mono (F.run X.A.in1.in1 X.stack s1 H1 ⟨[u],[]⟩ [u] [v] (fun w H2=>w = .int n∧Same H1 H2) E0 hr2 I.env0.in1.in1 (hb s1 [u] I.kIn rfl) (.cons r .nil) ⟨[d],_,Rps.one rd,hc,fun w H2 sm rw'=>⟨by cases fr<;>exact Rp.int_.mp rw',sm⟩⟩) fun res s2 hres=>?_)
 cases res with
 | error e=>exact hres.elim
 | ok fl =>
  cases fl with
  | ret w =>
   obtain⟨x,H2,os,bare,un,hok,rw',ex,sm⟩:=hres
   subst ex
   obtain⟨t,rfl⟩:=rw'
   exact q t H2 s2 (I.call' (ch:=[]) os un hok bare fun b hb=>absurd hb (by simp)) sm fun b o e hn hf=>⟨un.keep b o e hn hf (by simp),un.free b o e hn (by simp)⟩
  | next=>exact hres.elim
  | brk=>exact hres.elim
  | cont=>exact hres.elim
theorem zis(I:Inv X pins σ H s){b:Addr}(hb:b∈frs X.stack):b<s.heap.objs.size:=by
 obtain⟨_,o,e,_⟩:=I.stack.mem hb
 exact Heap.lt_size e
theorem zh0{D kS:Addr}{e1:Nat}{its:List Value}{P:PySem.Fin→Shared→Prop}{E:Value→Shared→Prop}(F:FnOk X.prog X.w X.K X.mg X.base CX0 k f fd [p] (spc X.K fr ct))(hr:Room (k+2) X.A)(hb:Binds X.K fd [p] [])(I:Inv X pins σ H s)(rv:Vals vs its)(rs:Rps X.K emp ds H vs)(hk:z25 ct ds=some ks)(h64:ds.length<64)
  (hD:s.heap.get? D=some (seqObj "list" #[] e1)) (hS:s.heap.get? kS=some (seqObj "list" #[] 0)) (nDS:kS≠D) (fD:FpOk X pins H D) (fS:FpOk X pins H kS) (gD:D ∉ frs X.stack) (gS:kS ∉ frs X.stack) (sD:X.s₀.heap.objs.size≤D) (sS:X.s₀.heap.objs.size≤kS)
  (q:∀ H2 s2 (out:List Value) c,Inv X pins σ H2 s2→Same H H2→H2 D=none→s2.heap.get? D=some (seqObj "list" out.toArray c)→KskOut false ks its out→P (.done (.ret .none)) s2) :
  wpAny (model X.prog X.w) X.A.in1.in1 (ksk_rest D (.ref f) false its.toArray e1 (.ref kS)) P E s:=by
 have hlen:=z5c hk
 have l1:=rs.length
 have l2:=rv.length
 unfold ksk_rest
 refine wpAny_bind (wpAny_rule ?_)
 rw[List.forIn_toArray]
 refine wpAny_bind (ksk_fold (fun i s'=>∃ H1 kA e,Inv X pins σ H1 s'∧Same H H1∧H1 D=none∧H1 kS=none∧s'.heap.get? D=some (seqObj "list" #[] e1)∧s'.heap.get? kS=some (seqObj "list" kA e)∧IntsAre kA.toList (ks.take i)) its 0 s
  ⟨H,#[],0,I,Same.refl H,fD.1,fS.1,hD,hS,by simpa using IntsAre.nil⟩ ?step ?done)
 case step =>
  rintro j u s' hu ⟨H1,kA,e,I1,sm,d1,d2,o1,o2,hka⟩
  simp only[Nat.zero_add]at hka ⊢
  have hj:j<its.length:=(List.getElem?_eq_some_iff.mp hu).1
  obtain⟨n,hn⟩:∃ n,ks[j]?=some n:=⟨_,List.getElem?_eq_getElem (by omega)⟩
  obtain⟨d,hd⟩:∃ d,ds[j]?=some d:=⟨_,List.getElem?_eq_getElem (by omega)⟩
  obtain⟨v,hv,rd⟩:=rs.get hd
  obtain⟨u',hu',ru⟩:=rv.get hv
  rw[hu]at hu'
  cases hu'
  have hz:kA.size≤its.length:=by
    have h1:=hka.length
    rw[Array.length_toList,List.length_take]at h1
    omega
  refine wpAny_bind (wpAny_attempt (zlU F hr hb I1 ru (Rp.mono _ sm rd) (z80 hk hd hn) fun t H2 s2 I2 sm2 kk=>?_))
  obtain⟨p1,p2⟩:=kk D _ o1 d1 gD
  obtain⟨p3,p4⟩:=kk kS _ o2 d2 gS
  try dsimp only
  have sb:=Heap.SameBut.update s2.heap kS (Obj.mapSeq (·.push (.int n t)))
  have g2:=get?_update_seq p3 (·.push (.int n t))
  have ek:ks.take (j+1)=ks.take j++[n]:=by rw[List.take_add_one,hn];simp
  have ea:(kA.push (Value.int n t)).toList=kA.toList++[Value.int n t]:=by simp
  refine wpAny_bind (listUpdate_at p3 rfl ?_ (by rw[sizeLine_eq];omega) (Nat.le_trans (Nat.le_of_eq (Array.size_push ..)) (by rw[sizeLine_eq];omega)))
  have fS2:FpOk X pins H2 kS:=⟨p4,fS.2⟩
  refine wpAny_pure ⟨rfl,H2,kA.push (.int n t),_,I2.turnedL (t':=s2.toks) (ch:=[kS]) (fun b o hb e=>(sb.2 b (by simpa using hb)).trans e) (fun b hb=>by rw[List.mem_singleton.mp hb];exact fS2),sm.trans sm2,p2,p4,(sb.2 D (Ne.symm nDS)).trans p1,g2,by rw[ea,ek];exact ksk_snoc hka⟩
 case done =>
  rintro s' ⟨H1,kA,e,I1,sm,d1,d2,o1,o2,hka⟩
  have hk':IntsAre kA.toList ks:=by
    rw[List.take_of_length_le (by omega)]at hka
    exact hka
  try dsimp only
  refine wpAny_bind (listItems_at o2 rfl ?_)
  obtain⟨m,hfr⟩:=I1.fr
  have fD1:FpOk X pins H1 D:=⟨d1,fD.2⟩
  have fS1:FpOk X pins H1 kS:=⟨d2,fS.2⟩
  have bD:X.base.get? D=none:=Heap.get?_none_of_le (Nat.le_trans I.ok.bsz sD)
  have bS:X.base.get? kS=none:=Heap.get?_none_of_le (Nat.le_trans I.ok.bsz sS)
  refine ksk_end_ (e:=e) (news:=z7Z X.base X.env.locals kS D s'.heap) hfr (fun z hz=>?_) nDS (fun z hz=>(z6j hz).2.2.2.1) (fun z hz=>(z6j hz).2.2.2.2) hk' (by omega) (by omega) fun h' tk out c F' N' ko=>?_
  · rcases List.mem_append.mp hz with hz|hz
    · obtain⟨z1,z2,z3,_⟩:=z6j hz
      exact⟨z1,z3,z2⟩
    · rcases List.mem_cons.mp hz with rfl|hz
      · exact⟨o2,fS1.2.1,bS⟩
      · rw[List.mem_singleton.mp hz]
        exact⟨o1,fD1.2.1,bD⟩
  · have nd:=N' (D,seqObj "list" out c) List.mem_cons_self
    refine q H1 _ out.toList c (I1.turnedN (t':=tk) (ch:=[kS,D]) hfr.ns F'.ns (by obtain⟨o,_,_,e,_⟩:=F'.ns;exact⟨o,e⟩) (fun b o hb hl eb=>?_) (fun b hb=>?_)) sm d1 nd.1 ko
    · have hb2:b≠kS∧b≠D:=by simpa using hb
      cases z:X.base.get? b with
      | some o' =>
        have e2:=I1.bk b o' z
        rw[eb]at e2
        cases e2
        exact F'.keep b _ z
      | none=>exact(N' _ (List.mem_cons_of_mem _ (zcX eb z hl hb2.1 hb2.2))).1
    · rcases List.mem_cons.mp hb with rfl|hb
      · exact fS1
      · rw[List.mem_singleton.mp hb];exact fD1
theorem zh1{D:Addr}{n0:Nat}{its:List Value}{P:PySem.Fin→Shared→Prop}{E:Value→Shared→Prop}(F:FnOk X.prog X.w X.K X.mg X.base CX0 k f fd [p] (spc X.K fr ct))(hr:Room (k+2) X.A)(hb:Binds X.K fd [p] [])(I:Inv X pins σ H s)(rv:Vals vs its)(rs:Rps X.K emp ds H vs)(hk:z25 ct ds=some ks)(h64:ds.length<64)
  (hD:s.heap.get? D=some (seqObj "list" its.toArray n0)) (fD:FpOk X pins H D) (gD:D ∉ frs X.stack) (sD:X.s₀.heap.objs.size≤D)
  (q:∀ H2 s2 (out:List Value) c,Inv X pins σ H2 s2→Same H H2→H2 D=none→s2.heap.get? D=some (seqObj "list" out.toArray c)→KskOut false ks its out→P (.done (.ret .none)) s2) :
  wpAny (model X.prog X.w) X.A.in1.in1 (ksk_tree D (.ref f) false) P E s:=by
 have l1:=rs.length
 have l2:=rv.length
 have hlt:D<s.heap.objs.size:=Heap.lt_size hD
 unfold ksk_tree
 refine wpAny_bind (listItems_at hD rfl ?_)
 have sb:=Heap.SameBut.update s.heap D (Obj.mapSeq fun _=>(#[]:Array Value))
 have o1:=get?_update_seq hD fun _=>(#[]:Array Value)
 refine wpAny_bind (listUpdate_at hD rfl ?_ (by rw[List.size_toArray,sizeLine_eq];omega) (Nat.zero_le _))
 have I1:Inv X pins σ H { s with heap:=s.heap.update D (Obj.mapSeq fun _=>(#[]:Array Value)) }:=I.turnedL (t':=s.toks) (ch:=[D]) (fun b o hb e=>(sb.2 b (by simpa using hb)).trans e) (fun b hb=>by rw[List.mem_singleton.mp hb];exact fD)
 refine wpAny_bind (seqEpoch_at o1 rfl ?_)
 refine wpAny_bind (wpAny_newTuple ?_ (by show its.length≤_;rw[sizeLine_eq];omega))
 refine wpAny_bind (wpAny_newList ?_ (Nat.zero_le _))
 refine wpAny_holding ?_
 generalize hg:s.heap.update D (Obj.mapSeq fun _=>(#[]:Array Value))=g at *
 have zg:g.objs.size=s.heap.objs.size:=sb.1
 have I2:Inv X pins σ H { s with heap:=(g.push (seqObj "tuple" its.toArray 0)).push (seqObj "list" #[] 0) }:=I1.kept (t':=s.toks) fun b o e=>Heap.get?_push_of_some _ (Heap.get?_push_of_some _ e)
 have zk:(g.push (seqObj "tuple" its.toArray 0)).objs.size=g.objs.size+1:=size_push' _ _
 have ge:s.heap.objs.size≤(g.push (seqObj "tuple" its.toArray 0)).objs.size:=by omega
 refine zh0 (s:={ s with heap:=(g.push (seqObj "tuple" its.toArray 0)).push (seqObj "list" #[] 0) }) (kS:=(g.push (seqObj "tuple" its.toArray 0)).objs.size) F hr hb I2 rv rs hk h64 (Heap.get?_push_of_some _ (Heap.get?_push_of_some _ o1)) (Heap.get?_push_size _ rfl) (Nat.ne_of_gt (Nat.lt_of_lt_of_le hlt ge)) fD (I.fpOk ge (I.hok.fresh ge)) gD (fun z=>?_) sD (Nat.le_trans I.sz ge) q
 exact absurd (Nat.lt_of_lt_of_le (zis I z) ge) (Nat.lt_irrefl _)
theorem zcY(F:FnOk X.prog X.w X.K X.mg X.base CX0 k f fd [p] (spc X.K fr ct))(hr:Room (k+2) X.A)(hb:Binds X.K fd [p] [])(I:Inv X pins σ H s)(hl:H l=some (.lst vs))(rs:Rps X.K emp ds H vs)(hk:z25 ct ds=some ks)(h64:ds.length<64)(nd:ks.Nodup)
  (q:∀ D H2 ys,Same H H2→H2 D=none→Rps X.K emp ((z2i (ks.zip ds)).map (·.2)) H2 ys→Q (.ref D) (upd H2 D (.lst ys))) :
  wpAny (model X.prog X.w) X.A (call (.builtin "sorted") [.ref l] [(Str.ofString "key",.ref f)]) (EP X pins σ Q) X.xe s:=by
 obtain⟨its,rv,pl,hz⟩:=I.list (SqL.of (K:=X.K) hl)
 have l1:=rs.length
 have l2:=rv.length
 have l3:=z5c hk
 refine call_function_entry_kw kind_sorted plain_sorted entry_sorted (ksk_s1 _ _) ?_
 unfold Builtin.«sorted»
 refine wpAny_bind (m:=checkCount "sorted" 1 1 _) (wpAny_pure ?_)
 refine wpAny_bind (collect_list pl.isList ?_ (by rw[sizeLine_eq];omega))
 refine wpAny_bind (wpAny_newList ?_ (by rw[sizeLine_eq];omega))
 generalize hg:(s.heap.push (seqObj "list" #[] 0)).update s.heap.objs.size (Obj.mapSeq (·++its.toArray))=g
 have zg:g.objs.size=s.heap.objs.size+1:=by rw[←hg,Heap.size_update,size_push']
 have kg:∀ b o,s.heap.get? b=some o→g.get? b=some o:=fun b o e=>by
  have hlt:=Heap.lt_size e
  rw[←hg,Heap.get?_update_ne _ _ _ _ (Nat.ne_of_lt hlt),Heap.get?_push_ne _ _ _ (Nat.ne_of_lt hlt)]
  exact e
 have I1:Inv X pins σ H { s with heap:=g.push (seqObj "list" its.toArray 0) }:=I.kept (t':=s.toks) fun b o e=>Heap.get?_push_of_some _ (kg b o e)
 have oD:(g.push (seqObj "list" its.toArray 0)).get? g.objs.size=some (seqObj "list" its.toArray 0):=Heap.get?_push_size _ rfl
 have ge:s.heap.objs.size≤g.objs.size:=by omega
 refine wpAny_bind (wpAny_holding (wpAny_call_entry_kw slot_list_sort ⟨_,oD,rfl⟩ entry_list_sort ?body (ksk_l1 _ _)))
 case body =>
  show wpAny (model X.prog X.w) X.A.in1.in1 (Builtin.«list.sort» ⟨[.ref g.objs.size],[(Str.ofString "key",.ref f)]⟩) _ _ _
  rw[ksk_t1]
  refine zh1 (s:={ s with heap:=g.push (seqObj "list" its.toArray 0) }) F hr hb I1 rv rs hk h64 oD (I.fpOk ge (I.hok.fresh ge)) (fun z=>absurd (Nat.lt_of_lt_of_le (zis I z) ge) (Nat.lt_irrefl _)) (Nat.le_trans I.sz ge) fun H2 s2 out c I2 sm d2 o2 ⟨ps,pp,eo,so⟩=>⟨_,rfl,?_⟩
  refine wpAny_pure ⟨_,rfl,?_⟩
  have key:∃ ts:List (Int×(Dt×(V×Value))),(ts.map fun t=>(t.1,t.2.2.2))=ps∧(ts.map fun t=>(t.1,t.2.1))=z2i (ks.zip ds)∧∀ t∈ts,Rp X.K emp t.2.1 H t.2.2.1∧RelV t.2.2.1 t.2.2.2:=by
   refine⟨z2i (ks.zip (ds.zip (vs.zip its))),?_,?_,fun t ht=>?_⟩
   · have e1:ks.zip its=(ks.zip (ds.zip (vs.zip its))).map fun t=>(t.1,t.2.2.2):=by
      apply List.ext_getElem
      · simp;omega
      · intro i h1 h2;simp
     rw[←z4I (fun z:Dt×(V×Value)=>z.2.2),←e1]
     refine z7Y ((z1G _).trans pp.symm) (z3E _) (so.imp fun h=>by simpa using h) ?_
     have:((z2i (ks.zip its)).map (·.1)).Perm ks:=((z1G (ks.zip its)).map _).trans (by rw[List.map_fst_zip (by omega)])
     exact this.nodup_iff.mpr nd
   · have e1:ks.zip ds=(ks.zip (ds.zip (vs.zip its))).map fun t=>(t.1,t.2.1):=by
      apply List.ext_getElem
      · simp;omega
      · intro i h1 h2;simp
     rw[←z4I (fun z:Dt×(V×Value)=>z.1),←e1]
   · have ht:=(z1G _).mem_iff.mp ht
     obtain⟨i,hi,e⟩:=List.getElem_of_mem ht
     simp at hi
     subst e
     simp only[List.getElem_zip]
     obtain⟨v,e1,r1⟩:=rs.get (i:=i) (List.getElem?_eq_getElem (by omega))
     obtain⟨u,e2,r2⟩:=rv.get e1
     rw[List.getElem?_eq_getElem (by omega)]at e1 e2
     cases e1;cases e2
     exact⟨r1,r2⟩
  obtain⟨ts,k1,k2,k3⟩:=key
  have ev:Vals (ts.map fun t=>t.2.2.1) out:=by
   rw[eo,←k1,List.map_map]
   clear k1 k2 eo
   induction ts with
   | nil=>exact .nil
   | cons t ts ih=>exact .cons (k3 t List.mem_cons_self).2 (ih fun z hz=>k3 z (List.mem_cons_of_mem _ hz))
  have er:Rps X.K emp ((z2i (ks.zip ds)).map (·.2)) H (ts.map fun t=>t.2.2.1):=by
   rw[←k2,List.map_map]
   clear k1 k2 eo ev
   induction ts with
   | nil=>exact Rps.nil_.mpr rfl
   | cons t ts ih=>exact Rps.cons_.mpr ⟨_,_,rfl,(k3 t List.mem_cons_self).1,ih fun z hz=>k3 z (List.mem_cons_of_mem _ hz)⟩
  have lt:(ts.map fun t=>t.2.2.1).length≤sizeLine:=by
   rw[List.length_map,←List.length_map (f:=fun t:Int×(Dt×(V×Value))=>(t.1,t.2.1)),k2,(z1G _).length_eq,List.length_zip,sizeLine_eq];omega
  exact⟨.ref g.objs.size,_,I2.track d2 ⟨d2,(I.fpOk ge (I.hok.fresh (H:=H) ge)).2⟩ (Nat.le_trans I.sz ge) (by simpa using o2) ev lt,rfl,q _ _ _ sm d2 (Rps.mono _ sm er)⟩
end
section
variable {X:Cx}{a:Expr}{Fa:FE}{k:Nat}{f:Addr}{fd:FuncData}{prm:Str}{fr:Bool}{ct:FC}{x:Str}{p pos kp kpos:Pos}
def z5d(c:FC)(F:FE):FE:=fun ρ=>(F ρ).bind fun x=>(lstD x.2).bind fun ds=>(z25 c ds).bind fun ks=>if ds.length<64∧ks.Nodup then some (newL ((z2i (ks.zip ds)).map (·.2))) else none
theorem zlV(F:FnOk X.prog X.w X.K X.mg X.base CX0 k f fd [prm] (spc X.K fr ct))(hr:Room (k+2) X.A)(hg:Gl X "sorted")(hm:X.mg "sorted" = none)(hf:X.mg x=some (.ref f))(hgf:Gl X x)(hb:Binds X.K fd [prm] [])(ha:PF X a Fa)(hd:(x==("__debug__" : Str))=false:=by decide)(hs:starEach [a] X.env=[(false,eval a X.env)]:=by rfl):
   PF X (.Call (.Name "sorted" p) [a] [⟨some "key",.Name x kp,kpos⟩] pos) (z5d ct Fa):=by
 intro pins s σ H Q I ⟨ρ,fz,dz,rs,e0,kk⟩
 obtain⟨⟨fa,da⟩,ea,e1⟩:=z04 e0
 obtain⟨ds,ed,e2⟩:=z04 e1
 obtain⟨ks,ek,e3⟩:=z04 e2
 split at e3
 · rename_i hh
   cases e3
   have hA:PA X [a] (upAs X (z02 Fa fNil)):=z03 ha z07 hs
   refine wpAny_Call_Name_kw (z3u I hg hm (by decide +kernel:bootBuiltins "sorted" = some (.builtin "sorted")) ?_)
   refine PyProof.Rows.callWith_kw (thn (hA pos pins s σ H (fun vs H1=>Same H H1∧∃ va,vs=[va]∧Rp X.K emp da H1 va) I ⟨ρ,[(fa,da)],rs,by simp[z02,fNil,ea],fun vs H1 s1 ⟨va,r1,ee1,q1,q3⟩=>⟨s1,va,by rw[ee1,show r1=[]from q3],q1.sh⟩⟩) fun us s1 ⟨vs,H1,I1,rv,s1H,va,ev,ra⟩=>?_) (by rw[hs];rfl) (by rw[hs];rfl) rfl rfl
   subst ev
   obtain⟨ua,rfl,rua⟩:=rv.one
   have hkw:=zfV (X:=X) (nm:=some "key") (kpos:=kpos) (zfT (v:=V.ref f) (pos:=kp) hgf hf rfl hd) zhM
   refine thn (hkw pos pins s1 σ H1 (fun zs H2=>zs=[.ref f]∧H2=H1) I1 ⟨rfl,rfl⟩) ?_
   rintro kvs s2 ⟨zs,H2,I2,rz,ez,eH⟩
   subst ez;subst eH
   obtain⟨uk,rfl,ruk⟩:=rz.one
   cases ruk
   have ex:∃ l vs,va = .ref l∧H2 l=some (.lst vs)∧Rps X.K emp ds H2 vs:=by
    cases da<;>first|cases ed|skip
    obtain⟨l,vs,e,_,h1,h2⟩:=ra.items
    exact⟨l,vs,e,h1,h2⟩
   obtain⟨l,vs,rfl,h1,h2⟩:=ex
   cases rua
   refine zcY F hr hb I2 h1 h2 ek hh.1 hh.2 fun D H3 ys sm d3 r3=>kk _ _ (s1H.trans (sm.trans (z0W d3))) ?_
   exact(z5A d3 r3).early (s1H.trans sm)
 · cases e3
end
end L2

end
section
set_option linter.all false
set_option maxRecDepth 100000
namespace L2
open PySem
abbrev L(ns:List Int):Dt := .lst (ns.map .int)
abbrev T(ns:List Int):Dt := .tup (ns.map .int)
theorem z0x{α β:Type}{a:α}{f:α→Option β}:(some a).bind f=f a:=rfl
theorem zg8{α:Type}{xs:List α}{i:Int}(h0:0≤i):atI xs i=xs[i.toNat]?:=by
 unfold atI ixN
 rw[if_pos h0]
 by_cases h:i<xs.length
 · rw[if_pos h];rfl
 · rw[if_neg h,List.getElem?_eq_none (by omega)];rfl
theorem atI_c0{α:Type}{x:α}{xs:List α}:atI (x::xs) 0=some x:=z4E (j:=0) rfl
theorem atI_c1{α:Type}{x y:α}{xs:List α}:atI (x::y::xs) 1=some y:=z4E (j:=1) rfl
theorem atI_c2{α:Type}{x y z:α}{xs:List α}:atI (x::y::z::xs) 2=some z:=z4E (j:=2) rfl
theorem z2Q:∀ ns:List Int,z0V (ns.map Dt.int)=true
 | []=>rfl
 | n::ns=>by rw[List.map_cons,z0V,z2Q ns];rfl
theorem z4J:∀(k:Nat) (ns:List Int),oksN k (ns.map Dt.int)=true
 | k,[]=>by cases k<;>rfl
 | k,n::ns=>by rw[List.map_cons,oksN,z4J k ns];cases k<;>rfl
theorem z5G:∀ ns:List Int,pys (ns.map Dt.int)=ns.map PyData.int
 | []=>rfl
 | n::ns=>by rw[List.map_cons,pys,z5G ns];rfl
theorem z48:∀ ns ms:List Int,PyData.eqvAll (ns.map PyData.int) (ms.map PyData.int)=decide (ns=ms)
 | [],[]=>by simp[PyData.eqvAll]
 | [],m::ms=>by simp[PyData.eqvAll]
 | n::ns,[]=>by simp[PyData.eqvAll]
 | n::ns,m::ms=>by
  rw[List.map_cons,List.map_cons,PyData.eqvAll,z48 ns ms,PyData.eqv,Bool.eq_iff_iff]
  simp
theorem zh2(ns ms:List Int):opEq (L ns) (L ms)=some (.nw,.bl (decide (ns=ms))):=by
 unfold opEq L
 rw[Dt.okN,Dt.okN,z4J,z4J]
 unfold eqD
 rw[Dt.py,Dt.py,z5G,z5G,PyData.eqv,z48]
 rfl
theorem zlW(ns:List Int):(Dt.scr ns).okN 8=true:=by simp[Dt.okN]
theorem zbC(ns ms:List Int):opEq (.scr ns) (L ms)=some (.nw,.bl (decide (ns=ms))):=by
 unfold opEq
 rw[zlW]
 unfold L
 rw[Dt.okN,z4J]
 unfold eqD
 rw[Dt.py,Dt.py,z5G,PyData.eqv,z48]
 rfl
theorem z0N(i j:Int):opEq (.int i) (.int j)=some (.nw,.bl (decide (i=j))):=by
 unfold opEq eqD
 rw[Dt.py,Dt.py,PyData.eqv,Bool.beq_eq_decide_eq]
 rfl
theorem z1z(i j:Int):opNe (.int i) (.int j)=some (.nw,.bl (!decide (i=j))):=by
 unfold opNe eqD
 rw[Dt.py,Dt.py,PyData.eqv,Bool.beq_eq_decide_eq]
 rfl
theorem z6W{i j:Int}(h:j.natAbs<2 ^ 64):z12 i j=true:=by unfold z12;rw[decide_eq_true h];simp
theorem zaE{i j:Int}(h:i.natAbs<2 ^ 64):z12 i j=true:=by unfold z12;rw[decide_eq_true h];simp
section
variable (i j:Int)
end
def z0t(ns:List Int)(k:Int):Int:=if k<ns.length then ns.getD k.toNat 0 else if ns=[] then 0 else ns.getD (k.fmod ns.length).toNat 0*31+k
end L2

end
section
set_option linter.all false
set_option maxRecDepth 100000
namespace L2
open PySem
section
variable {α β γ:Type}{g:Tg}{Fc:FT}{Fe:FE}{ρ0:Rho}
theorem z9w(e:α→Dt)(h:α→Dv):∀(xs:List α),(∀ x∈xs,(g.put (e x) ρ0).bind Fe=some (h x))→z47 g fYes Fe ρ0 (xs.map e)=some (xs.map h)
 | [],_=>rfl
 | x::xs,q=>by
  have q1:=q x List.mem_cons_self
  have ih:=z9w e h xs fun y hy=>q y (List.mem_cons_of_mem _ hy)
  rw[List.map_cons,z47]
  cases p:g.put (e x) ρ0 with
  | none=>rw[p]at q1;cases q1
  | some ρ1 =>
   rw[p]at q1
   have q1:Fe ρ1=some (h x):=q1
   simp[fYes,q1,ih]
theorem z5H(e:α→Dt)(h:α→Dv)(p:α→Bool):∀(xs:List α),(∀ x∈xs,(g.put (e x) ρ0).bind Fc=some (p x))→(∀ x∈xs,p x=true→(g.put (e x) ρ0).bind Fe=some (h x))→z47 g Fc Fe ρ0 (xs.map e)=some ((xs.filter p).map h)
 | [],_,_=>rfl
 | x::xs,q,q'=>by
  have q1:=q x List.mem_cons_self
  have q2:=q' x List.mem_cons_self
  have ih:=z5H e h p xs (fun y hy=>q y (List.mem_cons_of_mem _ hy)) (fun y hy=>q' y (List.mem_cons_of_mem _ hy))
  rw[List.map_cons,z47]
  cases z:g.put (e x) ρ0 with
  | none=>rw[z]at q1;cases q1
  | some ρ1 =>
   rw[z]at q1 q2
   have q1:Fc ρ1=some (p x):=q1
   cases w:p x with
   | true =>
    have q2:Fe ρ1=some (h x):=q2 w
    simp[q1,w,q2,ih]
   | false=>simp[q1,w,ih]
theorem z81(h:α→Dv):∀ xs:List α,sndL (xs.map h)=xs.map fun x=>(h x).2
 | []=>rfl
 | x::xs=>by rw[List.map_cons,sndL,z81 h xs];rfl
theorem z6k{h:α→Dv}:∀{xs:List α},(∀ x∈xs,(h x).1.isFr=true)→z2O (xs.map h)=true
 | [],_=>rfl
 | x::xs,q=>by rw[List.map_cons,z2O,q x List.mem_cons_self,z6k fun y hy=>q y (List.mem_cons_of_mem _ hy)];rfl
theorem z0u{nt:Nat}{js:List Nat}{Fi:FI}{ρ:Rho}{e:α→Dt}{h:α→Dt}{xs:List α}(hi:Fi ρ=some (xs.map e))(q:∀ x∈xs,(g.put (e x) (sigD nt js ρ)).bind Fe=some (.nw,h x)):z0k nt js Fi g fYes Fe ρ=some (.nw,.lst (xs.map h)):=by
 unfold z0k
 rw[hi,z0x,z9w e (fun x=>(.nw,h x)) xs q,z0x,z6k (fun x _=>rfl),z81]
 rfl
theorem z5I{nt:Nat}{js:List Nat}{Fi:FI}{ρ:Rho}{e:α→Dt}{h:α→Dt}{p:α→Bool}{xs:List α}(hi:Fi ρ=some (xs.map e))(q:∀ x∈xs,(g.put (e x) (sigD nt js ρ)).bind Fc=some (p x))(q':∀ x∈xs,p x=true→(g.put (e x) (sigD nt js ρ)).bind Fe=some (.nw,h x)):
  z0k nt js Fi g Fc Fe ρ=some (.nw,.lst ((xs.filter p).map h)):=by
 unfold z0k
 rw[hi,z0x,z5H e (fun x=>(.nw,h x)) p xs q q',z0x,z6k (fun x _=>rfl),z81]
 rfl
variable {F:FS}
def nextO(G:FS):Oc→Option Oc
 | .nx ρ=>G ρ
 | .ct ρ=>G ρ
 | .bk ρ=>some (.nx ρ)
 | .rt f d=>some (.rt f d)
 | .ex C=>some (.ex C)
theorem zbD{ρ:Rho}:forF g F [] ρ=some (.nx ρ):=rfl
theorem z1K{x:Dt}{xs:List Dt}{ρ:Rho}:forF g F (x::xs) ρ=((g.put x ρ).bind F).bind (nextO (forF g F xs)):=by
 rw[forF]
 cases g.put x ρ with
 | none=>rfl
 | some ρ1 =>
  show(F ρ1).bind _=(F ρ1).bind _
  congr 1
  first|done|(funext oc;cases oc<;>rfl)
theorem z9x(e:α→Dt)(R:β→γ→Rho)(step:β→α→β):∀(xs:List α) (b:β) (j:γ),(∀ b x j,x∈xs→∃ j',(g.put (e x) (R b j)).bind F=some (.nx (R (step b x) j')))→∃ j',forF g F (xs.map e) (R b j)=some (.nx (R (xs.foldl step b) j'))
 | [],b,j,_=>⟨j,rfl⟩
 | x::xs,b,j,h=>by
  obtain⟨j1,h1⟩:=h b x j List.mem_cons_self
  obtain⟨j2,h2⟩:=z9x e R step xs (step b x) j1 fun b y j hy=>h b y j (List.mem_cons_of_mem _ hy)
  refine⟨j2,?_⟩
  rw[List.map_cons,z1K,h1]
  exact h2
end
abbrev LL(rows:List (List Int)):Dt := .lst (rows.map L)
abbrev TTu(rows:List (List Int)):Dt := .tup (rows.map T)
abbrev z0w(k:Int)(bills:List (List Int)):Dt := .tup [.int k,TTu bills]
theorem zit(ns:List Int):(T ns).flat=true:=by show z0V _=true;exact z2Q ns
theorem z9y:∀ rows:List (List Int),z0V (rows.map T)=true
 | []=>rfl
 | r::rows=>by rw[List.map_cons,z0V,zit,z9y rows];rfl
theorem nrm_T(f:Fl)(ns:List Int):nrm f (T ns)=(.nw,T ns):=by unfold nrm;rw[zit];rfl
theorem ziu(ns:List Int):lfl (ns.map .int) = .nw:=by unfold lfl;rw[z2Q];rfl
theorem z4K(ns:List Int):newL (ns.map .int)=(.nw,L ns):=by unfold newL;rw[ziu]
theorem z4L{α:Type}(h:α→Bool):∀ xs:List α,z6S (xs.map fun x => .bl (h x))=some (xs.map h)
 | []=>rfl
 | x::xs=>by rw[List.map_cons,z6S,z4L h xs];rfl
theorem z5J{α β:Type}(e:α→Dt)(f:β→Dt):∀(xs:List α) (ys:List β),zipD (xs.map e) (ys.map f)=(xs.zip ys).map fun p => .tup [e p.1,f p.2]
 | [],ys=>by simp[zipD]
 | x::xs,[]=>by simp[zipD]
 | x::xs,y::ys=>by rw[List.map_cons,List.map_cons,zipD,z5J e f xs ys];rfl
theorem z1j(lo:Int)(n:Nat):z1T lo n=(List.range n).map fun(k:Nat) => .int (lo+(k:Int)):=rfl
theorem z1k(c:Int){m:Int}(h:0<m):0≤c.fmod m∧c.fmod m<m:=⟨Int.fmod_nonneg_of_pos c h,Int.fmod_lt_of_pos c h⟩
def z9z(c m:Int):Int :=
 if m=2 then(if((c.fdiv (10 ^ 30)).fmod 2)=1 then -(c.fmod (10 ^ 30)) else c.fmod (10 ^ 30))
 else
  let wide:Int:=if m=0 then 9 else 61
  let n:=c.fmod wide
  if wide.fdiv 2<n then n-wide else n
theorem ziv(c m:Int):(z9z c m).natAbs<10 ^ 30:=by
 unfold z9z
 have a1:=Int.fmod_nonneg_of_pos c (show(0:Int)<10 ^ 30 by decide)
 have a2:=Int.fmod_lt_of_pos c (show(0:Int)<10 ^ 30 by decide)
 dsimp only
 split
 · split<;>omega
 · have hw:(if m=0 then(9:Int) else 61)=9∨(if m=0 then(9:Int) else 61)=61:=by split<;>simp
   generalize (if m=0 then(9:Int) else 61)=wide at *
   have b1:=Int.fmod_nonneg_of_pos c (show(0:Int)<wide by omega)
   have b2:=Int.fmod_lt_of_pos c (show(0:Int)<wide by omega)
   split<;>omega
def z40(ns:List Int)(at_:Int)(n:Nat)(m:Int):List Int:=(List.range n).map fun(k:Nat)=>z9z (z0t ns (at_+(k:Int))) m
theorem zh3(ns:List Int)(a:Int)(n:Nat)(m:Int):(z40 ns a n m).length=n:=by unfold z40;simp
end L2

end
section
local macro_rules|`(tactic| omega)=>`(tactic| first|lia|omega +splitDisjunctions)
set_option linter.all false
set_option maxRecDepth 100000
namespace L2
open PySem
def addR(a b:List Int):List Int:=List.zipWith (·+·) a b
def subR(a b:List Int):List Int:=List.zipWith (· - ·) a b
def sclR(k:Int)(a:List Int):List Int:=a.map (k*·)
def z1d(n:Nat):List Int:=List.replicate n 0
def mixR(n:Nat)(rows:List (List Int))(cs:List Int):List Int:=(rows.zip cs).foldl (fun t p=>addR t (sclR p.2 p.1)) (z1d n)
def isWh:Dt→Bool
 | .int _=>true
 | _=>false
theorem z82{a b:List Int}(h:a.length=b.length):(addR a b).length=a.length:=by unfold addR;rw[List.length_zipWith];omega
theorem z1l{k:Int}{a:List Int}:(sclR k a).length=a.length:=by unfold sclR;simp
theorem z3m{n:Nat}:(z1d n).length=n:=by unfold z1d;simp
theorem zcZ{i j:Int}{p q:Nat}(h1:i.natAbs<2 ^ p)(h2:j.natAbs<2 ^ q)(h:p+q≤134217728):z12 i j=true:=by
 unfold z12
 have a:=zaw h1
 have b:=zaw h2
 rw[decide_eq_true (show Builtin.Int.intBits i+Builtin.Int.intBits j≤134217728 by omega)]
 rfl
theorem ziw(a b:List Int):(a.zip b).map (fun p=>Dt.int (p.1+p.2))=(addR a b).map .int:=by
 unfold addR
 rw[List.zip,]
 induction a generalizing b with
 | nil=>rfl
 | cons x a ih=>cases b with
  | nil=>rfl
  | cons y b=>have:=ih b;simp[List.zipWith]
theorem zh4(a b:List Int):(a.zip b).map (fun p=>Dt.int (p.1-p.2))=(subR a b).map .int:=by
 unfold subR
 rw[List.zip,]
 induction a generalizing b with
 | nil=>rfl
 | cons x a ih=>cases b with
  | nil=>rfl
  | cons y b=>have:=ih b;simp[List.zipWith]
theorem z83{α β:Type}(g:α→β)(xs:List α)(i:Int):atI (xs.map g) i=(atI xs i).map g:=by
 unfold atI
 rw[List.length_map]
 cases ixN xs.length i with
 | none=>rfl
 | some j=>show(xs.map g)[j]?=_;rw[List.getElem?_map];rfl
theorem zd0{α:Type}{xs:List α}{i:Nat}(h:i<xs.length):atI xs (i:Int)=some xs[i]:=z4E (List.getElem?_eq_getElem h)
def Wide(n:Nat)(rows:List (List Int)):Prop:=∀ r∈rows,r.length=n
theorem zbE{n:Nat}:∀(ps:List (List Int×Int)) (t:List Int),t.length=n→(∀ p∈ps,p.1.length=n)→(ps.foldl (fun t p=>addR t (sclR p.2 p.1)) t).length=n
 | [],t,h,_=>h
 | p::ps,t,h,q=>zbE ps _ (by rw[z82 (by rw[h,z1l,q p List.mem_cons_self])];exact h) fun p hp=>q p (List.mem_cons_of_mem _ hp)
theorem zix{n:Nat}{rows:List (List Int)}{cs:List Int}(h:Wide n rows):(mixR n rows cs).length=n :=
 zbE _ _ z3m fun p hp=>h _ (List.of_mem_zip hp).1
theorem ziy(d:Dt):nrm .nw d=(.nw,d):=by unfold nrm;split<;>rfl
theorem run{F G:FS}{ρ ρ':Rho}{r:Option Oc}(h:F ρ=some (.nx ρ'))(k:G ρ'=r):sSeq F G ρ=r:=by
 unfold sSeq
 rw[h]
 exact k
theorem z4M{np n:Nat}{fr:Bool}{F:FS}{ds:List Dt}{f:Fl}{d:Dt}(hl:ds.length=np)(h:F (rho0 n ds)=some (.rt f d))(hf:(f.isFr||d.flat)=true):cOf np n fr F ds=some d:=by
 unfold cOf
 rw[if_pos hl,h]
 show(if(fr&&!(f.isFr||d.flat))=true then none else some d)=some d
 rw[hf]
 cases fr<;>rfl
theorem z84{n:Nat}(h:n≤1000000):z20 (n:Int)=true:=by
 unfold z20
 rw[decide_eq_true (show -1000000≤(n:Int) by omega),decide_eq_true (show(n:Int)≤1000000 by omega)]
 rfl
theorem zbF{α:Type}{xs:List α}{i:Nat}(d:α)(h:i<xs.length):atI xs (i:Int)=some (xs.getD i d):=by
 rw[zd0 h];simp[List.getD,List.getElem?_eq_getElem h]
theorem ziz(ns:List Int)(a:Int)(n:Nat)(m:Int):∀ x∈z40 ns a n m,x.natAbs<10 ^ 30:=fun x hx=>by
 unfold z40 at hx
 obtain⟨k,_,rfl⟩:=List.mem_map.mp hx
 exact ziv _ _
end L2

end
section
set_option linter.all false
set_option maxRecDepth 100000
namespace L2
open PySem
@[simp] theorem x0:∀(n:Nat) (ds:List Dt),rho0 n ds=List.map (Cell.sh false) ds++List.replicate (n-List.length ds) Cell.no:=by intros;rfl
@[simp] theorem x1:∀(F G:FS) (ρ:Rho),sSeq F G ρ=Option.bind (F ρ) (seqO G):=by intros;rfl
@[simp] theorem x2:∀(G:FS) (ρ:Rho),seqO G (Oc.nx ρ)=G ρ:=by intros;rfl
@[simp] theorem x3:∀(G:FS) (x:Oc),(∀(ρ:Rho),x=Oc.nx ρ→False)→seqO G x=some x:=by exact @L2.seqO.eq_2
@[simp] theorem x4:∀(c:FT) (F G:FS) (ρ:Rho),sIf c F G ρ=Option.bind (c ρ) fun b=>if b=true then F ρ else G ρ:=by intros;rfl
@[simp] theorem x5:∀(F:FE) (ρ:Rho),z0j F ρ=Option.bind (F ρ) fun x=>blD (Prod.snd x):=by intros;rfl
@[simp] theorem x6:∀(r:FO) (Fa Fb:FE) (ρ:Rho),
 fOp r Fa Fb ρ=Option.bind (Fa ρ) fun x=>Option.bind (Fb ρ) fun y=>r (Prod.snd x) (Prod.snd y):=by intros;rfl
@[simp] theorem x7:∀(i:Nat) (ρ:Rho),fN i ρ=zbn ρ i:=by intros;rfl
@[simp] theorem x8:∀(ρ:Rho) (i:Nat),zbn ρ i=Option.bind ρ[i]? Cell.val:=by intros;rfl
@[simp] theorem x9:Cell.val Cell.no=none:=by intros;rfl
@[simp] theorem x10:∀(f:Bool) (d:Dt),Cell.val (Cell.sh f d)=some (nrm (flOf f) d):=by intros;rfl
@[simp] theorem x11:∀(f:Bool) (ds:List Dt),Cell.val (Cell.ow f ds)=some (flOf f,Dt.lst ds):=by intros;rfl
@[simp] theorem x12:∀(f:Bool),flOf f=if f=true then Fl.fr else Fl.sh:=by intros;rfl
@[simp] theorem x13:∀(r:FB) (Fs:FA) (ρ:Rho),fBlt r Fs ρ=Option.bind (Fs ρ) fun xs=>r (sndL xs):=by intros;rfl
@[simp] theorem x14:∀(Fa:FE) (Fs:FA) (ρ:Rho),z02 Fa Fs ρ=Option.bind (Fa ρ) fun x=>Option.bind (Fs ρ) fun xs=>some (x::xs):=by intros;rfl
@[simp] theorem x15:∀(x:Rho),fNil x=some []:=by intros;rfl
@[simp] theorem x16:sndL []=[]:=by intros;rfl
@[simp] theorem x17:∀(x_1:Dv) (xs:List Dv),sndL (x_1::xs)=Prod.snd x_1::sndL xs:=by intros;rfl
@[simp] theorem x18:∀(xs:List Dt),bLen [Dt.lst xs]=some (Fl.nw,Dt.int ↑(List.length xs)):=by intros;rfl
@[simp] theorem x19:∀(xs:List Dt),bLen [Dt.tup xs]=some (Fl.nw,Dt.int ↑(List.length xs)):=by intros;rfl
@[simp] theorem x20:∀(xs:List Int),bLen [Dt.scr xs]=some (Fl.nw,Dt.int ↑(List.length xs)):=by intros;rfl
@[simp] theorem x22:∀(b:Bool),blD (Dt.bl b)=some b:=by intros;rfl
@[simp] theorem x24:truD Dt.non=some false:=by intros;rfl
@[simp] theorem x25:∀(b:Bool),truD (Dt.bl b)=some b:=by intros;rfl
@[simp] theorem x26:∀(i:Int),truD (Dt.int i)=some (i != 0):=by intros;rfl
@[simp] theorem x27:∀(ds:List Dt),truD (Dt.lst ds)=some !List.isEmpty ds:=by intros;rfl
@[simp] theorem x28:∀(ds:List Dt),truD (Dt.tup ds)=some !List.isEmpty ds:=by intros;rfl
@[simp] theorem x30:∀(F:FE) (ρ:Rho),sRet F ρ=Option.map (fun x=>Oc.rt (Prod.fst x) (Prod.snd x)) (F ρ):=by intros;rfl
@[simp] theorem x31:∀(ρ:Rho),z0M ρ=some (Oc.nx ρ):=by intros;rfl
@[simp] theorem x32:∀(Fa Fb:FE) (ρ:Rho),fAt Fa Fb ρ=Option.bind (Fa ρ) fun x=>Option.bind (Fb ρ) fun y=>opAt x y:=by intros;rfl
@[simp] theorem x33:∀(x y:Dv),
 opAt x y =
  match Prod.snd x,Prod.snd y with
  | Dt.lst ds,Dt.int i=>Option.map (nrm (Fl.item (Prod.fst x))) (atI ds i)
  | Dt.tup ds,Dt.int i=>Option.map (nrm (Fl.item (Prod.fst x))) (atI ds i)
  | Dt.scr ns,Dt.int i=>Option.map (fun n=>(Fl.nw,Dt.int n)) (atI ns i)
  | x,x_1=>none:=by intros;rfl
@[simp] theorem x34:∀(Fs:FA) (ρ:Rho),
 fLst Fs ρ =
  Option.bind (Fs ρ) fun xs =>
   if List.length xs≤1000 then some (if z3Y xs=true then Fl.nw else Fl.tn,Dt.lst (sndL xs)) else none:=by intros;rfl
@[simp] theorem x35:∀(Fs:FA) (ρ:Rho),
 fTup Fs ρ =
  Option.bind (Fs ρ) fun xs =>
   if List.length xs≤1000 then
    some (if z3Y xs=true then Fl.nw else if z2O xs=true then Fl.fr else Fl.sh,Dt.tup (sndL xs))
   else none:=by intros;rfl
@[simp] theorem x36:Fl.item Fl.tn=Fl.sh:=by intros;rfl
@[simp] theorem x37:∀(x:Fl),(x=Fl.tn→False)→Fl.item x=x:=by exact @L2.Fl.item.eq_2
@[simp] theorem x38:∀(d:Dt) (x:Rho),fC d x=some (Fl.nw,d):=by intros;rfl
@[simp] theorem x39:∀(F:FE) (ρ:Rho),fTru F ρ=Option.bind (F ρ) fun x=>truD (Prod.snd x):=by intros;rfl
@[simp] theorem x40:∀(F:FT) (ρ:Rho),fNot F ρ=Option.map not (F ρ):=by intros;rfl
@[simp] theorem x41:∀(F G:FT) (ρ:Rho),fAnd F G ρ=Option.bind (F ρ) fun b=>if b=true then G ρ else some false:=by intros;rfl
@[simp] theorem x42:∀(F G:FT) (ρ:Rho),fOr F G ρ=Option.bind (F ρ) fun b=>if b=true then some true else G ρ:=by intros;rfl
@[simp] theorem x43:∀(F G:FE) (ρ:Rho),
 vAnd F G ρ=Option.bind (z0j F ρ) fun b=>if b=true then G ρ else some (Fl.nw,Dt.bl false):=by intros;rfl
@[simp] theorem x44:∀(F G:FE) (ρ:Rho),vOr F G ρ=Option.bind (z0j F ρ) fun b=>if b=true then some (Fl.nw,Dt.bl true) else G ρ:=by intros;rfl
@[simp] theorem x45:∀(F:FE) (ρ:Rho),vNot F ρ=Option.map (fun b=>(Fl.nw,Dt.bl !b)) (z0j F ρ):=by intros;rfl
@[simp] theorem x46:∀(F:FE) (ρ:Rho),
 fNeg F ρ =
  Option.bind (F ρ) fun x =>
   match Prod.snd x with
   | Dt.int i=>some (Fl.nw,Dt.int (-i))
   | x=>none:=by intros;rfl
@[simp] theorem x47:∀(F:FT) (Fa Fb:FE) (ρ:Rho),fIf F Fa Fb ρ=Option.bind (F ρ) fun b=>if b=true then Fa ρ else Fb ρ:=by intros;rfl
@[simp] theorem x48:∀(T:String) (F:FE) (ρ:Rho),fIsi T F ρ=Option.map (fun x=>(Fl.nw,Dt.bl (zbr (tyN (Prod.snd x)) T))) (F ρ):=by intros;rfl
@[simp] theorem x49:∀(t T:String),zbr t T=(t==T||t == "bool" && T == "int"):=by intros;rfl
@[simp] theorem x50:tyN Dt.non = "NoneType" := by intros;rfl
@[simp] theorem x51:∀(b:Bool),tyN (Dt.bl b) = "bool" := by intros;rfl
@[simp] theorem x52:∀(i:Int),tyN (Dt.int i) = "int" := by intros;rfl
@[simp] theorem x53:∀(x_1:PySem.Str),tyN (Dt.str x_1) = "str" := by intros;rfl
@[simp] theorem x54:∀(xs:List Dt),tyN (Dt.lst xs) = "list" := by intros;rfl
@[simp] theorem x55:∀(ns:List Int),tyN (Dt.scr ns) = "list" := by intros;rfl
@[simp] theorem x56:∀(xs:List Dt),tyN (Dt.tup xs) = "tuple" := by intros;rfl
@[simp] theorem x57:∀(rels:List Nat) (i:Nat) (F:FE) (ρ:Rho),
 sSet rels i F ρ =
  Option.map (fun x=>Oc.nx (List.set (relS rels ρ) i (Cell.sh (Fl.isFr (Prod.fst x)) (Prod.snd x))))
   (F (z1i (relS rels ρ))):=by intros;rfl
@[simp] theorem x58:∀(x:Rho),relS [] x=x:=by intros;rfl
@[simp] theorem x59:∀(x:Rho) (i:Nat) (is:List Nat),relS (i::is) x=relS is (z9s x i):=by intros;rfl
@[simp] theorem x60:z1i []=[]:=by intros;rfl
@[simp] theorem x61:∀(c:Cell) (ρ:List Cell),z1i (c::ρ)=z32 c::z1i ρ:=by intros;rfl
@[simp] theorem x62:∀(f:Bool) (ds:List Dt),z32 (Cell.ow f ds)=Cell.no:=by intros;rfl
@[simp] theorem x63:∀(x:Cell),(∀(f:Bool) (ds:List Dt),x=Cell.ow f ds→False)→z32 x=x:=by exact @L2.z32.eq_2
@[simp] theorem x64:∀(fr:Bool) (c:FC) (Fs:FA) (ρ:Rho),
 z09 fr c Fs ρ=Option.bind (Fs ρ) fun xs=>Option.map (nrm (if fr=true then Fl.nw else Fl.sh)) (c (sndL xs)):=by intros;rfl
@[simp] theorem x65:Fl.isFr Fl.nw=true:=by intros;rfl
@[simp] theorem x66:Fl.isFr Fl.fr=true:=by intros;rfl
@[simp] theorem x68:Fl.isNw Fl.nw=true:=by intros;rfl
@[simp] theorem x69:∀(x:Fl),(x=Fl.nw→False)→Fl.isNw x=false:=by exact @L2.Fl.isNw.eq_2
@[simp] theorem x70:z3Y []=true:=by intros;rfl
@[simp] theorem x71:∀(x_1:Dv) (xs:List Dv),z3Y (x_1::xs)=(Fl.isNw (Prod.fst x_1)&&z3Y xs):=by intros;rfl
@[simp] theorem x72:z2O []=true:=by intros;rfl
@[simp] theorem x73:∀(x_1:Dv) (xs:List Dv),z2O (x_1::xs)=(Fl.isFr (Prod.fst x_1)&&z2O xs):=by intros;rfl
@[simp] theorem x74:∀(F:FE) (ρ:Rho),z54 F ρ=Option.map (fun x=>Oc.nx ρ) (F ρ):=by intros;rfl
@[simp] theorem x75:∀(rels:List Nat) (Fi:FI) (g:Tg) (F:FS) (ρ:Rho),
 sFor rels Fi g F ρ=Option.bind (Fi (z1i (relS rels ρ))) fun items=>forF g F items (relS rels ρ):=by intros;rfl
@[simp] theorem x76:∀(F:FE) (ρ:Rho),iSeq F ρ=Option.bind (F ρ) fun x=>seqD (Prod.snd x):=by intros;rfl
@[simp] theorem x77:∀(ds:List Dt),seqD (Dt.lst ds)=some ds:=by intros;rfl
@[simp] theorem x78:∀(ds:List Dt),seqD (Dt.tup ds)=some ds:=by intros;rfl
@[simp] theorem x80:∀(i:Nat) (F:FE) (ρ:Rho),
 z33 i F ρ =
  Option.bind (F ρ) fun x =>
   if Fl.isNw (Prod.fst x)=true then some (Oc.nx (List.set ρ i (Cell.sh true (Prod.snd x)))) else none:=by intros;rfl
@[simp] theorem x81:∀(i:Nat) (F:FE) (ρ:Rho),
 sOwn i F ρ =
  Option.bind (F (z1i ρ)) fun x =>
   match x with
   | (Fl.nw,Dt.lst ds)=>if i<List.length ρ then some (Oc.nx (List.set ρ i (Cell.ow true ds))) else none
   | (Fl.tn,Dt.lst ds)=>if i<List.length ρ then some (Oc.nx (List.set ρ i (Cell.ow false ds))) else none
   | x=>none:=by intros;rfl
@[simp] theorem x82:∀(i:Nat) (F:FE) (ρ:Rho),
 sOwnA i F ρ =
  Option.bind (F ρ) fun x =>
   match x with
   | (Fl.nw,Dt.lst ds)=>if i<List.length ρ then some (Oc.nx (List.set ρ i (Cell.ow true ds))) else none
   | x=>none:=by intros;rfl
@[simp] theorem x83:∀(w:FW) (i:Nat) (F:FE) (ρ:Rho),
 sWr w i F ρ =
  Option.bind (z35 ρ i) fun o =>
   Option.bind (F (z1i ρ)) fun x =>
    Option.map (fun ds=>Oc.nx (List.set ρ i (Cell.ow (Prod.fst o&&Fl.isFr (Prod.fst x)) ds)))
     (w (Prod.snd o) (Prod.snd x)):=by intros;rfl
@[simp] theorem x84:∀(w:FW) (i:Nat) (F:FE) (ρ:Rho),
 sWrA w i F ρ =
  Option.bind (z35 ρ i) fun o =>
   Option.bind (F ρ) fun x =>
    if Fl.isNw (Prod.fst x)=true then
     Option.map (fun ds=>Oc.nx (List.set ρ i (Cell.ow (Prod.fst o) ds))) (w (Prod.snd o) (Prod.snd x))
    else none:=by intros;rfl
@[simp] theorem x85:∀(i:Nat) (Fj Fe:FE) (ρ:Rho),
 sPut i Fj Fe ρ =
  Option.bind (z35 ρ i) fun o =>
   Option.bind (Fe (z1i ρ)) fun x =>
    Option.bind (Fj ρ) fun j =>
     Option.bind (intD (Prod.snd j)) fun n =>
      Option.map (fun ds=>Oc.nx (List.set ρ i (Cell.ow (Prod.fst o&&Fl.isFr (Prod.fst x)) ds)))
       (setD (Prod.snd o) n (Prod.snd x)):=by intros;rfl
@[simp] theorem x86:∀(ρ:Rho) (i:Nat),
 z35 ρ i =
  match ρ[i]? with
  | some (Cell.ow f ds)=>some (f,ds)
  | x=>none:=by intros;rfl
@[simp] theorem x87:∀(F:FE) (ρ:Rho),z5E F ρ=Option.bind (F ρ) fun x=>Option.map (z2p 0) (lstD (Prod.snd x)):=by intros;rfl
@[simp] theorem x88:∀(F:FE) (ρ:Rho),iRev F ρ=Option.bind (F ρ) fun x=>Option.map List.reverse (lstD (Prod.snd x)):=by intros;rfl
@[simp] theorem x89:∀(ds:List Dt),lstD (Dt.lst ds)=some ds:=by intros;rfl
@[simp] theorem x91:∀(F G:FE) (ρ:Rho),
 iZip F G ρ =
  Option.bind (F ρ) fun x =>
   Option.bind (G ρ) fun y =>
    Option.bind (seqD (Prod.snd x)) fun xs =>
     Option.bind (seqD (Prod.snd y)) fun ys=>if List.length xs=List.length ys then some (zipD xs ys) else none:=by intros;rfl
@[simp] theorem x92:∀(F:FE) (ρ:Rho),
 z0s F ρ =
  Option.bind (F ρ) fun x =>
   Option.bind (intD (Prod.snd x)) fun j=>if z20 j=true then some (z1T 0 (Int.toNat j)) else none:=by intros;rfl
@[simp] theorem x93:∀(i:Int),intD (Dt.int i)=some i:=by intros;rfl
@[simp] theorem x95:∀(ds:List Dt) (d:Dt),wApp ds d=if List.length ds<1000000 then some (ds++[d]) else none:=by intros;rfl
@[simp] theorem x96:∀(ds:List Dt) (d:Dt),z7X ds d=if List.length ds<1000000 then some (d::ds) else none:=by intros;rfl
@[simp] theorem x97:∀(ds:List Dt) (j:Int) (d:Dt),setD ds j d=Option.map (fun k=>List.set ds k d) (ixN (List.length ds) j):=by intros;rfl
@[simp] theorem x98:∀(xs:List Dt),bLst [Dt.lst xs]=some (newL xs):=by intros;rfl
@[simp] theorem x99:∀(xs:List Dt),bLst [Dt.tup xs]=some (newL xs):=by intros;rfl
@[simp] theorem x101:∀(xs:List Dt),bTup [Dt.lst xs]=some (if z0V xs=true then Fl.nw else Fl.sh,Dt.tup xs):=by intros;rfl
@[simp] theorem x102:∀(xs:List Dt),bTup [Dt.tup xs]=some (if z0V xs=true then Fl.nw else Fl.sh,Dt.tup xs):=by intros;rfl
@[simp] theorem x104:∀(x:Dt) (x_1:Rho) (i:Nat),Tg.put (Tg.one i) x x_1=some (List.set x_1 i (Cell.sh false x)):=by intros;rfl
@[simp] theorem x105:∀(x:Rho) (is:List Nat) (ds:List Dt),
 Tg.put (Tg.many is) (Dt.tup ds) x=if List.length ds=List.length is then some (z22 x is ds) else none:=by intros;rfl
@[simp] theorem x107:∀(x:Rho) (i:Nat) (is:List Nat) (d:Dt) (ds:List Dt),
 z22 x (i::is) (d::ds)=z22 (List.set x i (Cell.sh false d)) is ds:=by intros;rfl
@[simp] theorem x108:∀(x:Rho) (x_1:List Nat) (x_2:List Dt),
 (∀(i:Nat) (is:List Nat) (d:Dt) (ds:List Dt),x_1=i::is→x_2=d::ds→False)→z22 x x_1 x_2=x:=by exact @L2.z22.eq_2
@[simp] theorem x109:z3Z Cell.no=Cell.no:=by intros;rfl
@[simp] theorem x110:∀(f:Bool) (d:Dt),z3Z (Cell.sh f d)=Cell.sh false d:=by intros;rfl
@[simp] theorem x111:∀(f:Bool) (ds:List Dt),z3Z (Cell.ow f ds)=Cell.sh false (Dt.lst ds):=by intros;rfl
@[simp] theorem x112:∀(nt:Nat) (js:List Nat) (ρ:Rho),
 sigD nt js ρ =
  List.replicate nt Cell.no ++
   List.map
    (fun j =>
     match ρ[j]? with
     | some c=>z3Z c
     | none=>Cell.no)
    js:=by intros;rfl
@[simp] theorem x113:∀(r r':FO) (Fa Fb Fc:FE) (ρ:Rho),
 z7N r r' Fa Fb Fc ρ =
  Option.bind (Fa ρ) fun x =>
   Option.bind (Fb ρ) fun y =>
    Option.bind (r (Prod.snd x) (Prod.snd y)) fun z =>
     Option.bind (blD (Prod.snd z)) fun k =>
      if k=true then Option.bind (Fc ρ) fun w=>r' (Prod.snd y) (Prod.snd w) else some (Fl.nw,Dt.bl false):=by intros;rfl
@[simp] theorem x114:∀(c:FC) (F:FE) (ρ:Rho),
 z5d c F ρ =
  Option.bind (F ρ) fun x =>
   Option.bind (lstD (Prod.snd x)) fun ds =>
    Option.bind (z25 c ds) fun ks =>
     if List.length ds<64∧List.Nodup ks then
      some (newL (List.map (fun x=>Prod.snd x) (z2i (List.zip ks ds))))
     else none:=by intros;rfl
@[simp] theorem x115:∀(i j:Int),opLt (Dt.int i) (Dt.int j)=some (Fl.nw,Dt.bl (decide (i<j))):=by intros;rfl
@[simp] theorem x116:∀(i j:Int),opLe (Dt.int i) (Dt.int j)=some (Fl.nw,Dt.bl (decide (i≤j))):=by intros;rfl
@[simp] theorem x117:∀(i j:Int),opGt (Dt.int i) (Dt.int j)=some (Fl.nw,Dt.bl (decide (j<i))):=by intros;rfl
@[simp] theorem x118:∀(i j:Int),opGe (Dt.int i) (Dt.int j)=some (Fl.nw,Dt.bl (decide (j≤i))):=by intros;rfl
@[simp] theorem x119:∀(i j:Int),z3i (Dt.int i) (Dt.int j)=some (Fl.nw,Dt.int (i-j)):=by intros;rfl
@[simp] theorem x120:∀(i j:Int),z30 (Dt.int i) (Dt.int j)=if z6P i j=true then some (Fl.nw,Dt.int (Int.fmod i j)) else none:=by intros;rfl
@[simp] theorem x121:∀(i j:Int),z19 (Dt.int i) (Dt.int j)=if z12 i j=true then some (Fl.nw,Dt.int (i*j)) else none:=by intros;rfl
@[simp] theorem x122:∀(i j:Int),z2N (Dt.int i) (Dt.int j)=if z1J i j=true then some (Fl.nw,Dt.int (Int.fdiv i j)) else none:=by intros;rfl
@[simp] theorem x123:∀(i j:Int),z9j (Dt.int i) (Dt.int j)=if z7M i j=true then some (Fl.nw,Dt.int (i ^ Int.toNat j)) else none:=by intros;rfl
@[simp] theorem x124:∀(i j:Int),z0z (Dt.int i) (Dt.int j)=some (Fl.nw,Dt.int (i+j)):=by intros;rfl
@[simp] theorem x125:∀(f:Fl) (i:Int),nrm f (Dt.int i)=(Fl.nw,Dt.int i):=by intros;rfl
@[simp] theorem x126:∀(f:Fl) (i:Bool),nrm f (Dt.bl i)=(Fl.nw,Dt.bl i):=by intros;rfl
@[simp] theorem x127:∀(f:Fl),nrm f Dt.non=(Fl.nw,Dt.non):=by intros;rfl
@[simp] theorem x128:∀(f:Fl) (ns:List Int),nrm f (Dt.scr ns)=(f,Dt.scr ns):=by intros;rfl
@[simp] theorem x129:∀(f:Fl) (ns:List Int),nrm f (L ns)=(f,L ns):=by intros;rfl
@[simp] theorem x130:∀(f:Fl) (ns:List (List Int)),nrm f (LL ns)=(f,LL ns):=by intros;rfl
@[simp] theorem x134:∀{α β:Type} {a:α} {f:α→Option β},Option.bind (some a) f=f a:=by intros;rfl
@[simp] theorem x135:∀{α β:Type} {f:α→Option β},Option.bind none f=none:=by intros;rfl
@[simp] theorem x136:∀{α:Type} {x:α} {xs:List α},atI (x::xs) 0=some x:=by exact @L2.atI_c0
@[simp] theorem x137:∀{α:Type} {x y:α} {xs:List α},atI (x::y::xs) 1=some y:=by exact @L2.atI_c1
@[simp] theorem x138:∀{α:Type} {x y z:α} {xs:List α},atI (x::y::z::xs) 2=some z:=by exact @L2.atI_c2
@[simp] theorem y1(ns:List Int):newL (List.map Dt.int ns)=(Fl.nw,Dt.lst (List.map Dt.int ns)):=z4K ns
@[simp] theorem y2:newL []=(Fl.nw,Dt.lst []):=rfl
@[simp] theorem y3(ns:List Int):z0V (List.map Dt.int ns)=true:=z2Q ns
@[simp] theorem y4(d:Dt):nrm Fl.nw d=(Fl.nw,d):=ziy d
@[simp] theorem y5(i:Int):Dt.flat (Dt.int i)=true:=rfl
@[simp] theorem y6(i:Bool):Dt.flat (Dt.bl i)=true:=rfl
@[simp] theorem y7(f:Fl)(ds:List Dt):nrm f (Dt.lst ds)=(f,Dt.lst ds):=rfl
@[simp] theorem y8:z0V []=true:=rfl
@[simp] theorem y9(d:Dt)(ds:List Dt):z0V (d::ds)=(d.flat&&z0V ds):=by rw[z0V]
@[simp] theorem y10(ds:List Dt):Dt.flat (Dt.lst ds)=false:=by rw[Dt.flat]
@[simp] theorem y11(ds:List Dt):Dt.flat (Dt.tup ds)=z0V ds:=by rw[Dt.flat]
@[simp] theorem y12(f:Fl)(ds:List Dt):nrm f (Dt.tup ds)=(if z0V ds=true then Fl.nw else f,Dt.tup ds):=rfl
@[simp] theorem xd1:tyN Dt.dic = "dict" := rfl
@[simp] theorem xd2:Dt.flat Dt.dic=true:=by unfold Dt.flat;rfl
end L2

end
section
local macro_rules|`(tactic| omega)=>`(tactic| first|lia|omega +splitDisjunctions)
set_option linter.all false
set_option maxRecDepth 100000
namespace L2
open PySem
theorem z49{γ:Type}{g:Tg}{F:FS}(R:Nat→γ→Rho):∀(n k:Nat) (j:γ),(∀ i j,k≤i→i<k+n→∃ j',(g.put (.int (i:Int)) (R i j)).bind F=some (.nx (R (i+1) j')))→∃ j',forF g F ((List.range n).map fun(i:Nat) => .int (((k+i:Nat):Int))) (R k j)=some (.nx (R (k+n) j'))
 | 0,k,j,_=>⟨j,rfl⟩
 | n+1,k,j,h=>by
  obtain⟨j1,h1⟩:=h k j (Nat.le_refl _) (by omega)
  obtain⟨j2,h2⟩:=z49 R n (k+1) j1 fun i j hi hl=>h i j (by omega) (by omega)
  refine⟨j2,?_⟩
  rw[List.range_succ_eq_map,List.map_cons,z1K,Nat.add_zero,h1,List.map_map]
  rw[show k+(n+1)=k+1+n by omega,←h2]
  show forF g F _ (R (k+1) j1)=forF g F _ (R (k+1) j1)
  congr 1
  apply List.map_congr_left
  intro i _
  show Dt.int ((k+(i+1):Nat):Int)=_
  rw[show k+(i+1)=k+1+i by omega]
theorem zd1{γ:Type}{g:Tg}{F:FS}(R:Nat→γ→Rho)(n:Nat)(j:γ)(h:∀ i j,i<n→∃ j',(g.put (.int (i:Int)) (R i j)).bind F=some (.nx (R (i+1) j'))):∃ j',forF g F (z1T 0 n) (R 0 j)=some (.nx (R n j')):=by
 obtain⟨j',e⟩:=z49 R n 0 j fun i j _ hi=>h i j (by omega)
 refine⟨j',?_⟩
 rw[Nat.zero_add]at e
 rw[←e,z1j]
 congr 1
@[simp] theorem y13(n:Nat)(h:n≤1000000):z20 (n:Int)=true:=z84 h
end L2
namespace L2
open PySem
theorem ziA{α:Type}(xs:List α)(n:Nat):cutD xs (some (n:Int)) none=xs.drop n:=by
 unfold cutD
 rw[HT.sIx_none,HT.sIx_nat]
 by_cases h:n≤xs.length
 · rw[Nat.min_eq_left h,List.take_of_length_le (by rw[List.length_drop];omega)]
 · rw[Nat.min_eq_right (by omega),List.drop_eq_nil_of_le (by omega),List.drop_eq_nil_of_le (by omega)];simp
@[simp] theorem y14(F:FE)(A B:FP)(ρ:Rho):fSl F A B ρ=(F ρ).bind fun x=>(A ρ).bind fun lo=>(B ρ).bind fun hi=>match x.2 with|.lst ds=>some (newL (cutD ds lo hi))|_=>none:=rfl
@[simp] theorem y15(F:FE)(ρ:Rho):zg2 F ρ=(F ρ).bind fun x=>(intD x.2).map some:=rfl
@[simp] theorem y16(ρ:Rho):z7q ρ=some none:=rfl
theorem z85(xs:List Int)(n:Nat):newL ((xs.map Dt.int).drop n)=(.nw,L (xs.drop n)):=by rw[←List.map_drop];exact z4K _
theorem ziB(a b:List Int)(h:a.length+b.length≤1000000):z0z (.lst (a.map Dt.int)) (.lst (b.map Dt.int))=some (.nw,L (a++b)):=by
 have:z0z (.lst (a.map Dt.int)) (.lst (b.map Dt.int))=z5B (.lst (a.map Dt.int)) (.lst (b.map Dt.int)):=rfl
 rw[this,z5B,if_pos (by simpa using h),←List.map_append,z4K]
end L2

end
section
local macro_rules|`(tactic| omega)=>`(tactic| first|lia|omega +splitDisjunctions)
set_option linter.all false
namespace Lat
abbrev Vec:=Nat→Int
def Span:List Vec→Vec→Prop
 | [],v=>∀ k,v k=0
 | r::rs,v=>∃ c:Int,Span rs (fun k=>v k-c*r k)
theorem Span.congr{rs:List Vec}{v w:Vec}(h:∀ k,v k=w k)(s:Span rs v):Span rs w:=by
 have:v=w:=funext h
 rw[←this];exact s
theorem Span.zero:∀{rs:List Vec},Span rs (fun _=>0)
 | []=>fun _=>rfl
 | r::rs=>⟨0,Span.congr (fun k=>by simp) (Span.zero (rs:=rs))⟩
theorem Span.add:∀{rs:List Vec} {v w:Vec},Span rs v→Span rs w→Span rs (fun k=>v k+w k)
 | [],v,w,h1,h2=>fun k=>by show v k+w k=0;rw[h1 k,h2 k];rfl
 | r::rs,v,w,⟨c,h1⟩,⟨d,h2⟩=>⟨c+d,Span.congr (fun k=>by show _=(v k+w k)-(c+d)*r k;rw[Int.add_mul];omega) (h1.add h2)⟩
theorem Span.smul:∀{rs:List Vec} {v:Vec} (a:Int),Span rs v→Span rs (fun k=>a*v k)
 | [],v,a,h=>fun k=>by show a*v k=0;rw[h k,Int.mul_zero]
 | r::rs,v,a,⟨c,h⟩=>⟨a*c,Span.congr (fun k=>by rw[Int.mul_sub,Int.mul_assoc]) (h.smul a)⟩
theorem Span.neg{rs:List Vec}{v:Vec}(h:Span rs v):Span rs (fun k =>-v k):=Span.congr (fun k=>by omega) (h.smul (-1))
theorem Span.sub{rs:List Vec}{v w:Vec}(h1:Span rs v)(h2:Span rs w):Span rs (fun k=>v k-w k):=Span.congr (fun k=>by omega) (h1.add h2.neg)
theorem Span.head{r:Vec}{rs:List Vec}:Span (r::rs) r:=⟨1,Span.congr (fun k=>by omega) Span.zero⟩
theorem Span.cons{r:Vec}{rs:List Vec}{v:Vec}(h:Span rs v):Span (r::rs) v:=⟨0,Span.congr (fun k=>by omega) h⟩
theorem Span.mem:∀{rs:List Vec} {r:Vec},r∈rs→Span rs r
 | _::_,_,.head _=>Span.head
 | _::_,_,.tail _ h=>(Span.mem h).cons
theorem Span.least{P:Vec→Prop}(z:P (fun _=>0))(a:∀ v w,P v→P w→P (fun k=>v k+w k))(m:∀(c:Int) v,P v→P (fun k=>c*v k)):
  ∀{rs:List Vec} {v:Vec},(∀ r∈rs,P r)→Span rs v→P v
 | [],v,_,h=>by have:v=fun _=>0:=funext h;rw[this];exact z
 | r::rs,v,hr,⟨c,h⟩=>by
  have h1:=Span.least z a m (fun x hx=>hr x (List.mem_cons_of_mem _ hx)) h
  have h2:=a _ _ h1 (m c r (hr r List.mem_cons_self))
  have:v=fun k=>(v k-c*r k)+c*r k:=funext fun k=>by omega
  rw[this];exact h2
theorem Span.trans{rs ss:List Vec}{v:Vec}(h:∀ r∈rs,Span ss r)(s:Span rs v):Span ss v :=
 Span.least (P:=Span ss) Span.zero (fun _ _=>Span.add) (fun c _=>Span.smul c) h s
def SameSpan(rs ss:List Vec):Prop:=(∀ r∈rs,Span ss r)∧∀ s∈ss,Span rs s
theorem SameSpan.iff{rs ss:List Vec}(h:SameSpan rs ss){v:Vec}:Span rs v↔Span ss v:=⟨Span.trans h.1,Span.trans h.2⟩
theorem SameSpan.refl{rs:List Vec}:SameSpan rs rs:=⟨fun _=>Span.mem,fun _=>Span.mem⟩
theorem SameSpan.symm{rs ss:List Vec}(h:SameSpan rs ss):SameSpan ss rs:=⟨h.2,h.1⟩
theorem SameSpan.trans{rs ss ts:List Vec}(h:SameSpan rs ss)(g:SameSpan ss ts):SameSpan rs ts:=⟨fun r hr=>(h.1 r hr).trans g.1,fun t ht=>(g.2 t ht).trans h.2⟩
def Form:Nat→List (Nat×Vec)→Prop
 | _,[]=>True
 | f,(h,r)::rs=>f≤h∧(∀ k,k<h→r k=0)∧0<r h∧(∀ p∈rs,0≤r p.1∧r p.1<p.2 p.1)∧Form (h+1) rs
abbrev z0L(S:List (Nat×Vec)):List Vec:=S.map (·.2)
theorem Form.low:∀{f:Nat} {S:List (Nat×Vec)} {v:Vec},Form f S→Span (z0L S) v→∀ k,k<f→v k=0
 | _,[],v,_,s,k,_=>s k
 | f,(h,r)::S,v,⟨h1,h2,h3,h4,h5⟩,⟨c,s⟩,k,hk=>by
  have:=Form.low h5 s k (by omega)
  have e:r k=0:=h2 k (by omega)
  have this:v k-c*r k=0:=this
  rw[e]at this
  simpa using this
theorem Form.coef{f h:Nat}{r v:Vec}{S:List (Nat×Vec)}{c:Int}(F:Form f ((h,r)::S))(s:Span (z0L S) (fun k=>v k-c*r k)):v h=c*r h:=by
 have:v h-c*r h=0:=F.2.2.2.2.low s h (by omega)
 omega
theorem z3c{c r v:Int}(e:v=c*r)(hr:0<r)(h1 : -r<v)(h2:v<r):c=0:=by
 rcases Int.lt_trichotomy c 0 with h|h|h
 · exfalso
   have:c*r ≤ -1*r:=Int.mul_le_mul_of_nonneg_right (by omega) (by omega)
   omega
 · exact h
 · exfalso
   have:1*r≤c*r:=Int.mul_le_mul_of_nonneg_right (by omega) (by omega)
   omega
theorem Form.small:∀{f:Nat} {S:List (Nat×Vec)} {v:Vec},Form f S→Span (z0L S) v→(∀ p∈S,-(p.2 p.1)<v p.1∧v p.1<p.2 p.1)→∀ k,v k=0
 | _,[],v,_,s,_=>s
 | f,(h,r)::S,v,F,⟨c,s⟩,hs=>by
  have e:=F.coef s
  have hp:=hs (h,r) List.mem_cons_self
  have c0:c=0:=z3c e F.2.2.1 hp.1 hp.2
  subst c0
  refine F.2.2.2.2.small (Span.congr (fun k=>by omega) s) (fun p hp=>hs p (List.mem_cons_of_mem _ hp))
theorem Form.tail{f h:Nat}{r v:Vec}{S:List (Nat×Vec)}(F:Form f ((h,r)::S))(s:Span (z0L ((h,r)::S)) v)(z:v h=0):Span (z0L S) v:=by
 obtain⟨c,s⟩:=s
 have e:=F.coef s
 have hr:=F.2.2.1
 rw[z]at e
 have c0:c=0:=by
  rcases Int.mul_eq_zero.mp e.symm with h|h
  · exact h
  · omega
 subst c0
 exact Span.congr (fun k=>by omega) s
theorem Form.head_le{f g h h':Nat}{r r':Vec}{S S':List (Nat×Vec)}(F:Form f ((h,r)::S))(G:Form g ((h',r')::S'))(s:Span (z0L ((h',r')::S')) r):h'≤h:=by
 apply Nat.le_of_not_lt
 intro hlt
 have G':Form h' ((h',r')::S'):=⟨Nat.le_refl _,G.2⟩
 have:=G'.low s h hlt
 have:=F.2.2.1
 omega
theorem Form.unique:∀{S T:List (Nat×Vec)} {f g:Nat},Form f S→Form g T→SameSpan (z0L S) (z0L T)→S=T
 | [],[],_,_,_,_,_=>rfl
 | [],(h,r)::T,_,_,_,G,s=>by
  have:=s.2 r List.mem_cons_self h
  have:=G.2.2.1
  omega
 | (h,r)::S,[],_,_,F,_,s=>by
  have:=s.1 r List.mem_cons_self h
  have:=F.2.2.1
  omega
 | (h,r)::S,(h',r')::T,f,g,F,G,s=>by
  have s1:Span (z0L ((h',r')::T)) r:=s.1 r List.mem_cons_self
  have s2:Span (z0L ((h,r)::S)) r':=s.2 r' List.mem_cons_self
  have eh:h=h':=Nat.le_antisymm (G.head_le F s2) (F.head_le G s1)
  subst eh
  have evh:r h=r' h:=by
   obtain⟨c,q⟩:=s1
   obtain⟨d,q'⟩:=s2
   have e1:=G.coef q
   have e2:=F.coef q'
   have p1:=F.2.2.1
   have p2:=G.2.2.1
   have c1:1≤c:=by
     apply Int.not_lt.mp;intro hc
     have:c*r' h≤0:=Int.mul_nonpos_of_nonpos_of_nonneg (by omega) (by omega)
     omega
   have d1:1≤d:=by
     apply Int.not_lt.mp;intro hd
     have:d*r h≤0:=Int.mul_nonpos_of_nonpos_of_nonneg (by omega) (by omega)
     omega
   have a1:1*r' h≤c*r' h:=Int.mul_le_mul_of_nonneg_right c1 (by omega)
   have a2:1*r h≤d*r h:=Int.mul_le_mul_of_nonneg_right d1 (by omega)
   omega
  have tails:SameSpan (z0L S) (z0L T):=by
   constructor
   · intro x hx
     have hs:Span (z0L S) x:=Span.mem hx
     have z:=F.2.2.2.2.low hs h (by omega)
     exact G.tail (s.iff.mp hs.cons) z
   · intro x hx
     have hs:Span (z0L T) x:=Span.mem hx
     have z:=G.2.2.2.2.low hs h (by omega)
     exact F.tail (s.iff.mpr hs.cons) z
  have eST:=Form.unique F.2.2.2.2 G.2.2.2.2 tails
  subst eST
  have d0:Span (z0L S) (fun k=>r k-r' k):=F.tail (Span.sub Span.head s2) (by omega)
  have er:r=r':=funext fun k=>by
   have:=F.2.2.2.2.small d0 (fun p hp=>by
     have q1:=F.2.2.2.1 p hp
     have q2:=G.2.2.2.1 p hp
     omega) k
   omega
  rw[er]
theorem Form.free{f:Nat}{S:List (Nat×Vec)}(F:Form f S){v:Vec}:∀{c d:Int} {h:Nat} {r:Vec} {T:List (Nat×Vec)},S=(h,r)::T→Span (z0L T) (fun k=>v k-c*r k)→Span (z0L T) (fun k=>v k-d*r k)→c=d:=by
 rintro c d h r T rfl s1 s2
 have e1:=F.coef s1
 have e2:=F.coef s2
 have p:=F.2.2.1
 have:(c-d)*r h=0:=by rw[Int.sub_mul];omega
 rcases Int.mul_eq_zero.mp this with h|h<;>omega
end Lat

end
section
set_option linter.all false
namespace Lat
theorem z3d{α β:Type}[DecidableEq β]:∀{l:List α} {m:List β} (f:α→β),l.Nodup→(∀ x∈l,∀ y∈l,f x=f y→x=y)→(∀ x∈l,f x∈m)→l.length≤m.length
 | [],m,f,_,_,_=>Nat.zero_le _
 | x::l,m,f,hn,hi,hm=>by
  have hx:=hm x List.mem_cons_self
  have hn':=List.nodup_cons.mp hn
  have h1:l.length≤(m.erase (f x)).length:=by
   refine z3d f hn'.2 (fun a ha b hb=>hi a (List.mem_cons_of_mem _ ha) b (List.mem_cons_of_mem _ hb)) (fun a ha=>?_)
   have hne:f a≠f x:=fun e=>by
    have:=hi a (List.mem_cons_of_mem _ ha) x List.mem_cons_self e
    subst this
    exact hn'.1 ha
   exact(List.mem_erase_of_ne hne).mpr (hm a (List.mem_cons_of_mem _ ha))
  have h2:(m.erase (f x)).length=m.length-1:=List.length_erase_of_mem hx
  have h3:0<m.length:=List.length_pos_of_mem hx
  simp only[List.length_cons]
  omega
def box:List Nat→List (List Int)
 | []=>[[]]
 | n::ns=>(List.range n).flatMap fun(i:Nat)=>(box ns).map fun t=>(i:Int)::t
def prod:List Nat→Nat
 | []=>1
 | n::ns=>n*prod ns
theorem zbG{α:Type}(g:Nat→List α)(k:Nat):∀(l:List Nat),(∀ i∈l,(g i).length=k)→(l.flatMap g).length=l.length*k
 | [],_=>by simp
 | i::l,h=>by
  rw[List.flatMap_cons,List.length_append,zbG g k l (fun j hj=>h j (List.mem_cons_of_mem _ hj)),h i List.mem_cons_self,List.length_cons,Nat.succ_mul,Nat.add_comm]
theorem z5e:∀ ns:List Nat,(box ns).length=prod ns
 | []=>rfl
 | n::ns=>by
  show((List.range n).flatMap fun(i:Nat)=>(box ns).map fun t=>(i:Int)::t).length=n*prod ns
  rw[zbG _ (prod ns) _ (fun i _=>by rw[List.length_map,z5e ns]),List.length_range]
def z1a:List Nat→List Int→Prop
 | [],[]=>True
 | n::ns,x::xs=>0≤x∧x<n∧z1a ns xs
 | _,_=>False
theorem z4N:∀{ns:List Nat} {t:List Int},t∈box ns↔z1a ns t
 | [],[]=>by simp[box,z1a]
 | [],x::t=>by simp[box,z1a]
 | n::ns,[]=>by simp[box,z1a]
 | n::ns,x::t=>by
  simp only[box,z1a,List.mem_flatMap,List.mem_range,List.mem_map,List.cons.injEq]
  constructor
  · rintro⟨i,hi,u,hu,rfl,rfl⟩
    exact⟨by omega,by omega,z4N.mp hu⟩
  · rintro⟨h0,h1,h2⟩
    exact⟨x.toNat,by omega,t,z4N.mpr h2,by omega,rfl⟩
theorem z9A:∀ ns:List Nat,(box ns).Nodup
 | []=>by simp[box]
 | n::ns=>by
  have ih:=z9A ns
  have key:∀ m,((List.range m).flatMap fun(i:Nat)=>(box ns).map fun t=>(i:Int)::t).Nodup:=by
   intro m
   induction m with
   | zero=>simp
   | succ m hm =>
    rw[List.range_succ,List.flatMap_append,List.nodup_append]
    refine⟨hm,?_,?_⟩
    · rw[List.flatMap_cons,List.flatMap_nil,List.append_nil]
      refine List.Pairwise.map _ (fun a b hab e=>hab ?_) ih
      exact(List.cons.inj e).2
    · intro a ha b hb e
      subst e
      simp only[List.mem_flatMap,List.mem_range,List.mem_map,List.mem_singleton]at ha hb
      obtain⟨i,hi,u,hu,rfl⟩:=ha
      obtain⟨j,hj,w,hw,e⟩:=hb
      have:=(List.cons.inj e).1
      omega
  exact key n
theorem zaF{ns ms:List Nat}(f:List Int→List Int)(hi:∀ s t,z1a ns s→z1a ns t→f s=f t→s=t)(hm:∀ s,z1a ns s→z1a ms (f s)):prod ns≤prod ms:=by
 rw[←z5e ns,←z5e ms]
 exact z3d f (z9A ns) (fun x hx y hy=>hi x y (z4N.mp hx) (z4N.mp hy)) (fun x hx=>z4N.mpr (hm x (z4N.mp hx)))
end Lat

end
section
local macro_rules|`(tactic| omega)=>`(tactic| first|lia|omega +splitDisjunctions)
set_option linter.all false
namespace Br
structure BI(a b u0 u1 u2 l0 l1 l2:Int):Prop where
 up:a*u1+b*u2=u0
 lo:a*l1+b*l2=l0
 gcd:Int.gcd u0 l0=Int.gcd a b
 p1:u0.natAbs*l1.natAbs+l0.natAbs*u1.natAbs≤a.natAbs+2*b.natAbs
 p2:u0.natAbs*l2.natAbs+l0.natAbs*u2.natAbs≤a.natAbs+2*b.natAbs
 ph:(u0=a∧u1=1∧u2=0∧l0=b∧l1=0∧l2=1)∨(0≤u0*l0∧u0≠0)
 b1:u1.natAbs≤a.natAbs+2*b.natAbs+1
 b2:u2.natAbs≤a.natAbs+2*b.natAbs+1
 b3:l1.natAbs≤a.natAbs+2*b.natAbs+1
 b4:l2.natAbs≤a.natAbs+2*b.natAbs+1
 c1:u0.natAbs≤a.natAbs+b.natAbs
 c2:l0.natAbs≤b.natAbs
theorem BI.start(a b:Int):BI a b a 1 0 b 0 1 where
 up:=by simp
 lo:=by simp
 gcd:=rfl
 p1:=by simp;omega
 p2:=by simp
 ph := .inl ⟨rfl,rfl,rfl,rfl,rfl,rfl⟩
 b1:=by simp
 b2:=by simp
 b3:=by simp
 b4:=by simp
 c1:=by omega
 c2:=by omega
theorem pot(L A R Qa u1 l1 f1 E:Nat)(hA:Qa*L+R≤A+E)(hf:f1≤u1+Qa*l1):L*f1+R*l1≤A*l1+L*u1+E*l1:=by
 have h1:L*f1≤L*(u1+Qa*l1):=Nat.mul_le_mul_left L hf
 have h2:L*(u1+Qa*l1)=L*u1+Qa*L*l1:=by
  rw[Nat.mul_add,←Nat.mul_assoc,Nat.mul_comm L Qa]
 have h3:(Qa*L+R)*l1≤(A+E)*l1:=Nat.mul_le_mul_right l1 hA
 rw[Nat.add_mul,Nat.add_mul]at h3
 omega
theorem zbH(u l:Int)(h:0<l):(u-u.fdiv l*l).natAbs<l.natAbs∧0≤l*(u-u.fdiv l*l)∧(0≤u*l→(u.fdiv l).natAbs*l.natAbs+(u-u.fdiv l*l).natAbs=u.natAbs) ∧
  (u.fdiv l).natAbs*l.natAbs≤u.natAbs+(u-u.fdiv l*l).natAbs:=by
 have hs:u.fdiv l*l=u-u.fmod l:=Int.fdiv_mul_self u l
 have hq:(u.fdiv l).natAbs*l.natAbs=(u.fdiv l*l).natAbs:=(Int.natAbs_mul _ _).symm
 have e:u-u.fdiv l*l=u.fmod l:=by omega
 rw[e,hq,hs]
 have h1:0≤u.fmod l:=Int.fmod_nonneg_of_pos u h
 have h2:u.fmod l<l:=Int.fmod_lt_of_pos u h
 refine⟨by omega,Int.mul_nonneg (by omega) h1,fun hu=>?_,by omega⟩
 have hu0:0≤u:=by
  by_cases hu':0≤u
  · exact hu'
  · have:=Int.mul_neg_of_neg_of_pos (show u<0 by omega) h
    omega
 have:u.fmod l≤u:=by
  have q1:0≤u.fdiv l:=Int.fdiv_nonneg hu0 (by omega)
  have q2:0≤u.fdiv l*l:=Int.mul_nonneg q1 (by omega)
  omega
 omega
theorem zg9(u l:Int)(hl:l≠0):(u-u.fdiv l*l).natAbs<l.natAbs∧0≤l*(u-u.fdiv l*l)∧(0≤u*l→(u.fdiv l).natAbs*l.natAbs+(u-u.fdiv l*l).natAbs=u.natAbs) ∧
   (u.fdiv l).natAbs*l.natAbs≤u.natAbs+(u-u.fdiv l*l).natAbs:=by
 rcases Int.lt_or_gt_of_ne hl with h|h
 · have q:=zbH (-u) (-l) (by omega)
   rw[Int.neg_fdiv_neg]at q
   have e : -u-u.fdiv l * -l = -(u-u.fdiv l*l):=by rw[Int.mul_neg];omega
   rw[e,Int.natAbs_neg,Int.natAbs_neg,Int.natAbs_neg,Int.neg_mul_neg,Int.neg_mul_neg]at q
   exact q
 · exact zbH u l h
theorem z86{a b c:Nat}(h:a*b≤c)(ha:a≠0):b≤c:=Nat.le_trans (Nat.le_mul_of_pos_left b (Nat.pos_of_ne_zero ha)) h
theorem zga(u q l:Int):(u-q*l).natAbs≤u.natAbs+q.natAbs*l.natAbs:=by
 have:=Int.natAbs_mul q l
 omega
theorem BI.turn{a b u0 u1 u2 l0 l1 l2:Int}(h:BI a b u0 u1 u2 l0 l1 l2)(hl:l0≠0):
   BI a b l0 l1 l2 (u0-u0.fdiv l0*l0) (u1-u0.fdiv l0*l1) (u2-u0.fdiv l0*l2):=by
 obtain⟨r1,r2,r3,r4⟩:=zg9 u0 l0 hl
 have hL:l0.natAbs≠0:=fun e=>hl (Int.natAbs_eq_zero.mp e)
 have hup:=h.up
 have hlo:=h.lo
 generalize eq:u0.fdiv l0=q at *
 have lin:∀(x y:Int),a*(x-q*l1)+b*(y-q*l2)=(a*x+b*y)-q*(a*l1+b*l2):=fun x y=>by
   rw[Int.mul_sub,Int.mul_sub,Int.mul_add,Int.mul_left_comm a q l1,Int.mul_left_comm b q l2];omega
 have f1:(u1-q*l1).natAbs≤u1.natAbs+q.natAbs*l1.natAbs:=zga u1 q l1
 have f2:(u2-q*l2).natAbs≤u2.natAbs+q.natAbs*l2.natAbs:=zga u2 q l2
 have key:∀(x y f:Nat),f≤x+q.natAbs*y→u0.natAbs*y+l0.natAbs*x≤a.natAbs+2*b.natAbs→((0≤u0*l0)∨(y=0)∨(y=1∧x=0∧u0=a∧l0=b)) →
     l0.natAbs*f+(u0-q*l0).natAbs*y≤a.natAbs+2*b.natAbs:=fun x y f hf hp hc=>by
   rcases hc with hc|hc|⟨hc,hx,ha,hb⟩
   · have:=pot l0.natAbs u0.natAbs (u0-q*l0).natAbs q.natAbs x y f 0 (by have:=r3 hc;omega) hf
     omega
   · subst hc
     have:l0.natAbs*f≤l0.natAbs*x:=Nat.mul_le_mul_left _ (by omega)
     omega
   · subst hc;subst hx
     have:=pot l0.natAbs u0.natAbs (u0-q*l0).natAbs q.natAbs 0 1 f (2*(u0-q*l0).natAbs) (by omega) hf
     have hab:u0.natAbs=a.natAbs:=by rw[ha]
     have hbb:l0.natAbs=b.natAbs:=by rw[hb]
     generalize (u0-q*l0).natAbs=R at *
     generalize l0.natAbs*f=Z at *
     omega
 have ph1:0≤u0*l0∨l1.natAbs=0∨(l1.natAbs=1∧u1.natAbs=0∧u0=a∧l0=b):=by
   rcases h.ph with⟨_,_,_,_,e,_⟩|⟨e,_⟩
   · exact .inr (.inl (by rw[e];rfl))
   · exact .inl e
 have ph2:0≤u0*l0∨l2.natAbs=0∨(l2.natAbs=1∧u2.natAbs=0∧u0=a∧l0=b):=by
   rcases h.ph with⟨e1,_,e2,e3,_,e4⟩|⟨e,_⟩
   · exact .inr (.inr ⟨by rw[e4];rfl,by rw[e2];rfl,e1,e3⟩)
   · exact .inl e
 have k1:=key _ _ _ f1 h.p1 ph1
 have k2:=key _ _ _ f2 h.p2 ph2
 have c2:=h.c2
 refine⟨hlo,?_,?_,k1' k1,k1' k2,.inr ⟨r2,hl⟩,h.b3,h.b4,?_,?_,by omega,by omega⟩
 · rw[lin,hup,hlo]
 · rw[Int.gcd_sub_mul_right_right,Int.gcd_comm,h.gcd]
 · exact Nat.le_succ_of_le (z86 (Nat.le_trans (Nat.le_add_right _ _) k1) hL)
 · exact Nat.le_succ_of_le (z86 (Nat.le_trans (Nat.le_add_right _ _) k2) hL)
where k1' {x y:Nat} (h:x≤y):x≤y:=h
theorem BI.fin{a b u0 u1 u2 l1 l2:Int}(h:BI a b u0 u1 u2 0 l1 l2):(u0.natAbs:Int)=Int.gcd a b:=by
 have:=h.gcd
 rw[Int.gcd_zero_right]at this
 rw[this]
end Br

end
section
set_option linter.all false
set_option maxRecDepth 100000
namespace St
abbrev Row:=List Int
def at0(r:Row)(k:Nat):Int:=r.getD k 0
def z00:Row→Nat
 | []=>0
 | x::r=>if x=0 then z00 r+1 else 0
theorem z4O:∀ r:Row,z00 r≤r.length
 | []=>Nat.le_refl _
 | x::r=>by
  unfold z00
  split
  · exact Nat.succ_le_succ (z4O r)
  · exact Nat.zero_le _
theorem z0e:∀(r:Row) (k:Nat),k<z00 r→at0 r k=0
 | [],k,h=>by simp[z00]at h
 | x::r,k,h=>by
  unfold z00 at h
  split at h
  · rename_i hx
    cases k with
    | zero=>simp[at0,hx]
    | succ k=>exact z0e r k (by omega)
  · omega
theorem z3n:∀(r:Row),z00 r<r.length→at0 r (z00 r)≠0
 | [],h=>by simp[z00]at h
 | x::r,h=>by
  unfold z00 at h ⊢
  split at h
  · rename_i hx
    rw[if_pos hx]
    exact z3n r (by simpa using h)
  · rename_i hx
    rw[if_neg hx]
    exact hx
theorem z1f:∀(r:Row) (h:Nat),(∀ k,k<h→at0 r k=0)→at0 r h≠0→z00 r=h
 | [],h,_,q=>by simp[at0]at q
 | x::r,0,_,q=>by
  unfold z00
  rw[if_neg (by simpa[at0]using q)]
 | x::r,h+1,z,q=>by
  have hx:x=0:=by simpa[at0]using z 0 (by omega)
  unfold z00
  rw[if_pos hx,z1f r h (fun k hk=>by simpa[at0]using z (k+1) (by omega)) (by simpa[at0]using q)]
theorem zh5(r:Row)(h:Nat)(z:∀ k,k<h→at0 r k=0)(hl:h≤r.length):h≤z00 r:=by
 apply Nat.le_of_not_lt
 intro hlt
 exact z3n r (by omega) (z _ hlt)
theorem z0O{r:Row}{k:Nat}(h:r.length≤k):at0 r k=0:=by simp[at0,List.getD,List.getElem?_eq_none h]
theorem ext0{a b:Row}(h:a.length=b.length)(q:∀ k,at0 a k=at0 b k):a=b:=by
 apply List.ext_getElem h
 intro i h1 h2
 have:=q i
 simpa[at0,List.getD,List.getElem?_eq_getElem h1,List.getElem?_eq_getElem h2]using this
def sub(a:Row)(q:Int)(b:Row):Row:=List.zipWith (fun x y=>x-q*y) a b
theorem z1D{a b:Row}{q:Int}(h:a.length=b.length):(sub a q b).length=a.length:=by unfold sub;rw[List.length_zipWith];omega
theorem z2s{a b:Row}{q:Int}(h:a.length=b.length)(k:Nat):at0 (sub a q b) k=at0 a k-q*at0 b k:=by
 by_cases hk:k<a.length
 · unfold at0 sub
   simp[List.getD,List.getElem?_zipWith,List.getElem?_eq_getElem hk,List.getElem?_eq_getElem (show k<b.length by omega)]
 · rw[z0O (by rw[z1D h];omega),z0O (by omega),z0O (show b.length≤k by omega)];simp
def lin(x:Int)(a:Row)(y:Int)(b:Row):Row:=List.zipWith (fun p q=>x*p+y*q) a b
theorem z7t{a b:Row}{x y:Int}(h:a.length=b.length):(lin x a y b).length=a.length:=by unfold lin;rw[List.length_zipWith];omega
theorem z7u{a b:Row}{x y:Int}(h:a.length=b.length)(k:Nat):at0 (lin x a y b) k=x*at0 a k+y*at0 b k:=by
 by_cases hk:k<a.length
 · unfold at0 lin
   simp[List.getD,List.getElem?_zipWith,List.getElem?_eq_getElem hk,List.getElem?_eq_getElem (show k<b.length by omega)]
 · rw[z0O (by rw[z7t h];omega),z0O (by omega),z0O (show b.length≤k by omega)];simp
def hd(r:Row):Int:=at0 r (z00 r)
def z0n(left rung:Row):Int:=(at0 left (z00 rung)).fdiv (hd rung)
def z0f:Row→List Row→Row
 | left,[]=>left
 | left,r::rs=>z0f (sub left (z0n left r) r) rs
def z0B:Row→List Row→List Int
 | _,[]=>[]
 | left,r::rs=>z0n left r::z0B (sub left (z0n left r) r) rs
def Asc(n:Nat):Nat→List Row→Prop
 | _,[]=>True
 | f,r::rs=>r.length=n∧f≤z00 r∧z00 r<n∧0<hd r∧Asc n (z00 r+1) rs
theorem Asc.weak{n:Nat}:∀{f g:Nat} {S:List Row},Asc n f S→g≤f→Asc n g S
 | _,_,[],_,_=>trivial
 | _,_,r::rs,⟨h1,h2,h3,h4,h5⟩,h=>⟨h1,Nat.le_trans h h2,h3,h4,h5⟩
theorem Asc.mem{n:Nat}:∀{f:Nat} {S:List Row} {r:Row},Asc n f S→r∈S→r.length=n∧f≤z00 r∧z00 r<n∧0<hd r
 | _,_::_,_,⟨h1,h2,h3,h4,h5⟩,.head _=>⟨h1,h2,h3,h4⟩
 | _,_::_,_,⟨h1,h2,h3,h4,h5⟩,.tail _ q=>by obtain⟨a,b,c,d⟩:=h5.mem q;exact⟨a,by omega,c,d⟩
theorem z3F{n:Nat}:∀{f:Nat} {S:List Row} {left:Row},Asc n f S→left.length=n→(z0f left S).length=n
 | _,[],left,_,h=>h
 | _,r::rs,left,⟨h1,h2,h3,h4,h5⟩,h=>by rw[z0f];exact z3F h5 (by rw[z1D (by omega)];exact h)
theorem z3G{n:Nat}:∀{f:Nat} {S:List Row} {left:Row},Asc n f S→left.length=n→∀ k,k<f→at0 (z0f left S) k=at0 left k
 | _,[],left,_,h,k,_=>rfl
 | f,r::rs,left,⟨h1,h2,h3,h4,h5⟩,h,k,hk=>by
  rw[z0f,z3G h5 (by rw[z1D (by omega)];exact h) k (by omega),z2s (by omega),z0e r k (by omega)]
  simp
theorem z9B(a:Int){b:Int}(h:0<b):0≤a-a.fdiv b*b∧a-a.fdiv b*b<b:=by
 have h1:=Int.fmod_nonneg_of_pos a h
 have h2:=Int.fmod_lt_of_pos a h
 have h3:=Int.mul_fdiv_add_fmod a b
 rw[Int.mul_comm]at h3
 omega
theorem z2j{n:Nat}:∀{f:Nat} {S:List Row} {left:Row},Asc n f S→left.length=n→∀ r∈S,0≤at0 (z0f left S) (z00 r)∧at0 (z0f left S) (z00 r)<hd r
 | f,r::rs,left,⟨h1,h2,h3,h4,h5⟩,h,x,hx=>by
  have hl:(sub left (z0n left r) r).length=n:=by rw[z1D (by omega)];exact h
  rw[z0f]
  cases hx with
  | head =>
   rw[z3G h5 hl _ (Nat.lt_succ_self _),z2s (by omega)]
   exact z9B _ h4
  | tail _ hx=>exact z2j h5 hl x hx
def Lt(m:Nat)(r:Row):Prop:=∀ k,(at0 r k).natAbs<m
theorem Lt.mono{m m':Nat}{r:Row}(h:Lt m r)(q:m≤m'):Lt m' r:=fun k=>Nat.lt_of_lt_of_le (h k) q
theorem z5K(a:Int){b:Int}(h:0<b):(a.fdiv b).natAbs≤a.natAbs:=by
 have h1:=z9B a h
 generalize a.fdiv b=q at *
 rcases Int.lt_trichotomy q 0 with hq|hq|hq
 · have e:(q+1)*b=q*b+b:=by rw[Int.add_mul];omega
   have:(q+1)*b≤(q+1)*1:=Int.mul_le_mul_of_nonpos_left (by omega) (by omega)
   omega
 · subst hq;simp
 · have:q*1≤q*b:=Int.mul_le_mul_of_nonneg_left (by omega) (by omega)
   omega
theorem sub_lt{a b:Row}{q:Int}{s t u:Nat}(hl:a.length=b.length)(ha:Lt s a)(hb:Lt t b)(hq:q.natAbs≤u)(hs:0<s)(ht:0<t):Lt (s+u*t) (sub a q b):=fun k=>by
 rw[z2s hl]
 have h1:=ha k
 have h2:=hb k
 have h3:(q*at0 b k).natAbs≤u*(t-1):=by rw[Int.natAbs_mul];exact Nat.mul_le_mul hq (by omega)
 have h4:u*(t-1)≤u*t:=Nat.mul_le_mul_left _ (by omega)
 omega
theorem ziC{left r:Row}{s t:Nat}(hl:left.length=r.length)(hr:0<hd r)(ha:Lt s left)(hb:Lt t r):Lt (s*(t+1)) (sub left (z0n left r) r):=by
 have hs:0<s:=Nat.lt_of_le_of_lt (Nat.zero_le _) (ha 0)
 have ht:0<t:=Nat.lt_of_le_of_lt (Nat.zero_le _) (hb 0)
 have:=sub_lt (q:=z0n left r) (u:=s) hl ha hb (Nat.le_trans (z5K (at0 left (z00 r)) hr) (Nat.le_of_lt (ha (z00 r)))) hs ht
 rw[Nat.mul_add,Nat.mul_one,Nat.add_comm]
 exact this
end St

end
section
local macro_rules|`(tactic| omega)=>`(tactic| first|lia|omega +splitDisjunctions)
set_option linter.all false
set_option maxRecDepth 100000
namespace St
open Lat
abbrev vec(r:Row):Vec:=fun k=>at0 r k
abbrev vecs(S:List Row):List Vec:=S.map vec
theorem z4a{S:List Row}{r:Row}(h:r∈S):vec r∈vecs S:=List.mem_map.mpr ⟨r,h,rfl⟩
theorem z1L{n:Nat}:∀{f:Nat} {S:List Row} {left:Row},Asc n f S→left.length=n→Span (vecs S) (fun k=>at0 left k-at0 (z0f left S) k)
 | _,[],left,_,h=>fun k=>by show at0 left k-at0 left k=0;omega
 | f,r::rs,left,⟨h1,h2,h3,h4,h5⟩,h=>by
  have hl:(sub left (z0n left r) r).length=n:=by rw[z1D (by omega)];exact h
  have ih:=z1L h5 hl
  refine⟨z0n left r,Span.congr (fun k=>?_) ih⟩
  rw[z0f]
  show at0 (sub left (z0n left r) r) k-at0 (z0f (sub left (z0n left r) r) rs) k=at0 left k-at0 (z0f (sub left (z0n left r) r) rs) k-z0n left r*at0 r k
  rw[z2s (by omega)]
  omega
def mix:List Row→List Int→Vec
 | r::rs,c::cs=>fun k=>c*at0 r k+mix rs cs k
 | _,_=>fun _=>0
theorem z87:∀{S:List Row} {left:Row},(z0B left S).length=S.length
 | [],_=>rfl
 | r::rs,left=>by rw[z0B,List.length_cons,List.length_cons,z87]
theorem Asc.low{n:Nat}:∀{f:Nat} {S:List Row} {v:Vec},Asc n f S→Span (vecs S) v→∀ k,k<f→v k=0
 | _,[],v,_,s,k,_=>s k
 | f,r::S,v,⟨h1,h2,h3,h4,h5⟩,⟨c,s⟩,k,hk=>by
  have e:=Asc.low h5 s k (by omega)
  have e2:at0 r k=0:=z0e r k (by omega)
  have e:v k-c*at0 r k=0:=e
  rw[e2]at e
  simpa using e
theorem Asc.coef{n f:Nat}{r:Row}{v:Vec}{S:List Row}{c:Int}(A:Asc n f (r::S))(s:Span (vecs S) (fun k=>v k-c*at0 r k)):v (z00 r)=c*hd r:=by
 have:v (z00 r)-c*at0 r (z00 r)=0:=A.2.2.2.2.low s _ (Nat.lt_succ_self _)
 unfold hd
 omega
theorem Asc.first{n:Nat}:∀{f:Nat} {S:List Row} {v:Vec} {h:Nat},Asc n f S→Span (vecs S) v→(∀ k,k<h→v k=0)→v h≠0→∃ r∈S,z00 r=h
 | _,[],v,h,_,s,_,q=>absurd (s h) q
 | f,r::S,v,h,A,⟨c,s⟩,z,q=>by
  have e:=A.coef s
  by_cases hc:c=0
  · subst hc
    have s':Span (vecs S) v:=Span.congr (fun k=>by simp) s
    obtain⟨x,hx,e⟩:=A.2.2.2.2.first s' z q
    exact⟨x,List.mem_cons_of_mem _ hx,e⟩
  · have hn:v (z00 r)≠0:=by
      rw[e]
      intro z
      rcases Int.mul_eq_zero.mp z with z|z
      · exact hc z
      · have:=A.2.2.2.1;omega
    have h1:¬z00 r<h:=fun z'=>hn (z _ z')
    by_cases h2:h<z00 r
    · exfalso
      have e2:v h-c*at0 r h=0:=A.2.2.2.2.low s h (by omega)
      rw[z0e r h h2]at e2
      exact q (by simpa using e2)
    · exact⟨r,List.mem_cons_self,by omega⟩
def even:List Row→List Row
 | []=>[]
 | r::rs=>z0f r (even rs)::even rs
theorem z2F{n:Nat}:∀{f:Nat} {S:List Row},Asc n f S→Asc n f (even S)∧(even S).map z00=S.map z00∧(even S).map hd=S.map hd
 | _,[],_=>⟨trivial,rfl,rfl⟩
 | f,r::rs,⟨h1,h2,h3,h4,h5⟩=>by
  obtain⟨i1,i2,i3⟩:=z2F h5
  have low:=z3G i1 h1
  have e1:at0 (z0f r (even rs)) (z00 r)=hd r:=low _ (Nat.lt_succ_self _)
  have e2:z00 (z0f r (even rs))=z00 r:=z1f _ _ (fun k hk=>by rw[low k (by omega)];exact z0e r k hk) (by rw[e1];omega)
  have e3:hd (z0f r (even rs))=hd r:=by unfold hd;rw[e2];exact e1
  refine⟨⟨z3F i1 h1,by rw[e2];exact h2,by rw[e2];exact h3,by rw[e3];exact h4,by rw[e2];exact i1⟩,?_,?_⟩
  · rw[even,List.map_cons,List.map_cons,e2,i2]
  · rw[even,List.map_cons,List.map_cons,e3,i3]
def z0v(S:List Row):List (Nat×Vec):=S.map fun r=>(z00 r,vec r)
theorem z9C{n:Nat}:∀{f:Nat} {S:List Row},Asc n f S→Form f (z0v (even S))
 | _,[],_=>trivial
 | f,r::rs,A=>by
  obtain⟨j1,_,_⟩:=z2F A
  obtain⟨h1,h2,h3,h4,h5⟩:=A
  obtain⟨i1,i2,i3⟩:=z2F h5
  obtain⟨k1,k2,k3,k4,k5⟩:=j1
  have low:=z3G i1 h1
  have e1:at0 (z0f r (even rs)) (z00 r)=hd r:=low _ (Nat.lt_succ_self _)
  have e2:z00 (z0f r (even rs))=z00 r:=z1f _ _ (fun k hk=>by rw[low k (by omega)];exact z0e r k hk) (by rw[e1];omega)
  refine⟨k2,fun k hk=>z0e _ k hk,k4,fun p hp=>?_,by rw[e2];exact z9C h5⟩
  obtain⟨x,hx,rfl⟩:=List.mem_map.mp hp
  exact z2j i1 h1 x hx
theorem z9D{n:Nat}:∀{f:Nat} {S:List Row},Asc n f S→SameSpan (vecs (even S)) (vecs S)
 | _,[],_=>SameSpan.refl
 | f,r::rs,A=>by
  obtain⟨h1,h2,h3,h4,h5⟩:=A
  obtain⟨i1,i2,i3⟩:=z2F h5
  have ih:=z9D h5
  have sp:=z1L i1 h1
  constructor
  · intro v hv
    obtain⟨x,hx,rfl⟩:=List.mem_map.mp hv
    rcases List.mem_cons.mp hx with rfl|hx
    · refine⟨1,Span.congr (fun k=>?_) ((ih.iff.mp sp).neg)⟩
      show -(at0 r k-at0 (z0f r (even rs)) k)=at0 (z0f r (even rs)) k-1*at0 r k
      omega
    · exact(ih.1 _ (z4a hx)).cons
  · intro v hv
    obtain⟨x,hx,rfl⟩:=List.mem_map.mp hv
    rcases List.mem_cons.mp hx with rfl|hx
    · refine⟨1,Span.congr (fun k=>?_) sp⟩
      show at0 x k-at0 (z0f x (even rs)) k=at0 x k-1*at0 (z0f x (even rs)) k
      omega
    · exact(ih.2 _ (z4a hx)).cons
end St

end
section
local macro_rules|`(tactic| omega)=>`(tactic| first|lia|omega +splitDisjunctions)
set_option linter.all false
set_option maxRecDepth 100000
namespace St
open Lat
theorem Asc.iff{n:Nat}:∀{f:Nat} {S:List Row},Asc n f S↔(∀ r∈S,r.length=n∧f≤z00 r∧z00 r<n∧0<hd r)∧(S.map z00).Pairwise (·<·)
 | f,[]=>by simp[Asc]
 | f,r::rs=>by
  constructor
  · intro A
    refine⟨fun x hx=>A.mem hx,?_⟩
    rw[List.map_cons,List.pairwise_cons]
    refine⟨fun h hh=>?_,(Asc.iff.mp A.2.2.2.2).2⟩
    obtain⟨x,hx,rfl⟩:=List.mem_map.mp hh
    exact(A.2.2.2.2.mem hx).2.1
  · rintro⟨h1,h2⟩
    rw[List.map_cons,List.pairwise_cons]at h2
    have q:=h1 r List.mem_cons_self
    refine⟨q.1,q.2.1,q.2.2.1,q.2.2.2,Asc.iff.mpr ⟨fun x hx=>?_,h2.2⟩⟩
    have q2:=h1 x (List.mem_cons_of_mem _ hx)
    exact⟨q2.1,h2.1 _ (List.mem_map.mpr ⟨x,hx,rfl⟩),q2.2.2.1,q2.2.2.2⟩
theorem zbI{a b:Row}(h:a.length=b.length):sub a 0 b=a:=ext0 (z1D h) fun k=>by rw[z2s h];simp
theorem z6X{n:Nat}{t:Nat}:∀{S:List Row} {left:Row},(∀ r∈S,r.length=n)→left.length=n→(∀ k,k<t→at0 left k=0)→(∀ k,k<t→at0 (z0f left S) k=0)∧(z0f left S).length=n
 | [],left,_,hl,z=>⟨z,hl⟩
 | r::rs,left,hw,hl,z=>by
  have h1:=hw r List.mem_cons_self
  rw[z0f]
  refine z6X (fun x hx=>hw x (List.mem_cons_of_mem _ hx)) (by rw[z1D (by omega)];exact hl) fun k hk=>?_
  rw[z2s (by omega),z k hk]
  by_cases hh:z00 r<t
  · have:z0n left r=0:=by unfold z0n;rw[z _ hh];simp
    rw[this];simp
  · rw[z0e r k (by omega)];simp
def LowB(m:Nat):Row→List Row→Prop
 | _,[]=>True
 | left,r::rs=>(z0n left r=0∨((z0n left r).natAbs<2 ^ m∧Lt (2 ^ m) r))∧LowB m (sub left (z0n left r) r) rs
theorem z1M{n t s e m:Nat}:∀{S:List Row} {left:Row},(∀ r∈S,r.length=n∧0<hd r)→left.length=n→(∀ k,k<t→at0 left k=0)→(∀ r∈S,t≤z00 r→Lt (2 ^ e) r)→Lt (2 ^ s) left→s+S.length*(e+1)≤m→e≤m →
  Lt (2 ^ (s+S.length*(e+1))) (z0f left S)∧LowB m left S
 | [],left,_,hl,z,_,hs,_,_=>⟨by simpa[z0f]using hs,trivial⟩
 | r::rs,left,hw,hl,z,hb,hs,hm,hem=>by
  have h1:=hw r List.mem_cons_self
  have lenE:(r::rs).length*(e+1)=rs.length*(e+1)+(e+1):=by rw[List.length_cons,Nat.succ_mul]
  have e2:∀ q,(sub left q r).length=n:=fun q=>by rw[z1D (by omega)];exact hl
  by_cases hh:z00 r<t
  · have o:z0n left r=0:=by unfold z0n;rw[z _ hh];simp
    have es:sub left (z0n left r) r=left:=by rw[o];exact zbI (by omega)
    obtain⟨i1,i2⟩:=z1M (t:=t) (s:=s) (e:=e) (m:=m) (S:=rs) (left:=left) (fun x hx=>hw x (List.mem_cons_of_mem _ hx)) hl z (fun x hx=>hb x (List.mem_cons_of_mem _ hx)) hs (by omega) hem
    rw[z0f,LowB,es]
    exact⟨i1.mono (Nat.pow_le_pow_right (by decide) (by omega)),.inl o,i2⟩
  · have hr:Lt (2 ^ e) r:=hb r List.mem_cons_self (by omega)
    have st:=ziC (s:=2 ^ s) (t:=2 ^ e) (by omega) h1.2 hs hr
    have st':Lt (2 ^ (s+(e+1))) (sub left (z0n left r) r):=by
     refine st.mono ?_
     rw[Nat.pow_add]
     refine Nat.mul_le_mul_left _ ?_
     have:0<2 ^ e:=Nat.two_pow_pos e
     rw[Nat.pow_succ];omega
    obtain⟨i1,i2⟩:=z1M (t:=t) (s:=s+(e+1)) (e:=e) (m:=m) (S:=rs) (left:=sub left (z0n left r) r) (fun x hx=>hw x (List.mem_cons_of_mem _ hx)) (e2 _)
     (fun k hk=>by rw[z2s (by omega),z k hk,z0e r k (by omega)];simp) (fun x hx=>hb x (List.mem_cons_of_mem _ hx)) st' (by omega) hem
    rw[z0f,LowB]
    refine⟨i1.mono (Nat.pow_le_pow_right (by decide) (by omega)),.inr ⟨?_,hr.mono (Nat.pow_le_pow_right (by decide) hem)⟩,i2⟩
    refine Nat.lt_of_le_of_lt (z5K (at0 left (z00 r)) h1.2) (Nat.lt_of_lt_of_le (hs _) (Nat.pow_le_pow_right (by decide) (by omega)))
def z0C(r left:Row)(x y:Int):Row:=lin x r y left
def z14(r left:Row)(g:Int):Row:=lin ((at0 r (z00 r)).fdiv g) left (-((at0 left (z00 r)).fdiv g)) r
structure Wi(n e eh m0 kk:Nat)(S0:List Row)(v:Row)(S:List Row)(left:Row):Prop where
 asc:Asc n 0 S
 len:left.length=n
 heads:S.map z00=S0.map z00
 span:SameSpan (vecs (left::S)) (vecs (v::S0))
 low:∀ r∈S,0≤at0 left (z00 r)∧at0 left (z00 r)<hd r
 right:∀ r∈S,z00 left≤z00 r→Lt (2 ^ e) r
 hds:∀ r∈S,hd r<2 ^ eh
 size:Lt (2 ^ (m0+z00 left*kk)) left
 all:∀ r∈S,Lt (2 ^ (e+3+(m0+z00 left*kk))) r
theorem ziD{a b:Row}{x y:Int}{p q s:Nat}(h:a.length=b.length)(hx:x.natAbs<2 ^ p)(hy:y.natAbs<2 ^ p)(ha:Lt (2 ^ q) a)(hb:Lt (2 ^ q) b)(hs:p+q+1≤s):Lt (2 ^ s) (lin x a y b):=fun k=>by
 rw[z7u h]
 have h1:(x*at0 a k).natAbs<2 ^ (p+q):=by
  rw[Int.natAbs_mul,Nat.pow_add]
  exact Nat.mul_lt_mul'' hx (ha k)
 have h2:(y*at0 b k).natAbs<2 ^ (p+q):=by
  rw[Int.natAbs_mul,Nat.pow_add]
  exact Nat.mul_lt_mul'' hy (hb k)
 have h3:2 ^ (p+q+1)≤2 ^ s:=Nat.pow_le_pow_right (by decide) hs
 rw[Nat.pow_succ]at h3
 omega +splitDisjunctions
theorem z0d{S:List Row}{r:Row}(h:r∈S):Span (vecs S) (fun k=>at0 r k):=Span.mem (z4a h)
theorem z5L{T:List Vec}{u v:Vec}(x y:Int)(hu:Span T u)(hv:Span T v):Span T (fun k=>x*u k+y*v k):=(hu.smul x).add (hv.smul y)
theorem z3H{A B:List Row}(h1:∀ r∈A,Span (vecs B) (fun k=>at0 r k))(h2:∀ r∈B,Span (vecs A) (fun k=>at0 r k)):SameSpan (vecs A) (vecs B):=by
 constructor
 · intro v hv
   obtain⟨r,hr,rfl⟩:=List.mem_map.mp hv
   exact h1 r hr
 · intro v hv
   obtain⟨r,hr,rfl⟩:=List.mem_map.mp hv
   exact h2 r hr
theorem Wi.step{n e eh m0 kk:Nat}{S0:List Row}{v:Row}{S1 S2:List Row}{r left:Row}{g x y:Int}(I:Wi n e eh m0 kk S0 v (S1++r::S2) left)(hh:z00 r=z00 left)(hn:z00 left<n)
   (hg:0<g) (ga:g∣hd r) (gb:g∣at0 left (z00 r)) (hxy:hd r*x+at0 left (z00 r)*y=g) (hx:x.natAbs<2 ^ (e+2)) (hy:y.natAbs<2 ^ (e+2)) (he:e≤m0)
   (hk:2*e+3+(S1.length+S2.length+1)*(e+1)≤kk) :
   Wi n e eh m0 kk S0 v (S1++z0C r left x y::S2) (z0f (z14 r left g) (S1++z0C r left x y::S2))∧z00 left<z00 (z0f (z14 r left g) (S1++z0C r left x y::S2)) ∧
     LowB (m0+n*kk) (z14 r left g) (S1++z0C r left x y::S2)∧(∀ q∈S1++z0C r left x y::S2,hd q<2 ^ eh):=by
 have hrm:r∈S1++r::S2:=List.mem_append.mpr (.inr List.mem_cons_self)
 have q:=I.asc.mem hrm
 have hl:r.length=left.length:=by rw[q.1,I.len]
 have hlow:=I.low r hrm
 have hu:∀ k,at0 (z0C r left x y) k=x*at0 r k+y*at0 left k:=fun k=>z7u hl k
 have hlo:∀ k,at0 (z14 r left g) k=((at0 r (z00 r)).fdiv g)*at0 left k+(-((at0 left (z00 r)).fdiv g))*at0 r k:=fun k=>z7u hl.symm k
 have lu:(z0C r left x y).length=n:=by unfold z0C;rw[z7t hl];exact q.1
 have llo:(z14 r left g).length=n:=by unfold z14;rw[z7t hl.symm];exact I.len
 obtain⟨a',ea⟩:=ga
 obtain⟨b',eb⟩:=gb
 have da:(hd r).fdiv g=a':=by rw[ea];exact Int.mul_fdiv_cancel_left _ (by omega)
 have db:(at0 left (z00 r)).fdiv g=b':=by rw[eb];exact Int.mul_fdiv_cancel_left _ (by omega)
 have hlo:∀ k,at0 (z14 r left g) k=a'*at0 left k+(-b')*at0 r k:=fun k=>by
   have:=hlo k
   rw[db,show at0 r (z00 r)=hd r from rfl,da]at this
   exact this
 have det:a'*x+b'*y=1:=by
   have:g*(a'*x+b'*y)=g*1:=by rw[Int.mul_add,←Int.mul_assoc,←Int.mul_assoc,←ea,←eb];omega
   exact Int.eq_of_mul_eq_mul_left (by omega) this
 have zb:∀ k,k<z00 left→at0 r k=0∧at0 left k=0:=fun k hk=>⟨z0e r k (by omega),z0e left k hk⟩
 have us:at0 (z0C r left x y) (z00 r)=g:=by rw[hu,←hxy];show x*hd r+y*_=_;rw[Int.mul_comm x,Int.mul_comm y]
 have uh:z00 (z0C r left x y)=z00 r:=z1f _ _ (fun k hk=>by rw[hu,(zb k (by omega)).1,(zb k (by omega)).2];simp) (by rw[us];omega)
 have uhd:hd (z0C r left x y)=g:=by unfold hd;rw[uh];exact us
 have gle:g≤hd r:=Int.le_of_dvd q.2.2.2 ⟨a',ea⟩
 have lz:∀ k,k<z00 left+1→at0 (z14 r left g) k=0:=fun k hk=>by
   rw[hlo]
   by_cases h:k<z00 left
   · rw[(zb k h).1,(zb k h).2];simp
   · have:k=z00 r:=by omega
     subst this
     rw[eb,show at0 r (z00 r)=hd r from rfl,ea,Int.mul_left_comm a' g b',Int.neg_mul,Int.mul_left_comm b' g a',Int.mul_comm a' b']
     omega
 have asc':Asc n 0 (S1++z0C r left x y::S2):=by
   have A:=Asc.iff.mp I.asc
   refine Asc.iff.mpr ⟨fun z hz=>?_,?_⟩
   · rcases List.mem_append.mp hz with h|h
     · exact A.1 z (List.mem_append.mpr (.inl h))
     · rcases List.mem_cons.mp h with rfl|h
       · exact⟨lu,Nat.zero_le _,by rw[uh];exact q.2.2.1,by rw[uhd];exact hg⟩
       · exact A.1 z (List.mem_append.mpr (.inr (List.mem_cons_of_mem _ h)))
   · have e1:(S1++z0C r left x y::S2).map z00=(S1++r::S2).map z00:=by simp[uh]
     rw[e1];exact A.2
 have hw':∀ z∈S1++z0C r left x y::S2,z.length=n:=fun z hz=>(asc'.mem hz).1
 obtain⟨nz,nl⟩:=z6X (t:=z00 left+1) hw' llo lz
 have hhead:z00 left+1≤z00 (z0f (z14 r left g) (S1++z0C r left x y::S2)):=zh5 _ _ nz (by rw[nl];omega)
 have mm:∀ z∈S1++z0C r left x y::S2,z=z0C r left x y∨z∈S1++r::S2:=fun z hz=>by
   rcases List.mem_append.mp hz with h|h
   · exact .inr (List.mem_append.mpr (.inl h))
   · rcases List.mem_cons.mp h with rfl|h
     · exact .inl rfl
     · exact .inr (List.mem_append.mpr (.inr (List.mem_cons_of_mem _ h)))
 have right':∀ z∈S1++z0C r left x y::S2,z00 left+1≤z00 z→Lt (2 ^ e) z:=fun z hz hk=>by
   rcases mm z hz with rfl|h
   · rw[uh]at hk;omega
   · exact I.right z h (by omega)
 have rlt:Lt (2 ^ e) r:=I.right r hrm (by omega)
 have hds':∀ z∈S1++z0C r left x y::S2,hd z<2 ^ eh:=fun z hz=>by
   rcases mm z hz with rfl|h
   · rw[uhd];have:=I.hds r hrm;omega
   · exact I.hds z h
 have aS:(a').natAbs<2 ^ e:=by
   have h1:(hd r).natAbs<2 ^ e:=rlt (z00 r)
   rw[ea,Int.natAbs_mul]at h1
   have:1*a'.natAbs≤g.natAbs*a'.natAbs:=Nat.mul_le_mul_right _ (by omega)
   omega
 have bS:(-b').natAbs<2 ^ e:=by
   have h1:(hd r).natAbs<2 ^ e:=rlt (z00 r)
   have h2:(at0 left (z00 r)).natAbs<2 ^ e:=by omega
   rw[eb,Int.natAbs_mul]at h2
   have:1*b'.natAbs≤g.natAbs*b'.natAbs:=Nat.mul_le_mul_right _ (by omega)
   omega
 have m1:e≤m0+z00 left*kk:=by omega
 have sl:Lt (2 ^ (e+(m0+z00 left*kk)+1)) (z14 r left g):=by
   unfold z14
   rw[show at0 r (z00 r)=hd r from rfl,da,db]
   exact ziD hl.symm aS bS I.size (rlt.mono (Nat.pow_le_pow_right (by decide) m1)) (Nat.le_refl _)
 have hk1:(z00 left+1)*kk=z00 left*kk+kk:=by rw[Nat.succ_mul]
 have hkn:(z00 left+1)*kk≤n*kk:=Nat.mul_le_mul_right _ (by omega)
 have hkh:(z00 left+1)*kk≤z00 (z0f (z14 r left g) (S1++z0C r left x y::S2))*kk:=Nat.mul_le_mul_right _ hhead
 have lenS:(S1++z0C r left x y::S2).length=S1.length+S2.length+1:=by simp;omega
 obtain⟨z1,z2⟩:=z1M (n:=n) (t:=z00 left+1) (s:=e+(m0+z00 left*kk)+1) (e:=e) (m:=m0+n*kk) (S:=S1++z0C r left x y::S2) (left:=z14 r left g)
   (fun z hz=>⟨hw' z hz,(asc'.mem hz).2.2.2⟩) llo lz right' sl (by rw[lenS];omega) (by omega)
 have low':=z2j asc' llo
 refine⟨⟨asc',nl,?_,?_,low',fun z hz hk=>right' z hz (by omega),hds',z1.mono (Nat.pow_le_pow_right (by decide) (by rw[lenS];omega)),fun z hz=>?_⟩,hhead,z2,hds'⟩
 · rw[←I.heads];simp[uh]
 · refine SameSpan.trans (z3H (B:=left::(S1++r::S2)) ?_ ?_) I.span
   ·
     have oldr:Span (vecs (left::(S1++r::S2))) (fun k=>at0 r k):=z0d (List.mem_cons_of_mem _ hrm)
     have oldl:Span (vecs (left::(S1++r::S2))) (fun k=>at0 left k):=z0d List.mem_cons_self
     have nu:Span (vecs (left::(S1++r::S2))) (fun k=>at0 (z0C r left x y) k):=Span.congr (fun k=>(hu k).symm) (z5L x y oldr oldl)
     have nlo:Span (vecs (left::(S1++r::S2))) (fun k=>at0 (z14 r left g) k):=Span.congr (fun k=>(hlo k).symm) (z5L a' (-b') oldl oldr)
     have all:∀ z∈S1++z0C r left x y::S2,Span (vecs (left::(S1++r::S2))) (fun k=>at0 z k):=fun z hz=>by
       rcases mm z hz with rfl|h
       · exact nu
       · exact z0d (List.mem_cons_of_mem _ h)
     intro z hz
     rcases List.mem_cons.mp hz with rfl|hz
     · have d:=z1L asc' llo
       have d':Span (vecs (left::(S1++r::S2))) (fun k=>at0 (z14 r left g) k-at0 (z0f (z14 r left g) (S1++z0C r left x y::S2)) k) :=
         d.trans fun w hw=>by obtain⟨z,hz,rfl⟩:=List.mem_map.mp hw;exact all z hz
       exact Span.congr (fun k=>by omega) (nlo.sub d')
     · exact all z hz
   · have um:z0C r left x y∈S1++z0C r left x y::S2:=List.mem_append.mpr (.inr List.mem_cons_self)
     have nu:Span (vecs (z0f (z14 r left g) (S1++z0C r left x y::S2)::(S1++z0C r left x y::S2))) (fun k=>at0 (z0C r left x y) k):=z0d (List.mem_cons_of_mem _ um)
     have nlo:Span (vecs (z0f (z14 r left g) (S1++z0C r left x y::S2)::(S1++z0C r left x y::S2))) (fun k=>at0 (z14 r left g) k):=by
       have d:=z1L asc' llo
       have t:Span (vecs (z0f (z14 r left g) (S1++z0C r left x y::S2)::(S1++z0C r left x y::S2))) (fun k=>at0 (z0f (z14 r left g) (S1++z0C r left x y::S2)) k):=z0d List.mem_cons_self
       exact Span.congr (fun k=>by omega) (t.add d.cons)
     have nr:∀ k,at0 r k=a'*at0 (z0C r left x y) k+(-y)*at0 (z14 r left g) k:=fun k=>by
       rw[hu,hlo]
       have:at0 r k=(a'*x+b'*y)*at0 r k:=by rw[det];omega
       rw[this]
       grind
     have nle:∀ k,at0 left k=b'*at0 (z0C r left x y) k+x*at0 (z14 r left g) k:=fun k=>by
       rw[hu,hlo]
       have:at0 left k=(a'*x+b'*y)*at0 left k:=by rw[det];omega
       rw[this]
       grind
     intro z hz
     rcases List.mem_cons.mp hz with rfl|hz
     · exact Span.congr (fun k=>(nle k).symm) (z5L _ _ nu nlo)
     · rcases List.mem_append.mp hz with h|h
       · exact z0d (List.mem_cons_of_mem _ (List.mem_append.mpr (.inl h)))
       · rcases List.mem_cons.mp h with rfl|h
         · exact Span.congr (fun k=>(nr k).symm) (z5L _ _ nu nlo)
         · exact z0d (List.mem_cons_of_mem _ (List.mem_append.mpr (.inr (List.mem_cons_of_mem _ h))))
 · rcases mm z hz with rfl|h
   · exact ziD (q:=m0+z00 left*kk) hl hx hy (rlt.mono (Nat.pow_le_pow_right (by decide) m1)) I.size (by omega)
   · exact(I.all z h).mono (Nat.pow_le_pow_right (by decide) (by omega))
end St

end
section
set_option linter.all false
set_option maxRecDepth 100000
namespace St
open Lat
def Ind(R:List Row):Prop:=∀ cs:List Int,cs.length=R.length→(∀ k,mix R cs k=0)→∀ c∈cs,c=0
theorem z5M{T:List Vec}:∀{R:List Row} {cs:List Int},(∀ r∈R,Span T (fun k=>at0 r k))→Span T (mix R cs)
 | [],cs,_=>by unfold mix;exact Span.zero
 | r::R,[],_=>by unfold mix;exact Span.zero
 | r::R,c::cs,h=>by
  unfold mix
  exact((h r List.mem_cons_self).smul c).add (z5M fun x hx=>h x (List.mem_cons_of_mem _ hx))
def dif(a b:List Int):List Int:=List.zipWith (fun x y=>x-y) a b
theorem zgb{a b:List Int}(h:a.length=b.length):(dif a b).length=a.length:=by unfold dif;rw[List.length_zipWith];omega
theorem zgc:∀{R:List Row} {a b:List Int},a.length=b.length→∀ k,mix R (dif a b) k=mix R a k-mix R b k
 | [],a,b,h,k=>by simp[mix]
 | r::R,[],[],h,k=>by simp[mix,dif]
 | r::R,x::a,y::b,h,k=>by
  have ih:=zgc (R:=R) (a:=a) (b:=b) (by simpa using h) k
  show(x-y)*at0 r k+mix R (dif a b) k=(x*at0 r k+mix R a k)-(y*at0 r k+mix R b k)
  rw[ih,Int.sub_mul];omega
theorem zbJ:∀{a b:List Int},a.length=b.length→(∀ c∈dif a b,c=0)→a=b
 | [],[],_,_=>rfl
 | x::a,y::b,h,z=>by
  have h1:x-y=0:=z _ (List.mem_cons_self)
  rw[zbJ (a:=a) (b:=b) (by simpa using h) fun c hc=>z c (List.mem_cons_of_mem _ hc),show x=y by omega]
theorem z9E{N:Nat}:∀{a b:List Int},(∀ c∈a,0≤c∧c≤N)→(∀ c∈b,0≤c∧c≤N)→∀ c∈dif a b,c.natAbs≤N
 | [],_,_,_,c,hc=>by simp[dif]at hc
 | x::a,[],_,_,c,hc=>by simp[dif]at hc
 | x::a,y::b,ha,hb,c,hc=>by
  have hc:c∈(x-y)::dif a b:=hc
  rcases List.mem_cons.mp hc with rfl|hc
  · have:=ha x List.mem_cons_self
    have:=hb y List.mem_cons_self
    omega
  · exact z9E (fun c h=>ha c (List.mem_cons_of_mem _ h)) (fun c h=>hb c (List.mem_cons_of_mem _ h)) c hc
theorem zaG{N B:Nat}:∀{R:List Row} {cs:List Int},(∀ r∈R,Lt B r)→(∀ c∈cs,c.natAbs≤N)→∀ k,(mix R cs k).natAbs≤R.length*(N*B)
 | [],cs,_,_,k=>by simp[mix]
 | r::R,[],_,_,k=>by simp[mix]
 | r::R,c::cs,hr,hc,k=>by
  have ih:=zaG (R:=R) (cs:=cs) (fun x hx=>hr x (List.mem_cons_of_mem _ hx)) (fun x hx=>hc x (List.mem_cons_of_mem _ hx)) k
  show(c*at0 r k+mix R cs k).natAbs≤_
  have h1:(c*at0 r k).natAbs≤N*B:=by
   rw[Int.natAbs_mul];exact Nat.mul_le_mul (hc c List.mem_cons_self) (Nat.le_of_lt (hr r List.mem_cons_self k))
  rw[List.length_cons,Nat.succ_mul]
  omega
theorem z6l{N:Nat}:∀{r:Nat} {t:List Int},z1a (List.replicate r (N+1)) t↔t.length=r∧∀ c∈t,0≤c∧c≤N
 | 0,[]=>by simp[z1a]
 | 0,x::t=>by simp[z1a]
 | r+1,[]=>by simp[z1a,List.replicate]
 | r+1,x::t=>by
  rw[List.replicate_succ,z1a,z6l,List.length_cons]
  constructor
  · rintro⟨h1,h2,h3,h4⟩
    refine⟨by omega,fun c hc=>?_⟩
    rcases List.mem_cons.mp hc with rfl|hc
    · omega
    · exact h4 c hc
  · rintro⟨h1,h2⟩
    have:=h2 x List.mem_cons_self
    exact⟨by omega,by omega,by omega,fun c hc=>h2 c (List.mem_cons_of_mem _ hc)⟩
theorem z88(N:Nat):∀ r,prod (List.replicate r N)=N ^ r
 | 0=>rfl
 | r+1=>by rw[List.replicate_succ,prod,z88,Nat.pow_succ,Nat.mul_comm]
theorem siegel{R:List Row}{B:Nat}(hR:Ind R)(hb:∀ r∈R,Lt B r)(hp:0<B)(hs:List Nat)(hl:hs.length+1=R.length):
   ∃ cs:List Int,cs.length=R.length∧(∀ h∈hs,mix R cs h=0)∧(∃ k,mix R cs k≠0)∧∀ k,(mix R cs k).natAbs≤(2*R.length*B) ^ R.length:=by
 let r:=R.length
 let N:=(2*R.length*B) ^ hs.length
 let W:=R.length*(N*B)
 let f:List Int→List Int:=fun cs=>hs.map fun h=>mix R cs h+(W:Int)
 have main:∃ a b:List Int,z1a (List.replicate r (N+1)) a∧z1a (List.replicate r (N+1)) b∧f a=f b∧a≠b:=by
   apply Classical.byContradiction
   intro no
   have inj:∀ s t,z1a (List.replicate r (N+1)) s→z1a (List.replicate r (N+1)) t→f s=f t→s=t:=fun s t h1 h2 h3=>Classical.byContradiction fun hne=>no ⟨s,t,h1,h2,h3,hne⟩
   have h1:=zaF (ns:=List.replicate r (N+1)) (ms:=List.replicate hs.length (2*W+1)) f inj fun s hsr=>by
    rw[z6l]at hsr ⊢
    refine⟨by simp[f],fun c hc=>?_⟩
    obtain⟨h,_,rfl⟩:=List.mem_map.mp hc
    have:=zaG (N:=N) hb (cs:=s) (fun c hc=>by have:=hsr.2 c hc;omega) h
    have:(mix R s h).natAbs≤W:=this
    omega
   rw[z88,z88]at h1
   have hr1:1≤R.length:=by omega
   have h2:2*W+1≤(2*R.length*B)*(N+1):=by
    have e:(2*R.length*B)*(N+1)=2*W+2*R.length*B:=by
     show _=2*(R.length*(N*B))+_
     rw[Nat.mul_add,Nat.mul_one]
     congr 1
     rw[Nat.mul_comm N B,Nat.mul_assoc,Nat.mul_assoc]
    have:1≤2*R.length*B:=Nat.mul_pos (by omega) hp
    omega
   have h3:(2*W+1) ^ hs.length≤((2*R.length*B)*(N+1)) ^ hs.length:=Nat.pow_le_pow_left h2 _
   rw[Nat.mul_pow]at h3
   have h4:(N+1) ^ r=(N+1)*(N+1) ^ hs.length:=by rw[show r=hs.length+1 from hl.symm,Nat.pow_succ,Nat.mul_comm]
   rw[h4]at h1
   have h5:(N+1)*(N+1) ^ hs.length≤N*(N+1) ^ hs.length:=Nat.le_trans h1 h3
   have h6:0<(N+1) ^ hs.length:=Nat.pow_pos (by omega)
   rw[Nat.succ_mul]at h5
   omega
 obtain⟨a,b,ha,hb',hf,hne⟩:=main
 rw[z6l]at ha hb'
 have hab:a.length=b.length:=by rw[ha.1,hb'.1]
 refine⟨dif a b,by rw[zgb hab];exact ha.1,fun h hh=>?_,?_,fun k=>?_⟩
 · rw[zgc hab]
   have:mix R a h+(W:Int)=mix R b h+(W:Int):=List.map_inj_left.mp hf h hh
   omega
 · apply Classical.byContradiction
   intro no
   have z:∀ k,mix R (dif a b) k=0:=fun k=>Classical.byContradiction fun h=>no ⟨k,h⟩
   exact hne (zbJ hab (hR (dif a b) (by rw[zgb hab];exact ha.1) z))
 · have:=zaG (N:=N) hb (cs:=dif a b) (z9E ha.2 hb'.2) k
   refine Nat.le_trans this ?_
   rw[←hl,Nat.pow_succ,hl,Nat.mul_comm]
   show(N*B)*R.length≤N*(2*R.length*B)
   rw[Nat.mul_assoc,Nat.mul_comm B]
   refine Nat.mul_le_mul_left _ ?_
   rw[Nat.mul_assoc];omega
theorem zbK(v:Vec):∀ m,v m≠0→∃ h,(∀ k,k<h→v k=0)∧v h≠0:=by
 intro m
 induction m using Nat.strongRecOn with
 | _ m ih =>
  intro hm
  by_cases q:∃ k,k<m∧v k≠0
  · obtain⟨k,h1,h2⟩:=q
    exact ih k h1 h2
  · exact⟨m,fun k hk=>Classical.byContradiction fun h=>q ⟨k,hk,h⟩,hm⟩
theorem zbL{E:Nat}:∀{T:List Row} {n f Q:Nat} {u:Vec},Asc n f T→Form f (z0v T)→(∀ r∈T,Lt E r)→Span (vecs T) u→(∀ r∈T,(u (z00 r)).natAbs≤Q*(hd r).natAbs)→∀ k,(u k).natAbs≤Q*((2 ^ T.length-1)*E)
 | [],n,f,Q,u,_,_,_,s,_,k=>by rw[s k];simp
 | r::T,n,f,Q,u,A,F,hE,⟨c,s⟩,hu,k=>by
  have hp:=A.2.2.2.1
  have ec:=A.coef s
  have hc:c.natAbs≤Q:=by
   have:=hu r List.mem_cons_self
   rw[ec,Int.natAbs_mul]at this
   exact Nat.le_of_mul_le_mul_right this (by omega)
  have ih:=zbL (T:=T) (Q:=2*Q) A.2.2.2.2 F.2.2.2.2 (fun x hx=>hE x (List.mem_cons_of_mem _ hx)) s (fun x hx=>by
   have h1:=hu x (List.mem_cons_of_mem _ hx)
   have h2:=F.2.2.2.1 (z00 x,vec x) (List.mem_map.mpr ⟨x,hx,rfl⟩)
   have h2:0≤at0 r (z00 x)∧at0 r (z00 x)<hd x:=h2
   show(u (z00 x)-c*at0 r (z00 x)).natAbs≤_
   have h3:(c*at0 r (z00 x)).natAbs≤Q*(hd x).natAbs:=by rw[Int.natAbs_mul];exact Nat.mul_le_mul hc (by omega)
   rw[Nat.mul_assoc]
   omega) k
  have ih:(u k-c*at0 r k).natAbs≤2*Q*((2 ^ T.length-1)*E):=ih
  have h4:(c*at0 r k).natAbs≤Q*E:=by rw[Int.natAbs_mul];exact Nat.mul_le_mul hc (Nat.le_of_lt (hE r List.mem_cons_self k))
  have h5:Q*((2 ^ (r::T).length-1)*E)=2*Q*((2 ^ T.length-1)*E)+Q*E:=by
   have p:0<2 ^ T.length:=Nat.two_pow_pos _
   rw[List.length_cons,Nat.pow_succ,show 2 ^ T.length*2-1=2*(2 ^ T.length-1)+1 by omega,Nat.add_mul,Nat.one_mul,Nat.mul_add,Nat.mul_assoc 2,Nat.mul_left_comm Q 2,Nat.mul_assoc 2]
  omega
theorem ziE{W E n f:Nat}{r:Row}{T:List Row}{w:Vec}(A:Asc n f (r::T))(F:Form f (z0v (r::T)))(hE:∀ x∈T,Lt E x)(s:Span (vecs (r::T)) w)(h0:w (z00 r)≠0)(hz:∀ x∈T,w (z00 x)=0)(hw:∀ k,(w k).natAbs≤W):
  ∀ k,(at0 r k).natAbs≤W+(2 ^ T.length-1)*E:=by
 obtain⟨c,s⟩:=s
 have ec:=A.coef s
 have c0:c≠0:=by intro z;rw[z]at ec;simp at ec;exact h0 ec
 intro k
 have q:=zbL (E:=E) (Q:=c.natAbs) A.2.2.2.2 F.2.2.2.2 hE s (fun x hx=>by
  have h2:=F.2.2.2.1 (z00 x,vec x) (List.mem_map.mpr ⟨x,hx,rfl⟩)
  have h2:0≤at0 r (z00 x)∧at0 r (z00 x)<hd x:=h2
  show(w (z00 x)-c*at0 r (z00 x)).natAbs≤_
  rw[hz x hx]
  have h3:(c*at0 r (z00 x)).natAbs≤c.natAbs*(hd x).natAbs:=by rw[Int.natAbs_mul];exact Nat.mul_le_mul_left _ (by omega)
  omega) k
 have q:(w k-c*at0 r k).natAbs≤c.natAbs*((2 ^ T.length-1)*E):=q
 have hwk:=hw k
 have e1:(c*at0 r k).natAbs=c.natAbs*(at0 r k).natAbs:=Int.natAbs_mul _ _
 apply Nat.le_of_not_lt
 intro hlt
 generalize (2 ^ T.length-1)*E=X at *
 have h6:c.natAbs*(W+X+1)≤c.natAbs*(at0 r k).natAbs:=Nat.mul_le_mul_left _ hlt
 have h7:c.natAbs*(W+X+1)=c.natAbs*X+c.natAbs*(W+1):=by rw[←Nat.mul_add];congr 1;omega
 have h8:1*(W+1)≤c.natAbs*(W+1):=Nat.mul_le_mul_right _ (by omega)
 omega
def bnd(r B:Nat):Nat:=(2*r*B) ^ r*2 ^ (r*r)
theorem z9F{W n:Nat}:∀{T:List Row} {f:Nat},Asc n f T→Form f (z0v T)→(∀ r∈T,∃ w:Vec,Span (vecs T) w∧w (z00 r)≠0∧(∀ k,k<z00 r→w k=0)∧(∀ x∈T,x≠r→w (z00 x)=0)∧∀ k,(w k).natAbs≤W)→∀ r∈T,Lt (W*2 ^ (T.length*T.length)+1) r
 | r::T,f,A,F,h,x,hx=>by
  have nd:∀ y∈T,z00 r<z00 y:=fun y hy=>(A.2.2.2.2.mem hy).2.1
  have ih:=z9F (T:=T) A.2.2.2.2 F.2.2.2.2 (fun y hy=>by
    obtain⟨w,w1,w2,w3,w4,w5⟩:=h y (List.mem_cons_of_mem _ hy)
    refine⟨w,?_,w2,w3,fun z hz hne=>w4 z (List.mem_cons_of_mem _ hz) hne,w5⟩
    exact Form.tail F (show Span (z0L (z0v (r::T))) w by
     have:z0L (z0v (r::T))=vecs (r::T):=by simp[z0v,z0L]
     rw[this];exact w1) (w3 _ (nd y hy)) |> fun s=>by
      have:z0L (z0v T)=vecs T:=by simp[z0v,z0L]
      have s:Span (z0L (z0v T)) w:=s
      rw[this]at s;exact s)
  have hW:W*2 ^ (T.length*T.length)+1≤W*2 ^ ((r::T).length*(r::T).length)+1:=by
    refine Nat.succ_le_succ (Nat.mul_le_mul_left _ (Nat.pow_le_pow_right (by decide) ?_))
    exact Nat.mul_le_mul (by simp) (by simp)
  rcases List.mem_cons.mp hx with rfl|hx
  · obtain⟨w,w1,w2,w3,w4,w5⟩:=h x List.mem_cons_self
    intro k
    have q:=ziE (E:=W*2 ^ (T.length*T.length)+1) A F ih w1 w2 (fun y hy=>w4 y (List.mem_cons_of_mem _ hy) fun e=>by have:=nd y hy;rw[e]at this;omega) w5 k
    refine Nat.lt_succ_of_le (Nat.le_trans q ?_)
    have hW1:1≤W:=by have:=w5 (z00 x);omega
    have e2:(x::T).length*(x::T).length=T.length*T.length+T.length+T.length+1:=by rw[List.length_cons];grind
    rw[e2,Nat.pow_succ,Nat.pow_add]
    generalize hP:2 ^ (T.length*T.length+T.length)=P
    have p1:2 ^ (T.length*T.length)*2 ^ T.length=P:=by rw[←hP,Nat.pow_add]
    have p2:1≤2 ^ T.length:=Nat.two_pow_pos _
    have p3:1≤2 ^ (T.length*T.length):=Nat.two_pow_pos _
    generalize 2 ^ T.length=a at *
    generalize 2 ^ (T.length*T.length)=b at *
    have h1:(a-1)*(W*b+1)≤a*(2*(W*b)):=Nat.mul_le_mul (by omega) (by have:1≤W*b:=Nat.mul_pos hW1 p3;omega)
    have h1':(a-1)*(W*b+1)+(W*b+1)=a*(W*b+1):=by
     have:a=(a-1)+1:=by omega
     rw[show a*(W*b+1)=((a-1)+1)*(W*b+1) by rw[←this],Nat.succ_mul]
    have h2:W≤W*b:=Nat.le_mul_of_pos_right _ p3
    have h3:a*(W*b+1)≤a*(2*(W*b)):=Nat.mul_le_mul_left _ (by have:1≤W*b:=Nat.mul_pos hW1 p3;omega)
    have h4:a*(2*(W*b))=W*(b*a)*2:=by grind
    have h5:W*(b*a)*2≤W*(P*a*2):=by
     rw[p1,Nat.mul_assoc]
     refine Nat.mul_le_mul_left _ (Nat.mul_le_mul_right _ (Nat.le_mul_of_pos_right _ p2))
    omega
  · exact(ih x hx).mono hW
theorem z9G(T:List Row):z0L (z0v T)=vecs T:=by simp[z0v,z0L]
theorem zd2{n B:Nat}{S R:List Row}(A:Asc n 0 S)(F:Form 0 (z0v S))(hR:Ind R)(hl:R.length=S.length)(hs:∀ r∈R,Span (vecs S) (fun k=>at0 r k))(hb:∀ r∈R,Lt B r)(hp:0<B):
  ∀ r∈S,Lt (bnd S.length B+1) r:=by
 refine z9F A F fun r hr=>?_
 have hpw:=(Asc.iff.mp A).2
 obtain⟨S1,S2,rfl⟩:=List.append_of_mem hr
 obtain⟨cs,c1,c2,⟨m,c3⟩,c4⟩:=siegel hR hb hp ((S1++S2).map z00) (by rw[hl];simp;omega)
 have sp:Span (vecs (S1++r::S2)) (mix R cs):=z5M hs
 obtain⟨h,z,q⟩:=zbK _ m c3
 obtain⟨x,hx,ex⟩:=A.first sp z q
 have oth:∀ y∈S1++r::S2,y≠r→y∈S1++S2:=fun y hy hne=>by
  rcases List.mem_append.mp hy with h|h
  · exact List.mem_append.mpr (.inl h)
  · rcases List.mem_cons.mp h with rfl|h
    · exact absurd rfl hne
    · exact List.mem_append.mpr (.inr h)
 have zo:∀ y∈S1++r::S2,y≠r→mix R cs (z00 y)=0:=fun y hy hne=>c2 _ (List.mem_map.mpr ⟨y,oth y hy hne,rfl⟩)
 have er:x=r:=Classical.byContradiction fun hne=>q (by rw[←ex];exact zo x hx hne)
 subst er
 rw[hl]at c4
 exact⟨mix R cs,sp,by rw[ex];exact q,fun k hk=>z k (by omega),zo,c4⟩
end St

end
section
local macro_rules|`(tactic| omega)=>`(tactic| first|lia|omega +splitDisjunctions)
set_option linter.all false
set_option maxRecDepth 100000
namespace St
open Lat
structure Post(n u:Nat)(S0:List Row)(v:Row)(S:List Row):Prop where
 asc:Asc n 0 S
 span:SameSpan (vecs S) (vecs (v::S0))
 size:∀ r∈S,Lt (2 ^ u) r
 more:S.map z00=S0.map z00∨(S.length=S0.length+1∧∃ r∈S,∀ x∈S0,z00 x≠z00 r)
theorem Wi.start{n e eh s m0 kk:Nat}{S0:List Row}{v:Row}(A:Asc n 0 S0)(hv:v.length=n)(h0:∀ r∈S0,Lt (2 ^ e) r)(hh:∀ r∈S0,hd r<2 ^ eh)(hs:Lt (2 ^ s) v)(hm:s+S0.length*(e+1)≤m0)(he:e≤m0):
   Wi n e eh m0 kk S0 v S0 (z0f v S0)∧LowB m0 v S0:=by
 obtain⟨z1,z2⟩:=z1M (n:=n) (t:=0) (s:=s) (e:=e) (m:=m0) (S:=S0) (left:=v) (fun r hr=>⟨(A.mem hr).1,(A.mem hr).2.2.2⟩) hv (fun k hk=>by omega) (fun r hr _=>h0 r hr) hs hm he
 have sp:=z1L A hv
 refine⟨⟨A,z3F A hv,rfl,?_,z2j A hv,fun r hr _=>h0 r hr,fun r hr=>?_,z1.mono (Nat.pow_le_pow_right (by decide) (by omega)),fun r hr=>(h0 r hr).mono (Nat.pow_le_pow_right (by decide) (by omega))⟩,z2⟩
 · refine z3H (fun r hr=>?_) fun r hr=>?_
   · rcases List.mem_cons.mp hr with rfl|hr
     · have t:Span (vecs (v::S0)) (fun k=>at0 v k):=z0d List.mem_cons_self
       exact Span.congr (fun k=>by omega) (t.sub sp.cons)
     · exact z0d (List.mem_cons_of_mem _ hr)
   · rcases List.mem_cons.mp hr with rfl|hr
     · have t:Span (vecs (z0f r S0::S0)) (fun k=>at0 (z0f r S0) k):=z0d List.mem_cons_self
       exact Span.congr (fun k=>by omega) (t.add sp.cons)
     · exact z0d (List.mem_cons_of_mem _ hr)
 · exact hh r hr
theorem Wi.done{n e eh m0 kk:Nat}{S0:List Row}{v:Row}{S:List Row}{left:Row}(I:Wi n e eh m0 kk S0 v S left)(h:¬z00 left<n):Post n (e+3+(m0+n*kk)) S0 v S:=by
 have hl:=z4O left
 rw[I.len]at hl
 have e:z00 left=n:=by omega
 refine⟨I.asc,SameSpan.trans (z3H (fun r hr=>z0d (List.mem_cons_of_mem _ hr)) fun r hr=>?_) I.span,fun r hr=>by have:=I.all r hr;rw[e]at this;exact this,.inl I.heads⟩
 rcases List.mem_cons.mp hr with rfl|hr
 · refine Span.congr (fun k=>?_) Span.zero
   by_cases hk:k<n
   · exact(z0e r k (by omega)).symm
   · exact(z0O (by rw[I.len];omega)).symm
 · exact z0d hr
theorem Wi.new{n e eh m0 kk:Nat}{S0:List Row}{v:Row}{S S':List Row}{left t:Row}(I:Wi n e eh m0 kk S0 v S left)(h:z00 left<n)(hn:∀ r∈S,z00 r≠z00 left)
   (ht:t.length=n) (c:Int) (hc:c=1∨c = -1) (et:∀ k,at0 t k=c*at0 left k) (hp:0<at0 t (z00 left)) (pm:S'.Perm (t::S)) (pw:(S'.map z00).Pairwise (·<·)):Post n (e+3+(m0+n*kk)) S0 v S':=by
 have hh:z00 t=z00 left:=z1f _ _ (fun k hk=>by rw[et,z0e left k hk];simp) (by omega)
 have mem:∀ r∈S',r=t∨r∈S:=fun r hr=>List.mem_cons.mp (pm.mem_iff.mp hr)
 have tm:t∈S':=pm.mem_iff.mpr List.mem_cons_self
 have sm:∀ r∈S,r∈S':=fun r hr=>pm.mem_iff.mpr (List.mem_cons_of_mem _ hr)
 have hk:m0+z00 left*kk≤m0+n*kk:=by have:=Nat.mul_le_mul_right kk (Nat.le_of_lt h);omega
 refine⟨Asc.iff.mpr ⟨fun r hr=>?_,pw⟩,SameSpan.trans (z3H (fun r hr=>?_) fun r hr=>?_) I.span,fun r hr=>?_,.inr ⟨?_,t,tm,fun x hx e=>?_⟩⟩
 · rcases mem r hr with rfl|hr
   · exact⟨ht,Nat.zero_le _,by rw[hh];exact h,by unfold hd;rw[hh];exact hp⟩
   · exact I.asc.mem hr
 · rcases mem r hr with rfl|hr
   · exact Span.congr (fun k=>(et k).symm) ((z0d List.mem_cons_self:Span (vecs (left::S)) (fun k=>at0 left k)).smul c)
   · exact z0d (List.mem_cons_of_mem _ hr)
 · rcases List.mem_cons.mp hr with rfl|hr
   · refine Span.congr (fun k=>?_) ((z0d tm:Span (vecs S') (fun k=>at0 t k)).smul c)
     show c*at0 t k=at0 r k
     rw[et]
     rcases hc with rfl|rfl<;>omega
   · exact z0d (sm r hr)
 · rcases mem r hr with rfl|hr
   · intro k
     rw[et]
     have h1:=I.size k
     have h2:2 ^ (m0+z00 left*kk)≤2 ^ (e+3+(m0+n*kk)):=Nat.pow_le_pow_right (by decide) (by omega)
     rcases hc with rfl|rfl<;>omega
   · exact(I.all r hr).mono (Nat.pow_le_pow_right (by decide) (by omega))
 · have h1:=pm.length_eq
   have h2:=congrArg List.length I.heads
   simp at h1 h2
   omega
 · have:z00 x∈S.map z00:=by rw[I.heads];exact List.mem_map.mpr ⟨x,hx,rfl⟩
   obtain⟨y,hy,ey⟩:=List.mem_map.mp this
   exact hn y hy (by omega)
structure Good(n B:Nat)(rows:List Row)(S:List Row):Prop where
 asc:Asc n 0 S
 form:Form 0 (z0v S)
 span:SameSpan (vecs S) (vecs rows)
 ind:∃ R:List Row,Ind R∧R.length=S.length∧(∀ r∈R,r∈rows)
 len:S.length≤rows.length
 full:Ind rows→S.length=rows.length
theorem Good.nil{n B:Nat}:Good n B [] []:=⟨trivial,trivial,SameSpan.refl,⟨[],(fun cs h _ c hc=>by have h:cs=[]:=List.length_eq_zero_iff.mp h;subst h;cases hc),rfl,fun r hr=>by cases hr⟩,Nat.le_refl _,fun _=>rfl⟩
theorem Good.small{n B:Nat}{rows S:List Row}(G:Good n B rows S)(hb:∀ r∈rows,Lt B r)(hp:0<B):∀ r∈S,Lt (bnd S.length B+1) r:=by
 obtain⟨R,h1,h2,h3⟩:=G.ind
 exact zd2 G.asc G.form h1 h2 (fun r hr=>G.span.iff.mpr (z0d (h3 r hr))) (fun r hr=>hb r (h3 r hr)) hp
theorem z4b:∀{R:List Row} {v:Vec},Span (vecs R) v→∃ c:List Int,c.length=R.length∧∀ k,v k=mix R c k
 | [],v,s=>⟨[],rfl,s⟩
 | r::R,v,⟨c,s⟩=>by
  obtain⟨cs,h1,h2⟩:=z4b s
  refine⟨c::cs,by simp[h1],fun k=>?_⟩
  have:=h2 k
  have this:v k-c*at0 r k=mix R cs k:=this
  show v k=c*at0 r k+mix R cs k
  omega
theorem z89{v:Row}{d:Int}:∀{R:List Row} {c:List Int},c.length=R.length→∀ k,mix (R++[v]) (c++[d]) k=mix R c k+d*at0 v k
 | [],[],_,k=>by simp[mix]
 | r::R,x::c,h,k=>by
  show x*at0 r k+mix (R++[v]) (c++[d]) k=x*at0 r k+mix R c k+d*at0 v k
  rw[z89 (R:=R) (c:=c) (by simpa using h)];omega
theorem Ind.left{R:List Row}{v:Row}(h:Ind (R++[v])):Ind R:=fun c hl hz x hx=>by
 exact h (c++[0]) (by simp[hl]) (fun k=>by rw[z89 hl,hz k];simp) x (List.mem_append.mpr (.inl hx))
theorem z9H{n:Nat}:∀{f:Nat} {S T:List Row} {u:Vec},Asc n f S→Asc n f T→T.map z00=S.map z00→(∀ r∈T,Span (vecs S) (fun k=>at0 r k))→Span (vecs S) u→∃ D:Int,D≠0∧Span (vecs T) (fun k=>D*u k)
 | f,[],[],u,_,_,_,_,s=>⟨1,by decide,fun k=>by have:=s k;show 1*u k=0;omega⟩
 | f,r::S,t::T,u,A,A',hh,hT,s=>by
  have hh':z00 t=z00 r∧T.map z00=S.map z00:=by simpa using hh
  have tz:∀{w:Vec},Span (vecs (r::S)) w→w (z00 r)=0→Span (vecs S) w:=fun{w} hw z=>by
    obtain⟨c,q⟩:=hw
    have e:=A.coef q
    have c0:c=0:=by
      rw[z]at e
      rcases Int.mul_eq_zero.mp e.symm with h|h
      · exact h
      · have:=A.2.2.2.1;omega
    subst c0
    exact Span.congr (fun k=>by simp) q
  have ht:Span (vecs (r::S)) (fun k=>at0 t k):=hT t List.mem_cons_self
  have w1:Span (vecs (r::S)) (fun k=>hd t*u k-u (z00 r)*at0 t k):=(s.smul (hd t)).sub (ht.smul (u (z00 r)))
  have w2:=tz w1 (by show hd t*u (z00 r)-u (z00 r)*at0 t (z00 r)=0;rw[←hh'.1];show hd t*_-_*hd t=0;rw[Int.mul_comm];omega)
  obtain⟨D,hD,q⟩:=z9H A.2.2.2.2 (by rw[←hh'.1];exact A'.2.2.2.2) hh'.2 (fun x hx=>tz (hT x (List.mem_cons_of_mem _ hx)) (z0e x _ (by have:=(A'.2.2.2.2.mem hx).2.1;omega))) w2
  refine⟨D*hd t,fun z=>?_,D*u (z00 r),Span.congr (fun k=>?_) q⟩
  · rcases Int.mul_eq_zero.mp z with z|z
    · exact hD z
    · have:=A'.2.2.2.1;omega
  · show D*(hd t*u k-u (z00 r)*at0 t k)=D*hd t*u k-D*u (z00 r)*at0 t k
    grind
 | f,[],t::T,u,_,_,hh,_,_=>by simp at hh
 | f,r::S,[],u,_,_,hh,_,_=>by simp at hh
theorem z2R:∀ S:List Row,(even S).length=S.length
 | []=>rfl
 | r::rs=>by rw[even,List.length_cons,List.length_cons,z2R rs]
theorem Good.step{n u B:Nat}{rows S0 S:List Row}{v:Row}(G:Good n B rows S0)(P:Post n u S0 v S):Good n B (rows++[v]) (even S):=by
  have es:=z9D P.asc
  have sp:SameSpan (vecs (v::S0)) (vecs (rows++[v])):=z3H (fun r hr=>by
      rcases List.mem_cons.mp hr with rfl|hr
      · exact z0d (List.mem_append.mpr (.inr List.mem_cons_self))
      · exact(G.span.iff.mp (z0d hr)).trans fun w hw=>by
          obtain⟨z,hz,rfl⟩:=List.mem_map.mp hw
          exact z0d (List.mem_append.mpr (.inl hz))) fun r hr=>by
      rcases List.mem_append.mp hr with hr|hr
      · exact(G.span.iff.mpr (z0d hr)).trans fun w hw=>by
          obtain⟨z,hz,rfl⟩:=List.mem_map.mp hw
          exact z0d (List.mem_cons_of_mem _ hz)
      · rcases List.mem_singleton.mp hr with rfl
        exact z0d List.mem_cons_self
  obtain⟨R,h1,h2,h3⟩:=G.ind
  have hlen:(even S).length≤(rows++[v]).length:=by
    rw[z2R,List.length_append]
    have:=G.len
    rcases P.more with h|⟨h,_⟩
    · have h:=congrArg List.length h
      simp at h ⊢
      omega
    · simp;omega
  refine⟨(z2F P.asc).1,z9C P.asc,SameSpan.trans es (P.span.trans sp),?_,hlen,fun hI=>?_⟩
  rotate_left
  · have hI0:=hI.left
    have hl0:=G.full hI0
    rcases P.more with h|⟨h,_⟩
    · exfalso
      have hv:Span (vecs S) (fun k=>at0 v k):=P.span.iff.mpr (z0d List.mem_cons_self)
      obtain⟨D,hD,q⟩:=z9H P.asc G.asc h.symm (fun r hr=>P.span.iff.mpr (z0d (List.mem_cons_of_mem _ hr))) hv
      obtain⟨c,hc,ec⟩:=z4b (G.span.iff.mp q)
      have:=hI (c++[-D]) (by simp[hc]) (fun k=>by rw[z89 hc];have:=ec k;rw[←this,Int.neg_mul];show D*at0 v k+_=0;omega) (-D) (by simp)
      omega
    · rw[z2R,h,hl0];simp
  rcases P.more with h|⟨h,r,hr,hne⟩
  · exact⟨R,h1,by have h:=congrArg List.length h;simp at h;rw[z2R,h,h2],fun r hr=>List.mem_append.mpr (.inl (h3 r hr))⟩
  · refine⟨ v::R,?_,by rw[z2R,h,List.length_cons,h2],fun r hr=>?_⟩
    · intro cs hl hz
      cases cs with
      | nil=>intro c hc;cases hc
      | cons c cs =>
        have hl':cs.length=R.length:=by simpa using hl
        have hz:∀ k,c*at0 v k+mix R cs k=0:=hz
        by_cases c0:c=0
        · subst c0
          have z:=h1 cs hl' (fun k=>by have:=hz k;omega)
          intro d hd
          rcases List.mem_cons.mp hd with rfl|hd
          · rfl
          · exact z d hd
        · exfalso
          have cv:Span (vecs S0) (fun k=>c*at0 v k):=by
            have:Span (vecs S0) (mix R cs):=z5M fun r hr=>G.span.iff.mpr (z0d (h3 r hr))
            exact Span.congr (fun k=>by have:=hz k;omega) this.neg
          have all:∀ w:Vec,Span (vecs (v::S0)) w→Span (vecs S0) (fun k=>c*w k):=fun w hw=>by
            obtain⟨d,s⟩:=hw
            have s2:=(cv.smul d).add (s.smul c)
            refine Span.congr (fun k=>?_) s2
            show d*(c*at0 v k)+c*(w k-d*at0 v k)=c*w k
            grind
          have rs:Span (vecs (v::S0)) (fun k=>at0 r k):=P.span.iff.mp (z0d hr)
          have q:=P.asc.mem hr
          obtain⟨x,hx,e⟩:=G.asc.first (h:=z00 r) (all _ rs) (fun k hk=>by show c*at0 r k=0;rw[z0e r k hk];simp) (by
            show c*hd r≠0
            intro z
            rcases Int.mul_eq_zero.mp z with z|z
            · exact c0 z
            · omega)
          exact hne x hx e
    · rcases List.mem_cons.mp hr with rfl|hr
      · exact List.mem_append.mpr (.inr List.mem_cons_self)
      · exact List.mem_append.mpr (.inl (h3 r hr))
theorem z4c{r s B:Nat}(h:r≤s)(hB:0<B)(hs:0<s):bnd r B≤bnd s B:=by
 unfold bnd
 refine Nat.mul_le_mul ?_ (Nat.pow_le_pow_right (by decide) (Nat.mul_le_mul h h))
 have h1:2*r*B≤2*s*B:=Nat.mul_le_mul_right _ (Nat.mul_le_mul_left _ h)
 have h2:0<2*s*B:=Nat.mul_pos (by omega) hB
 exact Nat.le_trans (Nat.pow_le_pow_left h1 r) (Nat.pow_le_pow_right h2 h)
theorem z7v{n:Nat}:∀{f:Nat} {S:List Row},Asc n f S→f≤n→S.length≤n-f
 | f,[],_,_=>Nat.zero_le _
 | f,r::rs,⟨h1,h2,h3,h4,h5⟩,h=>by
  have:=z7v h5 (by omega)
  rw[List.length_cons];omega
end St

end
section
set_option linter.all false
set_option maxRecDepth 100000
set_option exponentiation.threshold 3000
namespace St
open Lat
theorem zaH{n f:Nat}{S:List Row}(A:Asc n f S){k:Nat}(hk:k<S.length):(S.getD k []).length=n∧f≤z00 (S.getD k [])∧z00 (S.getD k [])<n∧0<hd (S.getD k []) :=
 A.mem (by simp[List.getD,List.getElem?_eq_getElem hk])
theorem ziF{n:Nat}:∀{f:Nat} {S:List Row},Asc n f S→∀{j k:Nat},j<k→k<S.length→z00 (S.getD j [])<z00 (S.getD k [])
 | f,r::S,A,0,k+1,_,hk=>by
  have hk:k<S.length:=by simpa using hk
  have hm:S.getD k []∈S:=by simp[List.getD,List.getElem?_eq_getElem hk]
  have:=(A.2.2.2.2.mem hm).2.1
  exact this
 | f,r::S,A,j+1,k+1,hjk,hk=>by
  have:=ziF (S:=S) A.2.2.2.2 (j:=j) (k:=k) (by omega) (by simpa using hk)
  simpa[List.getD]using this
theorem ziG(k:Nat)(h:k≤8):bnd k (10 ^ 30)+1≤2 ^ 900:=by
 have:=z4c (B:=10 ^ 30) h (by decide) (by decide)
 have e:bnd 8 (10 ^ 30)+1≤2 ^ 900:=by unfold bnd;decide
 omega
theorem zh6{r:Row}{B:Nat}(hB:0<B)(h:∀ x∈r,x.natAbs<B):Lt B r:=fun k=>by
 unfold at0 List.getD
 by_cases hk:k<r.length
 · rw[List.getElem?_eq_getElem hk]
   exact h _ (List.getElem_mem _)
 · rw[List.getElem?_eq_none (by omega)]
   exact hB
end St

end
section
local macro_rules|`(tactic| omega)=>`(tactic| first|lia|omega +splitDisjunctions)
set_option linter.all false
set_option maxRecDepth 100000
namespace St
open Lat
theorem Asc.tz{n f:Nat}{r:Row}{S:List Row}{w:Vec}(A:Asc n f (r::S))(hw:Span (vecs (r::S)) w)(z:w (z00 r)=0):Span (vecs S) w:=by
 obtain⟨c,q⟩:=hw
 have e:=A.coef q
 have c0:c=0:=by
  rw[z]at e
  rcases Int.mul_eq_zero.mp e.symm with h|h
  · exact h
  · have:=A.2.2.2.1;omega
 subst c0
 exact Span.congr (fun k=>by simp) q
theorem Asc.small0{n:Nat}:∀{f:Nat} {S:List Row} {u:Vec},Asc n f S→Span (vecs S) u→(∀ r∈S,0≤u (z00 r)∧u (z00 r)<hd r)→∀ k,u k=0
 | f,[],u,_,s,_=>s
 | f,r::S,u,A,s,h=>by
  have hr:=h r List.mem_cons_self
  have z:u (z00 r)=0:=by
   obtain⟨c,q⟩:=s
   have e:=A.coef q
   have c0:c=0:=z3c e A.2.2.2.1 (by omega) hr.2
   rw[e,c0];simp
  exact A.2.2.2.2.small0 (A.tz s z) fun x hx=>h x (List.mem_cons_of_mem _ hx)
def z8a(n:Nat):Row:=List.replicate n 0
theorem z6m(n k:Nat):at0 (z8a n) k=0:=by
 unfold at0 z8a List.getD
 rw[List.getElem?_replicate]
 split<;>rfl
theorem ziH{n:Nat}{r:Row}(hl:r.length=n)(h:∀ k,at0 r k=0):r=z8a n:=ext0 (by unfold z8a;simp[hl]) fun k=>by rw[h,z6m]
theorem z92{n:Nat}{S:List Row}{v:Row}(A:Asc n 0 S)(hv:v.length=n):z0f v S=z8a n↔Span (vecs S) (fun k=>at0 v k):=by
 have sp:=z1L A hv
 constructor
 · intro e
   rw[e]at sp
   exact Span.congr (fun k=>by rw[z6m];omega) sp
 · intro s
   refine ziH (z3F A hv) (A.small0 (u:=fun k=>at0 (z0f v S) k) ?_ (z2j A hv))
   exact Span.congr (fun k=>by omega) (s.sub sp)
theorem z4d{R:List Row}(c:List Int):Span (vecs R) (mix R c):=z5M fun r hr=>z0d hr
theorem z6Y{m:Nat}:∀{S:List Row} {v:Row},LowB m v S→∀ c∈z0B v S,c.natAbs<2 ^ m
 | [],v,_,c,hc=>by simp[z0B]at hc
 | r::S,v,h,c,hc=>by
  rw[z0B]at hc
  rcases List.mem_cons.mp hc with rfl|hc
  · rcases h.1 with h|h
    · rw[h];exact Nat.two_pow_pos _
    · exact h.1
  · exact z6Y h.2 c hc
theorem zgd{n:Nat}:∀{R:List Row} {c:List Int},(∀ r∈R,r.length=n)→∀ k,n≤k→mix R c k=0
 | [],c,_,k,_=>by simp[mix]
 | r::R,[],_,k,_=>by simp[mix]
 | r::R,x::c,h,k,hk=>by
  show x*at0 r k+mix R c k=0
  rw[zgd (fun y hy=>h y (List.mem_cons_of_mem _ hy)) k hk,z0O (by rw[h r List.mem_cons_self];exact hk)];simp
abbrev Ab(a b:Row):Prop:=0≤at0 a (z00 b)∧at0 a (z00 b)<hd b
theorem z4e{n:Nat}:∀{f:Nat} {S:List Row},Asc n f S→(Form f (z0v S)↔S.Pairwise Ab)
 | f,[],_=>by simp[z0v,Form]
 | f,r::S,A=>by
  have ih:=z4e A.2.2.2.2
  rw[List.pairwise_cons,←ih]
  constructor
  · intro F
    exact⟨fun b hb=>F.2.2.2.1 (z00 b,vec b) (List.mem_map.mpr ⟨b,hb,rfl⟩),F.2.2.2.2⟩
  · rintro⟨h1,h2⟩
    refine⟨A.2.1,fun k hk=>z0e r k hk,A.2.2.2.1,fun p hp=>?_,h2⟩
    obtain⟨b,hb,rfl⟩:=List.mem_map.mp hp
    exact h1 b hb
theorem zge{n:Nat}:∀{S T:List Row},(∀ r∈S,r.length=n)→(∀ r∈T,r.length=n)→z0v S=z0v T→S=T
 | [],[],_,_,_=>rfl
 | [],t::T,_,_,h=>by simp[z0v]at h
 | s::S,[],_,_,h=>by simp[z0v]at h
 | s::S,t::T,hs,ht,h=>by
  have h:(z00 s,vec s)::z0v S=(z00 t,vec t)::z0v T:=h
  have h1:=(List.cons.inj h).1
  have h2:=(List.cons.inj h).2
  have e:s=t:=ext0 (by rw[hs s List.mem_cons_self,ht t List.mem_cons_self]) fun k=>congrFun (congrArg Prod.snd h1) k
  rw[e,zge (fun r hr=>hs r (List.mem_cons_of_mem _ hr)) (fun r hr=>ht r (List.mem_cons_of_mem _ hr)) h2]
theorem z9I{n:Nat}{S T:List Row}(A:Asc n 0 S)(F:Form 0 (z0v S))(A':Asc n 0 T)(F':Form 0 (z0v T))(h:SameSpan (vecs S) (vecs T)):S=T:=by
 refine zge (n:=n) (fun r hr=>(A.mem hr).1) (fun r hr=>(A'.mem hr).1) (Form.unique F F' ?_)
 rw[z9G,z9G];exact h
theorem z5N{n:Nat}{a b:Row}(h:a.length=n)(k:Nat):at0 (a++b) k=if k<n then at0 a k else at0 b (k-n):=by
 subst h
 unfold at0 List.getD
 rw[List.getElem?_append]
 split<;>rfl
theorem z1A(r:Row)(n k:Nat):at0 (r.take n) k=if k<n then at0 r k else 0:=by
 unfold at0 List.getD
 rw[List.getElem?_take]
 split<;>rfl
theorem z1B(r:Row)(n k:Nat):at0 (r.drop n) k=at0 r (n+k):=by
 unfold at0 List.getD
 rw[List.getElem?_drop]
def z5O(m j:Nat):Row:=(List.range m).map fun k=>if k=j then 1 else 0
theorem zbM(m j k:Nat):at0 (z5O m j) k=if k=j∧k<m then 1 else 0:=by
 unfold at0 z5O List.getD
 rw[List.getElem?_map]
 by_cases hk:k<m
 · rw[List.getElem?_range hk];simp[hk]
 · rw[List.getElem?_eq_none (by simpa using hk)];simp[hk]
def tagF(m:Nat):Nat→List Row→List Row
 | _,[]=>[]
 | s,b::bs=>(b++z5O m s)::tagF m (s+1) bs
abbrev z8b(bills:List Row):List Row:=tagF bills.length 0 bills
theorem z5P(m:Nat):∀(s:Nat) (bs:List Row),(tagF m s bs).length=bs.length
 | s,[]=>rfl
 | s,b::bs=>by rw[tagF,List.length_cons,List.length_cons,z5P]
theorem zbN(m:Nat):∀{s:Nat} {bs:List Row} {b:Row},b∈bs→∃ j,b++z5O m j∈tagF m s bs
 | s,_::bs,b,.head _=>⟨s,List.mem_cons_self⟩
 | s,_::bs,b,.tail _ h=>by
  obtain⟨j,hj⟩:=zbN m (s:=s+1) h
  exact⟨j,List.mem_cons_of_mem _ hj⟩
theorem z4f{n m:Nat}:∀{s:Nat} {bs:List Row} {c:List Int} {k:Nat},(∀ b∈bs,b.length=n)→k<n→mix (tagF m s bs) c k=mix bs c k
 | s,[],c,k,_,_=>by simp[tagF,mix]
 | s,b::bs,[],k,_,_=>by simp[tagF,mix]
 | s,b::bs,x::c,k,h,hk=>by
  show x*at0 (b++z5O m s) k+mix (tagF m (s+1) bs) c k=x*at0 b k+mix bs c k
  rw[z4f (fun y hy=>h y (List.mem_cons_of_mem _ hy)) hk,z5N (h b List.mem_cons_self),if_pos hk]
theorem z5Q{n m:Nat}:∀{s:Nat} {bs:List Row} {c:List Int} {i:Nat},(∀ b∈bs,b.length=n)→c.length=bs.length→s+bs.length≤m→mix (tagF m s bs) c (n+i)=if s≤i∧i<s+bs.length then at0 c (i-s) else 0
 | s,[],[],i,_,_,_=>by simp[tagF,mix];intros;omega
 | s,b::bs,x::c,i,h,hl,hs=>by
  have ih:=z5Q (n:=n) (m:=m) (s:=s+1) (bs:=bs) (c:=c) (i:=i) (fun y hy=>h y (List.mem_cons_of_mem _ hy)) (by simpa using hl) (by simp at hs;omega)
  show x*at0 (b++z5O m s) (n+i)+mix (tagF m (s+1) bs) c (n+i)=_
  rw[ih,z5N (h b List.mem_cons_self),if_neg (by omega),zbM,show n+i-n=i by omega]
  have hlen:(b::bs).length=bs.length+1:=rfl
  rw[hlen]
  have hm:s<m:=by simp at hs;omega
  by_cases h1:i=s
  · subst h1
    rw[if_pos ⟨rfl,hm⟩,if_neg (by omega),if_pos (by omega)]
    simp[at0]
  · rw[if_neg (by omega)]
    by_cases h2:s+1≤i∧i<s+1+bs.length
    · rw[if_pos h2,if_pos (by omega)]
      have:i-s=(i-(s+1))+1:=by omega
      rw[this]
      simp[at0]
    · rw[if_neg h2,if_neg (by omega)];simp
theorem z8c{n:Nat}{bills:List Row}{c:List Int}(h:∀ b∈bills,b.length=n)(hl:c.length=bills.length)(i:Nat):mix (z8b bills) c (n+i)=at0 c i:=by
 rw[z5Q h hl (by omega)]
 split
 · simp
 · rw[z0O (by omega)]
theorem zd3{n:Nat}{bills:List Row}(h:∀ b∈bills,b.length=n):Ind (z8b bills):=fun c hl hz x hx=>by
 rw[z5P]at hl
 obtain⟨i,hi,e⟩:=List.mem_iff_getElem.mp hx
 have:=hz (n+i)
 rw[z8c h hl]at this
 rw[←e]
 simpa[at0,List.getD,List.getElem?_eq_getElem hi]using this
theorem ziI{n:Nat}{bills:List Row}{u:Row}(h:∀ b∈bills,b.length=n)(hu:u.length=n+bills.length):Span (vecs (z8b bills)) (fun k=>at0 u k)↔∀ k,k<n→at0 u k=mix bills (u.drop n) k:=by
 have hd:(u.drop n).length=bills.length:=by rw[List.length_drop];omega
 constructor
 · intro s k hk
   obtain⟨c,hc,e⟩:=z4b s
   rw[z5P]at hc
   have:c=u.drop n:=ext0 (by rw[hc,hd]) fun i=>by
     rw[z1B,←z8c h hc i]
     exact(e (n+i)).symm
   have e1:=e k
   rw[z4f h hk,this]at e1
   exact e1
 · intro q
   refine Span.congr (fun k=>?_) (z4d (u.drop n))
   by_cases hk:k<n
   · rw[z4f h hk,q k hk]
   · have:k=n+(k-n):=by omega
     rw[this,z8c h hd,z1B]
theorem z5f{N n:Nat}:∀{f:Nat} {S:List Row},Asc N f S→S=S.filter (fun r=>decide (z00 r<n))++S.filter (fun r=>!decide (z00 r<n))
 | f,[],_=>rfl
 | f,r::S,A=>by
  have ih:=z5f (n:=n) A.2.2.2.2
  by_cases h:z00 r<n
  · rw[List.filter_cons,List.filter_cons]
    simp only[h,decide_true,if_true,Bool.not_true,Bool.false_eq_true,if_false]
    rw[List.cons_append,←ih]
  · have e:S.filter (fun r=>decide (z00 r<n))=[]:=List.filter_eq_nil_iff.mpr fun x hx=>by have:=(A.2.2.2.2.mem hx).2.1;simp;omega
    rw[e,List.nil_append]at ih
    rw[List.filter_cons,List.filter_cons]
    simp only[h,decide_false,Bool.not_false,if_true,Bool.false_eq_true,if_false]
    rw[e,List.nil_append,←ih]
def tops(n:Nat)(S:List Row):List Row:=(S.filter fun r=>decide (z00 r<n)).map (·.take n)
def bots(n:Nat)(S:List Row):List Row:=(S.filter fun r=>!decide (z00 r<n)).map (·.drop n)
theorem z6n{r:Row}{n:Nat}(h:z00 r<n)(hl:z00 r<r.length):z00 (r.take n)=z00 r:=z1f _ _ (fun k hk=>by rw[z1A,if_pos (by omega)];exact z0e r k hk) (by rw[z1A,if_pos h];exact z3n r hl)
theorem z4P{r:Row}{n:Nat}(h:n≤z00 r)(hl:z00 r<r.length):z00 (r.drop n)=z00 r-n:=z1f _ _ (fun k hk=>by rw[z1B];exact z0e r _ (by omega)) (by rw[z1B,show n+(z00 r-n)=z00 r by omega];exact z3n r hl)
section
variable {n N:Nat}{S:List Row}
theorem z5R(A:Asc N 0 S)(hN:n≤N):Asc n 0 (tops n S)∧(tops n S).length=(S.filter fun r=>decide (z00 r<n)).length:=by
 have Q:=Asc.iff.mp A
 refine⟨Asc.iff.mpr ⟨fun x hx=>?_,?_⟩,by unfold tops;simp⟩
 · obtain⟨r,hr,rfl⟩:=List.mem_map.mp hx
   obtain⟨hr,hd'⟩:=List.mem_filter.mp hr
   have hd':z00 r<n:=by simpa using hd'
   have q:=Q.1 r hr
   have e:=z6n hd' (by omega)
   refine⟨by rw[List.length_take];omega,Nat.zero_le _,by rw[e];exact hd',?_⟩
   unfold hd
   rw[e,z1A,if_pos hd']
   exact q.2.2.2
 · have e:(tops n S).map z00=(S.filter fun r=>decide (z00 r<n)).map z00:=by
    unfold tops
    rw[List.map_map]
    apply List.map_congr_left
    intro r hr
    obtain⟨hr,hd'⟩:=List.mem_filter.mp hr
    exact z6n (by simpa using hd') (by have:=Q.1 r hr;omega)
   rw[e]
   exact Q.2.sublist (List.filter_sublist.map _)
theorem z6o(A:Asc N 0 S)(F:Form 0 (z0v S))(hN:n≤N):Form 0 (z0v (tops n S)):=by
 have Q:=Asc.iff.mp A
 rw[z4e (z5R A hN).1]
 have P:=(z4e A).mp F
 unfold tops
 rw[List.pairwise_map]
 refine List.Pairwise.imp_of_mem (fun{a b} ha hb h=>?_) (P.sublist List.filter_sublist)
 obtain⟨hb,hd'⟩:=List.mem_filter.mp hb
 have hd':z00 b<n:=by simpa using hd'
 have e:=z6n hd' (by have:=Q.1 b hb;omega)
 unfold Ab hd at *
 rw[e,z1A,if_pos hd',z1A,if_pos hd']
 exact h
theorem zbO(A:Asc N 0 S){m:Nat}(hN:N=n+m):Asc m 0 (bots n S):=by
 have Q:=Asc.iff.mp A
 refine Asc.iff.mpr ⟨fun x hx=>?_,?_⟩
 · obtain⟨r,hr,rfl⟩:=List.mem_map.mp hx
   obtain⟨hr,hd'⟩:=List.mem_filter.mp hr
   have hd':n≤z00 r:=by simpa using hd'
   have q:=Q.1 r hr
   have e:=z4P hd' (by omega)
   refine⟨by rw[List.length_drop];omega,Nat.zero_le _,by rw[e];omega,?_⟩
   unfold hd
   rw[e,z1B,show n+(z00 r-n)=z00 r by omega]
   exact q.2.2.2
 · unfold bots
   rw[List.map_map,List.pairwise_map]
   have P:=(List.pairwise_map.mp Q.2).sublist (List.filter_sublist (p:=fun r=>!decide (z00 r<n)))
   refine List.Pairwise.imp_of_mem (fun{a b} ha hb h=>?_) P
   obtain⟨ha,ha'⟩:=List.mem_filter.mp ha
   obtain⟨hb,hb'⟩:=List.mem_filter.mp hb
   have ha':n≤z00 a:=by simpa using ha'
   have hb':n≤z00 b:=by simpa using hb'
   show z00 (a.drop n)<z00 (b.drop n)
   rw[z4P ha' (by have:=Q.1 a ha;omega),z4P hb' (by have:=Q.1 b hb;omega)]
   omega
theorem zh7(A:Asc N 0 S)(F:Form 0 (z0v S)){m:Nat}(hN:N=n+m):Form 0 (z0v (bots n S)):=by
 have Q:=Asc.iff.mp A
 rw[z4e (zbO A hN)]
 have P:=(z4e A).mp F
 unfold bots
 rw[List.pairwise_map]
 refine List.Pairwise.imp_of_mem (fun{a b} ha hb h=>?_) (P.sublist List.filter_sublist)
 obtain⟨hb,hb'⟩:=List.mem_filter.mp hb
 have hb':n≤z00 b:=by simpa using hb'
 have e:=z4P hb' (by have:=Q.1 b hb;omega)
 unfold Ab hd at *
 rw[e,z1B,z1B,show n+(z00 b-n)=z00 b by omega]
 exact h
theorem z9J(A:Asc N 0 S){v:Vec}(s:Span (vecs S) v):Span (vecs (tops n S)) (fun k=>if k<n then v k else 0):=by
 refine Span.least (P:=fun v=>Span (vecs (tops n S)) (fun k=>if k<n then v k else 0)) ?_ (fun v w hv hw=>?_) (fun c v hv=>?_) (fun x hx=>?_) s
 · exact Span.congr (fun k=>by split<;>rfl) Span.zero
 · exact Span.congr (fun k=>by split<;>rfl) (hv.add hw)
 · refine Span.congr (fun k=>?_) (hv.smul c)
   split
   · rfl
   · simp
 · obtain⟨r,hr,rfl⟩:=List.mem_map.mp hx
   by_cases h:z00 r<n
   · have hm:r.take n∈tops n S:=List.mem_map.mpr ⟨r,List.mem_filter.mpr ⟨hr,by simpa using h⟩,rfl⟩
     exact Span.congr (fun k=>z1A r n k) (z0d hm)
   · refine Span.congr (fun k=>?_) Span.zero
     split
     · rw[show vec r k=0 from z0e r k (by omega)]
     · rfl
theorem zbP{N:Nat}:∀{f:Nat} {T B:List Row} {v:Vec},Asc N f (T++B)→Span (vecs (T++B)) v→(∀ r∈T,v (z00 r)=0)→Span (vecs B) v
 | f,[],B,v,_,s,_=>s
 | f,r::T,B,v,A,s,h=>zbP (T:=T) A.2.2.2.2 (A.tz s (h r List.mem_cons_self)) fun x hx=>h x (List.mem_cons_of_mem _ hx)
theorem zh8(A:Asc N 0 S){v:Vec}(s:Span (vecs S) v)(z:∀ k,k<n→v k=0):Span (vecs (bots n S)) (fun k=>v (n+k)):=by
 have e:=z5f (n:=n) A
 have A':=A
 rw[e]at A' s
 have s2:=zbP A' s fun r hr=>z _ (by simpa using(List.mem_filter.mp hr).2)
 refine Span.least (P:=fun v=>Span (vecs (bots n S)) (fun k=>v (n+k))) Span.zero (fun v w hv hw=>hv.add hw) (fun c v hv=>hv.smul c) (fun x hx=>?_) s2
 obtain⟨r,hr,rfl⟩:=List.mem_map.mp hx
 exact Span.congr (fun k=>z1B r n k) (z0d (List.mem_map.mpr ⟨r,hr,rfl⟩))
theorem zh9(A:Asc N 0 S){w:Vec}(s:Span (vecs (bots n S)) w):Span (vecs S) (fun k=>if k<n then 0 else w (k-n)):=by
 refine Span.least (P:=fun w=>Span (vecs S) (fun k=>if k<n then 0 else w (k-n))) ?_ (fun v w hv hw=>?_) (fun c v hv=>?_) (fun x hx=>?_) s
 · exact Span.congr (fun k=>by split<;>rfl) Span.zero
 · exact Span.congr (fun k=>by split<;>rfl) (hv.add hw)
 · refine Span.congr (fun k=>?_) (hv.smul c)
   split
   · simp
   · rfl
 · obtain⟨r',hr',rfl⟩:=List.mem_map.mp hx
   obtain⟨r,hr1,rfl⟩:=List.mem_map.mp hr'
   obtain⟨hr,h⟩:=List.mem_filter.mp hr1
   have h:n≤z00 r:=by simpa using h
   refine Span.congr (fun k=>?_) (z0d hr)
   split
   · rw[z0e r k (by omega)]
   · show at0 r k=at0 (r.drop n) (k-n)
     rw[z1B,show n+(k-n)=k by omega]
end
structure Tag(n:Nat)(bills S:List Row):Prop where
 wide:∀ b∈bills,b.length=n
 asc:Asc (n+bills.length) 0 S
 form:Form 0 (z0v S)
 span:SameSpan (vecs S) (vecs (z8b bills))
 full:S.length=bills.length
theorem Good.tag{n B:Nat}{bills S:List Row}(h:∀ b∈bills,b.length=n)(G:Good (n+bills.length) B (z8b bills) S):Tag n bills S :=
 ⟨h,G.asc,G.form,G.span,by rw[G.full (zd3 h),z5P]⟩
theorem Tag.rung{n:Nat}{bills S:List Row}(t:Tag n bills S){r:Row}(hr:r∈S):∀ k,k<n→at0 r k=mix bills (r.drop n) k :=
 (ziI t.wide (t.asc.mem hr).1).mp (t.span.iff.mp (z0d hr))
theorem Tag.top_span{n:Nat}{bills S:List Row}(t:Tag n bills S):SameSpan (vecs (tops n S)) (vecs bills):=z3H (fun x hx=>by
 obtain⟨r,hr,rfl⟩:=List.mem_map.mp hx
 obtain⟨hr,_⟩:=List.mem_filter.mp hr
 refine Span.congr (fun k=>?_) (z4d (R:=bills) (r.drop n))
 rw[z1A]
 split
 · rename_i hk;exact(t.rung hr k hk).symm
 · rename_i hk;exact zgd t.wide k (by omega)) fun b hb=>by
 obtain⟨j,hj⟩:=zbN bills.length (s:=0) hb
 have s:=z9J (n:=n) t.asc (t.span.iff.mpr (z0d hj))
 refine Span.congr (fun k=>?_) s
 rw[z5N (t.wide b hb)]
 by_cases hk:k<n
 · rw[if_pos hk,if_pos hk]
 · rw[if_neg hk,z0O (by rw[t.wide b hb];omega)]
theorem Tag.top{n:Nat}{bills S T:List Row}(t:Tag n bills S)(A:Asc n 0 T)(F:Form 0 (z0v T))(s:SameSpan (vecs T) (vecs bills)):tops n S=T :=
 z9I (z5R t.asc (by omega)).1 (z6o t.asc t.form (by omega)) A F (t.top_span.trans s.symm)
end St

end
section
local macro_rules|`(tactic| omega)=>`(tactic| first|lia|omega +splitDisjunctions)
set_option linter.all false
set_option maxRecDepth 100000
namespace St
open Lat
theorem z3I{B:List Row}{i:Nat}(h:i<B.length):B.getD i []∈B:=by simp[List.getD,List.getElem?_eq_getElem h]
end St
namespace St
open Lat
theorem Asc.small{n:Nat}:∀{f:Nat} {S:List Row} {u:Vec},Asc n f S→Span (vecs S) u→(∀ r∈S,-(hd r)<u (z00 r)∧u (z00 r)<hd r)→∀ k,u k=0
 | f,[],u,_,s,_=>s
 | f,r::S,u,A,s,h=>by
  have hr:=h r List.mem_cons_self
  have z:u (z00 r)=0:=by
   obtain⟨c,q⟩:=s
   have e:=A.coef q
   have c0:c=0:=z3c e A.2.2.2.1 hr.1 hr.2
   rw[e,c0];simp
  exact A.2.2.2.2.small (A.tz s z) fun x hx=>h x (List.mem_cons_of_mem _ hx)
end St

end
section
set_option linter.all false
set_option maxRecDepth 100000
namespace St
open Lat
def Ty(bills:List Row)(b:Row)(t:Int):Prop:=Span (vecs bills) (fun k=>t*at0 b k)
def IsOrd(bills:List Row)(b:Row):Option Int→Prop
 | none=>∀ t,Ty bills b t→t=0
 | some m=>0<m∧∀ t,Ty bills b t↔m∣t
theorem IsOrd.one{bills:List Row}{b:Row}{o p:Option Int}(h:IsOrd bills b o)(g:IsOrd bills b p):o=p:=by
 match o,p,h,g with
 | none,none,_,_=>rfl
 | none,some m,h,⟨g1,g2⟩=>have:=h m ((g2 m).mpr (Int.dvd_refl m));omega
 | some m,none,⟨h1,h2⟩,g=>have:=g m ((h2 m).mpr (Int.dvd_refl m));omega
 | some m,some k,⟨h1,h2⟩,⟨g1,g2⟩ =>
  have a:=(g2 m).mp ((h2 m).mpr (Int.dvd_refl m))
  have b:=(h2 k).mp ((g2 k).mpr (Int.dvd_refl k))
  congr 1
  exact Int.dvd_antisymm (by omega) (by omega) b a
end St

end
section
set_option linter.all false
set_option maxRecDepth 100000
namespace St
def Pr(p:Nat):Prop:=2≤p∧∀ d,2≤d→d<p→¬d∣p
theorem Pr.cop{p q:Nat}(hp:Pr p)(hq:Pr q)(h:p≠q):Nat.Coprime p q:=by
 have g1:=Nat.gcd_dvd_left p q
 have g2:=Nat.gcd_dvd_right p q
 have p0:0<p:=by have:=hp.1;omega
 have q0:0<q:=by have:=hq.1;omega
 have hg:=Nat.gcd_pos_of_pos_left q p0
 show Nat.gcd p q=1
 generalize Nat.gcd p q=g at *
 by_cases z:g=1
 · exact z
 · have l1:=Nat.le_of_dvd p0 g1
   have l2:=Nat.le_of_dvd q0 g2
   by_cases e:g=p
   · subst e
     by_cases e2:g=q
     · exact absurd e2 h
     · exact absurd g2 (hq.2 g (by omega) (by omega))
   · exact absurd g1 (hp.2 g (by omega) (by omega))
def z2k(fs:List (Nat×Nat)):Nat:=(fs.map (·.2)).foldl (·*·) 1
theorem zha(xs:List Nat):∀ t:Nat,xs.foldl (·*·) t=t*xs.foldl (·*·) 1:=by
 induction xs with
 | nil=>intro t;simp
 | cons x xs ih=>intro t;rw[List.foldl_cons,List.foldl_cons,ih (t*x),ih (1*x),Nat.one_mul,Nat.mul_assoc]
theorem z4Q:z2k []=1:=rfl
theorem z26(x:Nat×Nat)(fs:List (Nat×Nat)):z2k (x::fs)=x.2*z2k fs:=by
 unfold z2k
 rw[List.map_cons,List.foldl_cons,zha,Nat.one_mul]
theorem z4R(fs gs:List (Nat×Nat)):z2k (fs++gs)=z2k fs*z2k gs:=by
 induction fs with
 | nil=>rw[List.nil_append,z4Q,Nat.one_mul]
 | cons x fs ih=>rw[List.cons_append,z26,z26,ih,Nat.mul_assoc]
def PrW(x:Nat×Nat):Prop:=Pr x.1∧∃ e,x.2=x.1 ^ (e+1)
structure PPs(N p l:Nat)(fs:List (Nat×Nat)):Prop where
 lpos:0<l
 p2:2≤p
 nod:∀ d,2≤d→d<p→¬d∣l
 prod:z2k fs*l=N
 each:∀ x∈fs,PrW x∧x.1<p
 sort:fs.Pairwise fun x y=>x.1<y.1
theorem PPs.start{N:Nat}(h:0<N):PPs N 2 N []:=⟨h,Nat.le_refl 2,fun d h1 h2=>by omega,by rw[z4Q,Nat.one_mul],fun x hx=>by(cases hx),.nil⟩
theorem PPs.le{N p l:Nat}{fs:List (Nat×Nat)}(P:PPs N p l fs)(h:1<l):p≤l:=by
 by_cases z:p≤l
 · exact z
 · exact absurd (Nat.dvd_refl l) (P.nod l (by omega) (by omega))
theorem PPs.first{N p l:Nat}{fs:List (Nat×Nat)}(P:PPs N p l fs)(h:p∣l):Pr p :=
 ⟨P.p2,fun d h1 h2 h3=>P.nod d h1 h2 (Nat.dvd_trans h3 h)⟩
theorem PPs.take{N p l l' e:Nat}{fs:List (Nat×Nat)}(P:PPs N p l fs)(hp:Pr p)(he:l=p ^ (e+1)*l')(hn:¬p∣l'):PPs N (p+1) l' (fs++[(p,p ^ (e+1))]):=by
 have hl:l'∣l:=⟨p ^ (e+1),by rw[Nat.mul_comm];exact he⟩
 refine⟨?_,by have:=hp.1;omega,fun d h1 h2 h3=>?_,?_,fun x hx=>?_,?_⟩
 · rcases Nat.eq_zero_or_pos l' with z|z
   · rw[z,Nat.mul_zero]at he;have:=P.lpos;omega
   · exact z
 · by_cases z:d=p
   · subst z;exact hn h3
   · exact P.nod d h1 (by omega) (Nat.dvd_trans h3 hl)
 · rw[z4R,z26,z4Q,Nat.mul_one,Nat.mul_assoc,←he];exact P.prod
 · rcases List.mem_append.mp hx with h|h
   · obtain⟨a,b⟩:=P.each x h;exact⟨a,by omega⟩
   · rw[List.mem_singleton.mp h];exact⟨⟨hp,e,rfl⟩,by show p<p+1;omega⟩
 · rw[List.pairwise_append]
   exact⟨P.sort,List.pairwise_singleton _ _,fun x hx y hy=>by rw[List.mem_singleton.mp hy];exact(P.each x hx).2⟩
theorem PPs.skip{N p l:Nat}{fs:List (Nat×Nat)}(P:PPs N p l fs)(hn:¬p∣l):PPs N (p+1) l fs :=
 ⟨P.lpos,by have:=P.p2;omega,fun d h1 h2 h3=>by
  by_cases z:d=p
  · subst z;exact hn h3
  · exact P.nod d h1 (by omega) h3,P.prod,fun x hx=>by obtain⟨a,b⟩:=P.each x hx;exact⟨a,by omega⟩,P.sort⟩
structure PPd(N:Nat)(fs:List (Nat×Nat)):Prop where
 prod:z2k fs=N
 each:∀ x∈fs,PrW x
 sort:fs.Pairwise fun x y=>x.1<y.1
theorem PPs.done{N p l:Nat}{fs:List (Nat×Nat)}(P:PPs N p l fs)(h:¬1<l):PPd N fs:=by
 have e:l=1:=by have:=P.lpos;omega
 have:=P.prod
 rw[e,Nat.mul_one]at this
 exact⟨this,fun x hx=>(P.each x hx).1,P.sort⟩
theorem zbQ{w:Nat}:∀{fs:List (Nat×Nat)},(∀ y∈fs,Nat.Coprime y.2 w)→Nat.Coprime (z2k fs) w
 | [],_=>by rw[z4Q];exact Nat.gcd_one_left w
 | y::fs,h=>by rw[z26];exact Nat.Coprime.mul_left (h y List.mem_cons_self) (zbQ fun z hz=>h z (List.mem_cons_of_mem _ hz))
theorem zlX{x y:Nat×Nat}(hx:PrW x)(hy:PrW y)(h:x.1≠y.1):Nat.Coprime x.2 y.2:=by
 obtain⟨p1,e,h1⟩:=hx
 obtain⟨p2,f,h2⟩:=hy
 rw[h1,h2]
 exact Nat.Coprime.pow _ _ (p1.cop p2 h)
theorem PPd.cop{N:Nat}{fs:List (Nat×Nat)}(P:PPd N fs){x:Nat×Nat}(hx:x∈fs):∃ o,N=x.2*o∧Nat.Coprime o x.2∧∀ y∈fs,y≠x→y.2∣o:=by
 obtain⟨as,bs,rfl⟩:=List.append_of_mem hx
 have e:=P.prod
 rw[z4R,z26]at e
 have so:=P.sort
 rw[List.pairwise_append]at so
 obtain⟨s1,s2,s3⟩:=so
 obtain⟨s4,s5⟩:=List.pairwise_cons.mp s2
 have ne:∀ y,y∈as∨y∈bs→y.1≠x.1:=fun y hy=>by
   rcases hy with hy|hy
   · have:=s3 y hy x List.mem_cons_self;omega
   · have:=s4 y hy;omega
 have mem:∀ y,y∈as∨y∈bs→y∈as++x::bs:=fun y hy=>by
   rcases hy with hy|hy
   · exact List.mem_append_left _ hy
   · exact List.mem_append_right _ (List.mem_cons_of_mem _ hy)
 refine⟨z2k as*z2k bs,by rw[←e,Nat.mul_left_comm],?_,fun y hy hne=>?_⟩
 · rw[←z4R]
   exact zbQ fun y hy=>zlX (P.each y (mem y (List.mem_append.mp hy))) (P.each x hx) (ne y (List.mem_append.mp hy))
 · have hd:∀{gs:List (Nat×Nat)},y∈gs→y.2∣z2k gs:=fun{gs} h=>by
     obtain⟨cs,ds,rfl⟩:=List.append_of_mem h
     rw[z4R,z26]
     exact⟨z2k cs*z2k ds,by rw[Nat.mul_left_comm]⟩
   rcases List.mem_append.mp hy with h|h
   · exact Nat.dvd_trans (hd h) ⟨z2k bs,rfl⟩
   · rcases List.mem_cons.mp h with h|h
     · exact absurd h hne
     · exact Nat.dvd_trans (hd h) ⟨z2k as,Nat.mul_comm _ _⟩
theorem PPd.w2{N:Nat}{fs:List (Nat×Nat)}(P:PPd N fs){x:Nat×Nat}(hx:x∈fs):2≤x.2∧x.2∣N:=by
 obtain⟨o,e,_⟩:=P.cop hx
 obtain⟨⟨h2,_⟩,k,hk⟩:=P.each x hx
 refine⟨?_,⟨o,e⟩⟩
 rw[hk,Nat.pow_succ]
 have:0<x.1 ^ k:=Nat.pow_pos (by omega)
 exact Nat.le_trans h2 (Nat.le_mul_of_pos_left _ this)
open Lat
theorem z9K{A B:List Row}{v:Vec}(s:Span (vecs A) v)(h:∀ r∈A,r∈B):Span (vecs B) v:=Span.trans (fun r hr=>by
 obtain⟨x,hx,rfl⟩:=List.mem_map.mp hr
 exact Span.mem (z4a (h x hx))) s
theorem IsOrd.le{bills:List Row}{b:Row}{o:Option Int}(h:IsOrd bills b o){M:Int}(hM:0<M)(t:Ty bills b M):∃ N:Nat,o=some (N:Int)∧0<N∧(N:Int)≤M:=by
 match o,h with
 | none,h=>have:=h M t;omega
 | some m,⟨h1,h2⟩ =>
  obtain⟨N,rfl⟩:=Int.eq_ofNat_of_zero_le (show 0≤m by omega)
  exact⟨N,rfl,by omega,Int.le_of_dvd hM ((h2 M).mp t)⟩
end St

end
section
set_option linter.all false
set_option maxRecDepth 100000
namespace St
open Lat
theorem zgf{n f:Nat}{b:Row}{bs:List Row}{v:Vec}(B:Asc n f (b::bs))(s:Span (vecs (b::bs)) v)(z:v (z00 b)=0):Span (vecs bs) v:=by
 obtain⟨c,s⟩:=s
 have e:=B.coef s
 have hc:c=0:=by
  rw[z]at e
  rcases Int.mul_eq_zero.mp e.symm with h|h
  · exact h
  · have:=B.2.2.2.1;omega
 subst hc
 exact Span.congr (fun k=>by simp) s
theorem zgg{n f g:Nat}{a:Row}{b:Row}{bs:List Row}(ha:a.length=n)(hh:z00 a<n)(h0:0<hd a)(B:Asc n g (b::bs))(s:Span (vecs (b::bs)) (vec a)):z00 b≤z00 a:=by
 obtain⟨r,hr,e⟩:=B.first s (h:=z00 a) (fun k hk=>z0e a k hk) (by show hd a≠0;omega)
 rcases List.mem_cons.mp hr with rfl|hr
 · omega
 · have:=(B.2.2.2.2.mem hr).2.1;omega
theorem z2t{n:Nat}:∀{B:List Row} {A:List Row} {f g:Nat},Asc n f A→Asc n g B→(∀ a∈A,Span (vecs B) (vec a))→A.length≤B.length
 | [],[],_,_,_,_,_=>Nat.le_refl 0
 | [],a::as,f,g,A,_,h=>by
  have:=h a List.mem_cons_self (z00 a)
  have h4:=A.2.2.2.1
  have this:hd a=0:=this
  omega
 | b::bs,[],_,_,_,_,_=>Nat.zero_le _
 | b::bs,a::as,f,g,A,B,h=>by
  have hb:=zgg (f:=f) A.1 A.2.2.1 A.2.2.2.1 B (h a List.mem_cons_self)
  have down:∀ x∈as,Span (vecs bs) (vec x):=fun x hx=>zgf B (h x (List.mem_cons_of_mem _ hx)) (z0e x _ (by have:=(A.2.2.2.2.mem hx).2.1;omega))
  by_cases e:z00 a=z00 b
  · have:=z2t A.2.2.2.2 B.2.2.2.2 down
    rw[List.length_cons,List.length_cons];omega
  · have:=z2t (A:=a::as) A B.2.2.2.2 fun x hx=>by
     rcases List.mem_cons.mp hx with rfl|hx
     · exact zgf B (h x List.mem_cons_self) (z0e x _ (by omega))
     · exact down x hx
    rw[List.length_cons (a:=b)];omega
def Rel:List Row→List Row→List Nat→Prop
 | [],[],[]=>True
 | a::as,b::bs,d::ds=>z00 a=z00 b∧0<d∧hd a=d*hd b∧Span (vecs bs) (fun k=>at0 a k-d*at0 b k)∧Rel as bs ds
 | _,_,_=>False
theorem z8d{n:Nat}:∀{B A:List Row} {f g:Nat},Asc n f A→Asc n g B→(∀ a∈A,Span (vecs B) (vec a))→A.length=B.length→∃ ds,Rel A B ds
 | [],[],_,_,_,_,_,_=>⟨[],trivial⟩
 | [],a::as,_,_,_,_,_,h=>by simp at h
 | b::bs,[],_,_,_,_,_,h=>by simp at h
 | b::bs,a::as,f,g,A,B,h,hl=>by
  have hb:=zgg (f:=f) A.1 A.2.2.1 A.2.2.2.1 B (h a List.mem_cons_self)
  have down:∀ x∈as,Span (vecs bs) (vec x):=fun x hx=>zgf B (h x (List.mem_cons_of_mem _ hx)) (z0e x _ (by have:=(A.2.2.2.2.mem hx).2.1;omega))
  have e:z00 a=z00 b:=by
   by_cases e:z00 a=z00 b
   · exact e
   · have:=z2t (A:=a::as) A B.2.2.2.2 fun x hx=>by
      rcases List.mem_cons.mp hx with rfl|hx
      · exact zgf B (h x List.mem_cons_self) (z0e x _ (by omega))
      · exact down x hx
     rw[List.length_cons]at this hl
     rw[List.length_cons]at hl
     omega
  obtain⟨ds,r⟩:=z8d A.2.2.2.2 B.2.2.2.2 down (by simpa using hl)
  obtain⟨c,s⟩:=h a List.mem_cons_self
  have ec:vec a (z00 b)=c*hd b:=B.coef s
  rw[←e]at ec
  have ec:hd a=c*hd b:=ec
  have c0:0<c:=by
   have h1:=A.2.2.2.1
   have h2:=B.2.2.2.1
   by_cases z:0<c
   · exact z
   · have:c*hd b≤0:=Int.mul_nonpos_of_nonpos_of_nonneg (by omega) (by omega)
     omega
  obtain⟨d,rfl⟩:=Int.eq_ofNat_of_zero_le (show 0≤c by omega)
  exact⟨d::ds,e,by omega,ec,s,r⟩
theorem zd4{n:Nat}:∀{A B:List Row} {ds:List Nat} {f g:Nat} {v:Vec},Asc n f A→Asc n g B→Rel A B ds→Span (vecs B) v→∃ t,z1a ds t∧Span (vecs A) (fun k=>v k-mix B t k)
 | [],[],[],_,_,v,_,_,_,s=>⟨[],trivial,fun k=>by show v k-0=0;have:=s k;omega⟩
 | a::as,b::bs,d::ds,f,g,v,A,B,⟨h1,h2,h3,h4,h5⟩,⟨c,s⟩=>by
  have d0:(0:Int)<d:=by omega
  have s2:Span (vecs bs) (fun k=>v k-c.fdiv d*at0 a k-c.fmod d*at0 b k):=by
   refine Span.congr (fun k=>?_) (s.sub (h4.smul (c.fdiv d)))
   show v k-c*at0 b k-c.fdiv d*(at0 a k-d*at0 b k)=_
   have e:c=d*c.fdiv d+c.fmod d:=(Int.mul_fdiv_add_fmod c d).symm
   have e2:c*at0 b k=d*c.fdiv d*at0 b k+c.fmod d*at0 b k:=by rw[←Int.add_mul,←e]
   have e3:c.fdiv d*(at0 a k-d*at0 b k)=c.fdiv d*at0 a k-d*c.fdiv d*at0 b k:=by rw[Int.mul_sub,←Int.mul_assoc,Int.mul_comm (c.fdiv d) (d:Int)]
   omega
  obtain⟨t,ht,st⟩:=zd4 A.2.2.2.2 B.2.2.2.2 h5 s2
  refine⟨c.fmod d::t,⟨Int.fmod_nonneg_of_pos c d0,Int.fmod_lt_of_pos c d0,ht⟩,c.fdiv d,Span.congr (fun k=>?_) st⟩
  show v k-c.fdiv d*at0 a k-c.fmod d*at0 b k-mix bs t k=v k-(c.fmod d*at0 b k+mix bs t k)-c.fdiv d*vec a k
  show v k-c.fdiv d*at0 a k-c.fmod d*at0 b k-mix bs t k=v k-(c.fmod d*at0 b k+mix bs t k)-c.fdiv d*at0 a k
  omega
theorem zd5{n:Nat}:∀{A B:List Row} {ds:List Nat} {f g:Nat} {s t:List Int},Asc n f A→Asc n g B→Rel A B ds→z1a ds s→z1a ds t→Span (vecs A) (fun k=>mix B s k-mix B t k)→s=t
 | [],[],[],_,_,[],[],_,_,_,_,_,_=>rfl
 | a::as,b::bs,d::ds,f,g,x::s,y::t,A,B,⟨h1,h2,h3,h4,h5⟩,⟨x0,x1,hs⟩,⟨y0,y1,ht⟩,sp=>by
  obtain⟨c,sp⟩:=sp
  have z:(fun k=>mix (b::bs) (x::s) k-mix (b::bs) (y::t) k) (z00 a)=c*hd a:=A.coef sp
  have ms:∀ u:List Int,mix bs u (z00 a)=0:=fun u=>B.2.2.2.2.low (z4d u) _ (by omega)
  have z:(x*at0 b (z00 a)+mix bs s (z00 a))-(y*at0 b (z00 a)+mix bs t (z00 a))=c*hd a:=z
  rw[ms,ms,h3,h1]at z
  have z:(x*hd b+0)-(y*hd b+0)=c*(d*hd b):=z
  have z2:(x-y-c*d)*hd b=0:=by rw[Int.sub_mul,Int.sub_mul,Int.mul_assoc];omega
  have hb:=B.2.2.2.1
  have z3:x-y=c*d:=by
   rcases Int.mul_eq_zero.mp z2 with h|h
   · omega
   · omega
  have c0:c=0:=by
   by_cases p:1≤c
   · have:(1:Int)*d≤c*d:=Int.mul_le_mul_of_nonneg_right p (by omega)
     omega
   · by_cases q:c ≤ -1
     · have:c*d ≤ -1*d:=Int.mul_le_mul_of_nonneg_right q (by omega)
       omega
     · omega
  subst c0
  have e:x=y:=by omega
  subst e
  congr 1
  refine zd5 A.2.2.2.2 B.2.2.2.2 h5 hs ht (Span.congr (fun k=>?_) sp)
  show(x*at0 b k+mix bs s k)-(x*at0 b k+mix bs t k)-0*vec a k=mix bs s k-mix bs t k
  omega
theorem z8e{n:Nat}:∀{A B:List Row} {ds:List Nat} {f g:Nat} {v:Vec},Asc n f A→Asc n g B→Rel A B ds→Span (vecs B) v→Span (vecs A) (fun k=>(prod ds:Int)*v k)
 | [],[],[],_,_,v,_,_,_,s=>fun k=>by show(1:Int)*v k=0;rw[s k];rfl
 | a::as,b::bs,d::ds,f,g,v,A,B,⟨h1,h2,h3,h4,h5⟩,⟨c,s⟩=>by
  have s2:Span (vecs bs) (fun k=>d*v k-c*at0 a k):=by
   refine Span.congr (fun k=>?_) ((s.smul (d:Int)).sub (h4.smul c))
   show(d:Int)*(v k-c*at0 b k)-c*(at0 a k-d*at0 b k)=_
   rw[Int.mul_sub,Int.mul_sub,Int.mul_left_comm];omega
  refine⟨(prod ds:Int)*c,Span.congr (fun k=>?_) (z8e A.2.2.2.2 B.2.2.2.2 h5 s2)⟩
  show(prod ds:Int)*(d*v k-c*at0 a k)=((d*prod ds:Nat):Int)*v k-(prod ds:Int)*c*at0 a k
  rw[Int.mul_sub,Int.natCast_mul,←Int.mul_assoc,←Int.mul_assoc,Int.mul_comm (prod ds:Int) (d:Int)]
theorem z5S:∀{A B:List Row} {ds:List Nat},Rel A B ds→0<prod ds
 | [],[],[],_=>by show 0<1;decide
 | _::_,_::_,_::_,⟨_,h2,_,_,h5⟩=>Nat.mul_pos h2 (z5S h5)
theorem zgh{n:Nat}:∀{B:List Row} {g:Nat} (k:Row→Int),Asc n g B→(∀ b∈B,0<k b)→Asc n g (B.map fun b=>b.map (k b*·))
 | [],_,_,_,_=>trivial
 | b::bs,g,k,⟨h1,h2,h3,h4,h5⟩,hk=>by
  have kb:=hk b List.mem_cons_self
  have at_:∀ i,at0 (b.map (k b*·)) i=k b*at0 b i:=fun i=>by
    unfold at0
    rw[List.getD,List.getD,List.getElem?_map]
    cases b[i]? with
    | none=>exact(Int.mul_zero _).symm
    | some x=>rfl
  have hh:z00 (b.map (k b*·))=z00 b:=by
    refine z1f _ _ (fun i hi=>by rw[at_,z0e b i hi,Int.mul_zero]) ?_
    rw[at_]
    intro z
    rcases Int.mul_eq_zero.mp z with z|z
    · omega
    · have h4:0<at0 b (z00 b):=h4
      omega
  refine⟨by rw[List.length_map];exact h1,by rw[hh];exact h2,by rw[hh];exact h3,?_,?_⟩
  · unfold hd
    rw[hh,at_]
    exact Int.mul_pos kb h4
  · rw[hh]
    exact zgh k h5 fun x hx=>hk x (List.mem_cons_of_mem _ hx)
theorem z8f{n f g:Nat}{A B:List Row}(a:Asc n f A)(b:Asc n g B)(h:∀ r∈B,∃ k:Int,k≠0∧Span (vecs A) (fun i=>k*at0 r i)):B.length≤A.length:=by
 have h2:∀ r∈B,∃ k:Int,0<k∧Span (vecs A) (fun i=>k*at0 r i):=fun r hr=>by
  obtain⟨k,k0,s⟩:=h r hr
  by_cases z:0<k
  · exact⟨k,z,s⟩
  · exact⟨-k,by omega,Span.congr (fun i=>by show -(k*at0 r i) = -k*at0 r i;rw[Int.neg_mul]) s.neg⟩
 have h3:∀ r:Row,∃ k:Int,r∈B→(0<k∧Span (vecs A) (fun i=>k*at0 r i)):=fun r=>by
  by_cases hr:r∈B
  · obtain⟨k,q⟩:=h2 r hr
    exact⟨k,fun _=>q⟩
  · exact⟨0,fun z=>absurd z hr⟩
 have h4:∃ k:Row→Int,∀ r∈B,0<k r∧Span (vecs A) (fun i=>k r*at0 r i):=⟨fun r=>Classical.choose (h3 r),fun r hr=>Classical.choose_spec (h3 r) hr⟩
 obtain⟨k,hk⟩:=h4
 have:=z2t (zgh k b fun r hr=>(hk r hr).1) a fun x hx=>by
  obtain⟨r,hr,rfl⟩:=List.mem_map.mp hx
  refine Span.congr (fun i=>?_) (hk r hr).2
  show k r*at0 r i=at0 (r.map (k r*·)) i
  unfold at0
  rw[List.getD,List.getD,List.getElem?_map]
  cases r[i]? with
  | none=>exact Int.mul_zero _
  | some x=>rfl
 rwa [List.length_map]at this
structure Mj(n:Nat)(M O T J:List Row):Prop where
 aM:Asc n 0 M
 aO:Asc n 0 O
 aT:Asc n 0 T
 aJ:Asc n 0 J
 met:∀ v,Span (vecs M) v↔Span (vecs O) v∧Span (vecs T) v
 join:∀ v,Span (vecs J) v↔∃ x y:Vec,Span (vecs O) x∧Span (vecs T) y∧∀ k,v k=x k+y k
theorem Mj.inO{n:Nat}{M O T J:List Row}(q:Mj n M O T J){v:Vec}(s:Span (vecs O) v):Span (vecs J) v:=(q.join v).mpr ⟨v,fun _=>0,s,Span.zero,fun k=>(Int.add_zero _).symm⟩
theorem Mj.inT{n:Nat}{M O T J:List Row}(q:Mj n M O T J){v:Vec}(s:Span (vecs T) v):Span (vecs J) v:=(q.join v).mpr ⟨fun _=>0,v,Span.zero,s,fun k=>(Int.zero_add _).symm⟩
theorem z0F{S:List Row}{r:Row}(h:r∈S):Span (vecs S) (vec r):=Span.mem (z4a h)
theorem Mj.len{n:Nat}{M O T J:List Row}(q:Mj n M O T J):M.length<O.length↔T.length<J.length:=by
 have hMO:M.length≤O.length:=z2t q.aM q.aO fun a ha=>((q.met _).mp (z0F ha)).1
 have hTJ:T.length≤J.length:=z2t q.aT q.aJ fun a ha=>q.inT (z0F ha)
 constructor
 · intro h
   by_cases z:T.length<J.length
   · exact z
   · exfalso
     obtain⟨es,r⟩:=z8d q.aT q.aJ (fun a ha=>q.inT (z0F ha)) (by omega)
     have:=z8f q.aM q.aO fun x hx=>⟨(prod es:Int),by have:=z5S r;omega,(q.met _).mpr ⟨(z0F hx).smul _,z8e q.aT q.aJ r (q.inO (z0F hx))⟩⟩
     omega
 · intro h
   by_cases z:M.length<O.length
   · exact z
   · exfalso
     obtain⟨ds,r⟩:=z8d q.aM q.aO (fun a ha=>((q.met _).mp (z0F ha)).1) (by omega)
     have:=z8f q.aT q.aJ fun x hx=>by
      obtain⟨u,w,hu,hw,e⟩:=(q.join _).mp (z0F hx)
      refine⟨(prod ds:Int),by have:=z5S r;omega,Span.congr (fun k=>?_) (((q.met _).mp (z8e q.aM q.aO r hu)).2.add (hw.smul (prod ds:Int)))⟩
      show(prod ds:Int)*u k+(prod ds:Int)*w k=(prod ds:Int)*at0 x k
      rw[←Int.mul_add]
      have:=e k
      rw[←this]
     omega
theorem Mj.prod{n:Nat}{M O T J:List Row}{ds es:List Nat}(q:Mj n M O T J)(r1:Rel M O ds)(r2:Rel T J es):Lat.prod ds=Lat.prod es:=by
 have E1:∀ t:List Int,∃ u,z1a ds t→(z1a es u∧Span (vecs T) (fun k=>mix O t k-mix J u k)):=fun t=>by
   obtain⟨u,h1,h2⟩:=zd4 q.aT q.aJ r2 (q.inO (z4d (R:=O) t))
   exact⟨u,fun _=>⟨h1,h2⟩⟩
 have E2:∀ u:List Int,∃ t,z1a es u→(z1a ds t∧Span (vecs T) (fun k=>mix J u k-mix O t k)):=fun u=>by
   obtain⟨x,y,hx,hy,e⟩:=(q.join _).mp (z4d (R:=J) u)
   obtain⟨t,h1,h2⟩:=zd4 q.aM q.aO r1 hx
   refine⟨t,fun _=>⟨h1,Span.congr (fun k=>?_) (((q.met _).mp h2).2.add hy)⟩⟩
   show x k-mix O t k+y k=mix J u k-mix O t k
   have:=e k
   omega
 refine Nat.le_antisymm (zaF (fun t=>Classical.choose (E1 t)) (fun s t hs ht e=>?_) fun s hs=>(Classical.choose_spec (E1 s) hs).1) (zaF (fun u=>Classical.choose (E2 u)) (fun s t hs ht e=>?_) fun s hs=>(Classical.choose_spec (E2 s) hs).1)
 · have a:=(Classical.choose_spec (E1 s) hs).2
   have b:=(Classical.choose_spec (E1 t) ht).2
   have e:Classical.choose (E1 s)=Classical.choose (E1 t):=e
   rw[←e]at b
   refine zd5 q.aM q.aO r1 hs ht ((q.met _).mpr ⟨(z4d s).sub (z4d t),Span.congr (fun k=>?_) (a.sub b)⟩)
   show mix O s k-mix J _ k-(mix O t k-mix J _ k)=_
   omega
 · have a:=(Classical.choose_spec (E2 s) hs).2
   have b:=(Classical.choose_spec (E2 t) ht).2
   have e:Classical.choose (E2 s)=Classical.choose (E2 t):=e
   rw[←e]at b
   refine zd5 q.aT q.aJ r2 hs ht (Span.congr (fun k=>?_) (a.sub b))
   show mix J s k-mix O _ k-(mix J t k-mix O _ k)=_
   omega
theorem z8g{n:Nat}:∀{A B:List Row} {ds:List Nat} {f g:Nat},Asc n f A→Asc n g B→Rel A B ds→∀ i,i<A.length→(∀ j,j<i→at0 (z0B (A.getD i []) B) j=0)∧at0 (z0B (A.getD i []) B) i=(ds.getD i 0:Nat)
 | [],[],[],_,_,_,_,_,i,hi=>absurd hi (by simp)
 | a::as,b::bs,d::ds,f,g,A,B,⟨h1,h2,h3,h4,h5⟩,0,_=>by
  refine⟨fun j hj=>by omega,?_⟩
  show at0 (z0n a b::_) 0=(d:Int)
  show z0n a b=d
  unfold z0n
  rw[←h1]
  show(hd a).fdiv (hd b)=d
  rw[h3]
  exact Int.mul_fdiv_cancel _ (by have:=B.2.2.2.1;omega)
 | a::as,b::bs,d::ds,f,g,A,B,⟨h1,h2,h3,h4,h5⟩,i+1,hi=>by
  have hi:i<as.length:=by simpa using hi
  obtain⟨q1,q2⟩:=z8g A.2.2.2.2 B.2.2.2.2 h5 i hi
  have hm:as.getD i []∈as:=by rw[List.getD,List.getElem?_eq_getElem hi];exact List.getElem_mem hi
  have e0:(a::as).getD (i+1) []=as.getD i []:=rfl
  rw[e0]
  generalize as.getD i []=x at *
  have hx:=A.2.2.2.2.mem hm
  have o:z0n x b=0:=by
   unfold z0n
   rw[z0e x _ (by omega)]
   exact Int.zero_fdiv _
  have sx:sub x 0 b=x:=by
   refine ext0 (z1D (by rw[hx.1,B.1])) fun k=>?_
   rw[z2s (by rw[hx.1,B.1])];omega
  have ec:z0B x (b::bs)=0::z0B x bs:=by rw[z0B,o,sx]
  rw[ec]
  refine⟨fun j hj=>?_,q2⟩
  cases j with
  | zero=>rfl
  | succ j=>exact q1 j (by omega)
theorem zaI:∀{A B:List Row} {ds:List Nat},Rel A B ds→A.length=B.length∧ds.length=A.length
 | [],[],[],_=>⟨rfl,rfl⟩
 | _::_,_::_,_::_,⟨_,_,_,_,h⟩=>by obtain⟨a,b⟩:=zaI h;simp[a,b]
theorem ziJ:∀{A B:List Row} {ds:List Nat},Rel A B ds→∀ d∈ds,0<d
 | [],[],[],_,d,hd=>by cases hd
 | _::_,_::_,_::_,⟨_,h2,_,_,h⟩,d,hd=>by
  rcases List.mem_cons.mp hd with rfl|hd
  · exact h2
  · exact ziJ h d hd
end St

end
section
set_option Elab.async false
set_option linter.all false
set_option maxRecDepth 100000
set_option maxHeartbeats 1000000
namespace St
open Lat
def metR(n:Nat)(O T:List Row):List Row:=O.map (fun r=>r++r)++T.map (fun r=>r++List.replicate n 0)
theorem z2u{a b:Row}{n k:Nat}(h:a.length=n):at0 (a++b) k=if k<n then at0 a k else at0 b (k-n):=z5N h k
theorem z5T(n k:Nat):at0 (List.replicate n 0) k=0:=by
 unfold at0
 by_cases h:k<n
 · simp[List.getD,h]
 · simp[List.getD,h]
theorem ziK{n:Nat}{O T U:List Row}(hO:∀ r∈O,r.length=n)(hT:∀ r∈T,r.length=n)(A:Asc (n+n) 0 U)(ss:SameSpan (vecs U) (vecs (metR n O T)))(v:Vec):Span (vecs (bots n U)) v↔Span (vecs O) v∧Span (vecs T) v:=by
  have mO:∀ r∈O,r++r∈metR n O T:=fun r hr=>List.mem_append.mpr (.inl (List.mem_map.mpr ⟨r,hr,rfl⟩))
  have mT:∀ r∈T,r++List.replicate n 0∈metR n O T:=fun r hr=>List.mem_append.mpr (.inr (List.mem_map.mpr ⟨r,hr,rfl⟩))
  constructor
  · intro s
    have s1:=(ss.iff).mp (zh9 (n:=n) A s)
    have key:∀ w,Span (vecs (metR n O T)) w→Span (vecs O) (fun k=>w (n+k))∧Span (vecs T) (fun k=>(if k<n then w k else 0)-w (n+k)):=fun w sw=>by
      refine Span.least (P:=fun w=>Span (vecs O) (fun k=>w (n+k))∧Span (vecs T) (fun k=>(if k<n then w k else 0)-w (n+k))) ?_ ?_ ?_ ?_ sw
      · exact⟨Span.zero,Span.congr (fun k=>by simp) Span.zero⟩
      · rintro x y ⟨a1,a2⟩ ⟨b1,b2⟩
        refine⟨a1.add b1,Span.congr (fun k=>?_) (a2.add b2)⟩
        by_cases h:k<n
        · simp only[if_pos h];omega
        · simp only[if_neg h];omega
      · rintro c x ⟨a1,a2⟩
        refine⟨a1.smul c,Span.congr (fun k=>?_) (a2.smul c)⟩
        by_cases h:k<n
        · simp only[if_pos h];rw[Int.mul_sub]
        · simp only[if_neg h];rw[Int.mul_sub,Int.mul_zero]
      · intro g hg
        obtain⟨r,hr,rfl⟩:=List.mem_map.mp hg
        rcases List.mem_append.mp hr with h|h
        · obtain⟨r,hq,rfl⟩:=List.mem_map.mp h
          have l:=hO r hq
          refine⟨Span.congr (fun k=>?_) (z0F hq),Span.congr (fun k=>?_) Span.zero⟩
          · show at0 r k=at0 (r++r) (n+k)
            rw[z2u l,if_neg (by omega),show n+k-n=k by omega]
          · show(0:Int)=(if k<n then at0 (r++r) k else 0)-at0 (r++r) (n+k)
            rw[z2u l,z2u l,if_neg (show ¬n+k<n by omega),show n+k-n=k by omega]
            by_cases h:k<n
            · rw[if_pos h,if_pos h];omega
            · rw[if_neg h,z0O (r:=r) (by omega)];rfl
        · obtain⟨r,hq,rfl⟩:=List.mem_map.mp h
          have l:=hT r hq
          refine⟨Span.congr (fun k=>?_) Span.zero,Span.congr (fun k=>?_) (z0F hq)⟩
          · show(0:Int)=at0 (r++List.replicate n 0) (n+k)
            rw[z2u l,if_neg (by omega),z5T]
          · show at0 r k=(if k<n then at0 (r++List.replicate n 0) k else 0)-at0 (r++List.replicate n 0) (n+k)
            rw[z2u l,z2u l,if_neg (show ¬n+k<n by omega),z5T,z5T]
            by_cases h:k<n
            · rw[if_pos h,if_pos h];omega
            · rw[if_neg h,z0O (r:=r) (by omega)];rfl
    obtain⟨k1,k2⟩:=key _ s1
    refine⟨Span.congr (fun k=>?_) k1,Span.congr (fun k=>?_) k2.neg⟩
    · show(if n+k<n then(0:Int) else v (n+k-n))=v k
      rw[if_neg (by omega),show n+k-n=k by omega]
    · show -((if k<n then(if k<n then(0:Int) else v (k-n)) else 0)-(if n+k<n then(0:Int) else v (n+k-n)))=v k
      rw[if_neg (show ¬n+k<n by omega),show n+k-n=k by omega]
      by_cases h:k<n
      · rw[if_pos h,if_pos h];omega
      · rw[if_neg h];omega
  · rintro⟨s1,s2⟩
    have k1:Span (vecs (metR n O T)) (fun k=>if k<n then v k else v (k-n)):=by
      refine Span.least (P:=fun v=>Span (vecs (metR n O T)) (fun k=>if k<n then v k else v (k-n))) ?_ ?_ ?_ ?_ s1
      · exact Span.congr (fun k=>by simp) Span.zero
      · intro x y a b
        refine Span.congr (fun k=>?_) (a.add b)
        by_cases h:k<n
        · simp only[if_pos h]
        · simp only[if_neg h]
      · intro c x a
        refine Span.congr (fun k=>?_) (a.smul c)
        by_cases h:k<n
        · simp only[if_pos h]
        · simp only[if_neg h]
      · intro g hg
        obtain⟨r,hr,rfl⟩:=List.mem_map.mp hg
        refine Span.congr (fun k=>?_) (z0F (mO r hr))
        exact z2u (hO r hr)
    have k2:Span (vecs (metR n O T)) (fun k=>if k<n then v k else 0):=by
      refine Span.least (P:=fun v=>Span (vecs (metR n O T)) (fun k=>if k<n then v k else 0)) ?_ ?_ ?_ ?_ s2
      · exact Span.congr (fun k=>by simp) Span.zero
      · intro x y a b
        refine Span.congr (fun k=>?_) (a.add b)
        by_cases h:k<n
        · simp only[if_pos h]
        · simp only[if_neg h];rfl
      · intro c x a
        refine Span.congr (fun k=>?_) (a.smul c)
        by_cases h:k<n
        · simp only[if_pos h]
        · simp only[if_neg h];omega
      · intro g hg
        obtain⟨r,hr,rfl⟩:=List.mem_map.mp hg
        refine Span.congr (fun k=>?_) (z0F (mT r hr))
        show at0 (r++List.replicate n 0) k=_
        rw[z2u (hT r hr),z5T]
    have k3:=(ss.iff).mpr (k1.sub k2)
    refine Span.congr (fun k=>?_) (zh8 (n:=n) A k3 fun k hk=>?_)
    · show(if n+k<n then v (n+k) else v (n+k-n))-(if n+k<n then v (n+k) else 0)=v k
      rw[if_neg (by omega),if_neg (by omega),show n+k-n=k by omega];omega
    · show(if k<n then v k else v (k-n))-(if k<n then v k else 0)=0
      rw[if_pos hk,if_pos hk];omega
theorem zhb{A B:List Row}(v:Vec):Span (vecs (A++B)) v↔∃ x y:Vec,Span (vecs A) x∧Span (vecs B) y∧∀ k,v k=x k+y k:=by
 constructor
 · intro s
   refine Span.least (P:=fun v=>∃ x y:Vec,Span (vecs A) x∧Span (vecs B) y∧∀ k,v k=x k+y k) ?_ ?_ ?_ ?_ s
   · exact⟨_,_,Span.zero,Span.zero,fun k=>rfl⟩
   · rintro v w ⟨x,y,a,b,e⟩ ⟨x',y',a',b',e'⟩
     exact⟨_,_,a.add a',b.add b',fun k=>by show v k+w k=_;rw[e,e'];omega⟩
   · rintro c v ⟨x,y,a,b,e⟩
     exact⟨_,_,a.smul c,b.smul c,fun k=>by show c*v k=_;rw[e,Int.mul_add]⟩
   · intro g hg
     obtain⟨r,hr,rfl⟩:=List.mem_map.mp hg
     rcases List.mem_append.mp hr with h|h
     · exact⟨_,_,z0F h,Span.zero,fun k=>(Int.add_zero _).symm⟩
     · exact⟨_,_,Span.zero,z0F h,fun k=>(Int.zero_add _).symm⟩
 · rintro⟨x,y,a,b,e⟩
   exact Span.congr (fun k=>(e k).symm) ((z9K a fun r hr=>List.mem_append.mpr (.inl hr)).add (z9K b fun r hr=>List.mem_append.mpr (.inr hr)))
end St

end
section
set_option linter.all false
set_option maxRecDepth 100000
namespace St
open Lat
def sm:Nat→(Nat→Int)→Int
 | 0,_=>0
 | m+1,f=>f 0+sm m (fun k=>f (k+1))
theorem z0r:∀{m:Nat} {f g:Nat→Int},(∀ k,k<m→f k=g k)→sm m f=sm m g
 | 0,_,_,_=>rfl
 | m+1,f,g,h=>by rw[sm,sm,h 0 (by omega),z0r fun k hk=>h (k+1) (by omega)]
theorem z0E{m:Nat}{f:Nat→Int}(h:∀ k,k<m→f k=0):sm m f=0:=by
 rw[z0r h]
 induction m with
 | zero=>rfl
 | succ m ih=>rw[sm,ih fun k hk=>h k (by omega)];rfl
theorem z8h:∀(m:Nat) (f g:Nat→Int),sm m (fun k=>f k+g k)=sm m f+sm m g
 | 0,_,_=>rfl
 | m+1,f,g=>by rw[sm,sm,sm,z8h m];omega
theorem z3J(c:Int):∀(m:Nat) (f:Nat→Int),sm m (fun k=>c*f k)=c*sm m f
 | 0,_=>by simp[sm]
 | m+1,f=>by rw[sm,sm,z3J c m,Int.mul_add]
theorem zaJ(c:Int)(m:Nat)(f:Nat→Int):sm m (fun k=>f k*c)=sm m f*c:=by
 rw[Int.mul_comm,←z3J];exact z0r fun k _=>Int.mul_comm _ _
theorem zd6(m:Nat)(f g:Nat→Int):sm m (fun k=>f k-g k)=sm m f-sm m g:=by
 have:=z8h m f (fun k=>(-1)*g k)
 rw[z3J]at this
 rw[z0r (g:=fun k=>f k+(-1)*g k) fun k _=>by omega,this];omega
theorem z7w:∀(m p:Nat) (f:Nat→Nat→Int),sm m (fun i=>sm p (fun j=>f i j))=sm p (fun j=>sm m (fun i=>f i j))
 | 0,p,f=>by rw[sm];exact(z0E fun k _=>rfl).symm
 | m+1,p,f=>by rw[sm,z7w m p,←z8h];rfl
theorem z3e:∀{m i:Nat} {f:Nat→Int},i<m→(∀ k,k<m→k≠i→f k=0)→sm m f=f i
 | m+1,0,f,_,z=>by rw[sm,z0E fun k hk=>z (k+1) (by omega) (by omega)];omega
 | m+1,i+1,f,h,z=>by rw[sm,z 0 (by omega) (by omega),z3e (i:=i) (by omega) fun k hk hn=>z (k+1) (by omega) (by omega)];omega
def ent(A:List Row)(i j:Nat):Int:=at0 (A.getD i []) j
theorem zlY(k:Nat):at0 [] k=0:=by simp[at0]
theorem z0X{A:List Row}{i:Nat}(h:A.length≤i)(j:Nat):ent A i j=0:=by
 unfold ent;rw[show A.getD i []=[] by simp[List.getD,List.getElem?_eq_none h],zlY]
theorem zaK{A:List Row}{m i j:Nat}(hl:∀ r∈A,r.length=m)(h:m≤j):ent A i j=0:=by
 by_cases hi:i<A.length
 · unfold ent;exact z0O (by rw[hl _ (z3I hi)];exact h)
 · exact z0X (by omega) j
theorem zbR(r:Row)(A:List Row)(i j:Nat):ent (r::A) (i+1) j=ent A i j:=rfl
theorem z1q:∀{A:List Row} {v:Vec},Span (vecs A) v↔∃ c:Nat→Int,∀ k,v k=sm A.length (fun i=>c i*ent A i k)
 | [],v=>⟨fun h=>⟨fun _=>0,h⟩,fun⟨_,h⟩=>h⟩
 | r::A,v=>by
  constructor
  · rintro⟨c0,h⟩
    obtain⟨c,h⟩:=z1q.mp h
    refine⟨fun i=>match i with|0=>c0|i+1=>c i,fun k=>?_⟩
    have:v k-c0*at0 r k=sm A.length (fun i=>c i*ent A i k):=h k
    rw[List.length_cons,sm]
    show v k=c0*at0 r k+sm A.length (fun i=>c i*ent A i k)
    omega
  · rintro⟨c,h⟩
    refine⟨c 0,z1q.mpr ⟨fun i=>c (i+1),fun k=>?_⟩⟩
    have:=h k
    rw[List.length_cons,sm]at this
    show v k-c 0*at0 r k=sm A.length (fun i=>c (i+1)*ent A i k)
    have e:ent (r::A) 0 k=at0 r k:=rfl
    rw[e]at this
    simp only[zbR]at this
    omega
theorem z4g{A:List Row}{i:Nat}(h:i<A.length):Span (vecs A) (fun k=>ent A i k):=z0d (z3I h)
def trn(m:Nat)(A:List Row):List Row:=(List.range m).map fun k=>A.map fun r=>at0 r k
theorem z36(m:Nat)(A:List Row):(trn m A).length=m:=by simp[trn]
theorem z5U{m:Nat}{A:List Row}{r:Row}(h:r∈trn m A):r.length=A.length:=by
 obtain⟨k,_,rfl⟩:=List.mem_map.mp h;simp
theorem ziL(m:Nat)(A:List Row)(k i:Nat):ent (trn m A) k i=if k<m then ent A i k else 0:=by
 by_cases h:k<m
 · rw[if_pos h]
   unfold ent trn at0
   rw[show((List.range m).map fun k=>A.map fun r=>r.getD k 0).getD k []=A.map fun r=>r.getD k 0 by simp[List.getD,h]]
   by_cases hi:i<A.length
   · simp[List.getD,List.getElem?_eq_getElem hi]
   · simp[List.getD,List.getElem?_eq_none (Nat.le_of_not_lt hi)]
 · rw[if_neg h,z0X (by rw[z36];omega)]
theorem z2v{m:Nat}{A:List Row}(hl:∀ r∈A,r.length=m)(k i:Nat):ent (trn m A) k i=ent A i k:=by
 rw[ziL];split
 · rfl
 · exact(zaK hl (by omega)).symm
theorem zlZ{A B:List Row}{m:Nat}(h:A.length=B.length)(ha:∀ r∈A,r.length=m)(hb:∀ r∈B,r.length=m)(q:∀ i k,ent A i k=ent B i k):A=B:=by
 refine List.ext_getElem h fun i h1 h2=>?_
 have e1:A.getD i []=A[i]:=by simp[List.getD,List.getElem?_eq_getElem h1]
 have e2:B.getD i []=B[i]:=by simp[List.getD,List.getElem?_eq_getElem h2]
 refine ext0 (by rw[ha _ (List.getElem_mem h1),hb _ (List.getElem_mem h2)]) fun k=>?_
 have:=q i k
 unfold ent at this
 rw[e1,e2]at this;exact this
theorem zm{m p:Nat}{A:List Row}(hl:∀ r∈A,r.length=m)(hp:A.length=p):trn p (trn m A)=A:=by
 refine zlZ (m:=m) (by rw[z36,hp]) (fun r hr=>by rw[z5U hr,z36]) hl fun i k=>?_
 rw[z2v (fun r hr=>by rw[z5U hr,hp]),z2v hl]
structure Sq(r:Nat)(A:List Row):Prop where
 asc:Asc r 0 A
 form:Form 0 (z0v A)
 len:A.length=r
theorem z9L{n:Nat}:∀{f:Nat} {S:List Row} {i:Nat},Asc n f S→i<S.length→f+i≤z00 (S.getD i [])∧z00 (S.getD i [])+(S.length-i)≤n
 | f,r::S,0,⟨h1,h2,h3,h4,h5⟩,_=>by
  have:=z7v h5 (by omega)
  show f+0≤z00 r∧z00 r+(S.length+1-0)≤n
  omega
 | f,r::S,i+1,⟨h1,h2,h3,h4,h5⟩,h=>by
  obtain⟨a,b⟩:=z9L (i:=i) h5 (by simpa using h)
  have e:(r::S).getD (i+1) []=S.getD i []:=rfl
  rw[e,List.length_cons]
  omega
variable {r:Nat}{A:List Row}
theorem Sq.rows(q:Sq r A):∀ x∈A,x.length=r:=fun x hx=>(q.asc.mem hx).1
theorem Sq.head(q:Sq r A){i:Nat}(hi:i<r):z00 (A.getD i [])=i:=by
 have:=z9L q.asc (i:=i) (by rw[q.len];exact hi)
 have:=q.len
 omega
theorem Sq.pos(q:Sq r A){i:Nat}(hi:i<r):0<ent A i i:=by
 have:=(zaH q.asc (k:=i) (by rw[q.len];exact hi)).2.2.2
 unfold hd at this
 rw[q.head hi]at this
 exact this
theorem Sq.low(q:Sq r A){i j:Nat}(h:j<i):ent A i j=0:=by
 by_cases hi:i<r
 · exact z0e _ _ (by rw[q.head hi];exact h)
 · exact z0X (by rw[q.len];omega) j
theorem Sq.far(q:Sq r A){i j:Nat}(h:r≤j):ent A i j=0:=zaK q.rows h
theorem zaL{n:Nat}:∀{f:Nat} {S:List Row} {v:Vec} {x:Row},Asc n f S→Span (vecs S) v→(∀ k,k<z00 x→v k=0)→x∈S→hd x∣v (z00 x)
 | f,r::S,v,x,A,⟨c,s⟩,z,hx=>by
  have e:=A.coef s
  rcases List.mem_cons.mp hx with rfl|hx
  · exact⟨c,by rw[e];exact Int.mul_comm _ _⟩
  · have hh:=(A.2.2.2.2.mem hx).2.1
    have e0:=z (z00 r) (by omega)
    have hp:=A.2.2.2.1
    have hc:c=0:=by
     rw[e0]at e
     rcases Int.mul_eq_zero.mp e.symm with h|h
     · exact h
     · omega
    subst hc
    exact zaL A.2.2.2.2 (Span.congr (fun k=>by simp) s) z hx
theorem Sq.dvd(q:Sq r A){v:Vec}{i:Nat}(hi:i<r)(s:Span (vecs A) v)(z:∀ k,k<i→v k=0):ent A i i∣v i:=by
 have h:=zaL q.asc s (x:=A.getD i []) (fun k hk=>z k (by rw[q.head hi]at hk;exact hk)) (z3I (by rw[q.len];exact hi))
 unfold hd at h
 rw[q.head hi]at h
 exact h
abbrev pt(i:Nat)(d:Int):Vec:=fun k=>if k=i then d else 0
def Clean(t:Nat)(A:List Row):Prop:=∀ i,i<t→∀ k,k≠i→ent A i k=0
theorem z2S{y:Vec}(hl:∀ x∈A,x.length=r):Span (vecs (trn r A)) y↔∃ c:Nat→Int,∀ k,y k=sm r (fun j=>c j*ent A k j):=by
 rw[z1q]
 simp only[z36,z2v hl]
theorem Clean.dvd(q:Sq r A){t i:Nat}(c:Clean t A)(hi:i<t){y:Vec}(s:Span (vecs (trn r A)) y):ent A i i∣y i:=by
 by_cases hr:i<r
 · obtain⟨c',h⟩:=(z2S q.rows).mp s
   rw[h i,z3e hr fun k _ hn=>by rw[c i hi k hn];simp]
   exact⟨c' i,Int.mul_comm _ _⟩
 · rw[q.far (by omega)]
   obtain⟨c',h⟩:=(z2S q.rows).mp s
   rw[h i,z0E fun k hk=>by rw[c i hi k (by omega)];simp]
   exact⟨0,rfl⟩
def z3K(r:Nat)(w:Int)(A:List Row):Prop:=∀ i,i<r→Span (vecs A) (pt i w)
theorem Sq.comm(q:Sq r A){w:Int}(h:z3K r w A):z3K r w (trn r A):=by
 have hM:∃ M:Nat→Nat→Int,∀ i,i<r→∀ k,pt i w k=sm r (fun j=>M i j*ent A j k):=by
   have:∀ i,∃ c:Nat→Int,i<r→∀ k,pt i w k=sm r (fun j=>c j*ent A j k):=fun i=>by
     by_cases hi:i<r
     · obtain⟨c,hc⟩:=z1q.mp (h i hi)
       rw[q.len]at hc
       exact⟨c,fun _=>hc⟩
     · exact⟨fun _=>0,fun h=>absurd h hi⟩
   exact⟨fun i=>Classical.choose (this i),fun i hi=>Classical.choose_spec (this i) hi⟩
 obtain⟨M,hM⟩:=hM
 have indep:∀ z:Nat→Int,(∀ k,k<r→sm r (fun j=>z j*ent A j k)=0)→∀ j,j<r→z j=0:=fun z hz j=>by
   induction j using Nat.strongRecOn with
   | ind j ih =>
     intro hj
     have e:=hz j hj
     rw[z3e hj fun k hk hn=>?_]at e
     · rcases Int.mul_eq_zero.mp e with h|h
       · exact h
       · have:=q.pos hj;omega
     · rcases Nat.lt_or_gt_of_ne hn with h|h
       · rw[ih k h hk];simp
       · rw[q.low h];simp
 intro i hi
 refine(z2S q.rows).mpr ⟨fun j=>M j i,fun k=>?_⟩
 by_cases hk:k<r
 · have:=indep (fun i=>sm r (fun j=>M j i*ent A k j)-pt i w k) (fun m hm=>?_) i hi
   · have hs:pt i w k=pt k w i:=by simp only[pt];split<;>split<;>first|rfl|omega
     show pt i w k=sm r (fun j=>M j i*ent A k j)
     rw[hs]
     have this:sm r (fun j=>M j i*ent A k j)-pt i w k=0:=this
     omega
   · rw[z0r (g:=fun i=>sm r (fun j=>(ent A k j*(M j i*ent A i m)))-pt i w k*ent A i m) fun i _=>?_]
     · rw[zd6,z7w,z0r (g:=fun j=>ent A k j*pt j w m) fun j hj=>?_]
       · rw[z3e (i:=m) hm fun j _ hn=>by simp only[pt];rw[if_neg (by omega)];simp]
         rw[z3e (i:=k) hk fun j _ hn=>by simp only[pt];rw[if_neg (by omega)];simp]
         simp only[pt,if_true]
         rw[Int.mul_comm];omega
       · rw[z3J,←hM j hj m]
     · rw[Int.sub_mul,←zaJ]
       congr 1
       exact z0r fun j _=>by rw[Int.mul_comm (M j i),Int.mul_assoc]
 · have:pt i w k=0:=by simp only[pt];rw[if_neg (by omega)]
   rw[show(pt i w) k=0 from this,z0E fun j _=>by rw[z0X (A:=A) (i:=k) (by rw[q.len];omega)];simp]
theorem Sq.whole(q:Sq r A){w:Int}(h:z3K r w A){i:Nat}(hi:i<r):ent A i i∣w:=by
 have:=q.dvd hi (h i hi) fun k hk=>by simp[pt];omega
 simpa[pt]using this
end St

end
section
set_option linter.all false
set_option maxRecDepth 100000
namespace St
open Lat
theorem ziM:∀{m k:Nat} {f:Nat→Int},k≤m→(∀ i,k≤i→i<m→f i=0)→sm m f=sm k f
 | m,0,f,_,z=>z0E fun i hi=>z i (Nat.zero_le _) hi
 | m+1,k+1,f,h,z=>by rw[sm,sm,ziM (k:=k) (by omega) fun i h1 h2=>z (i+1) (by omega) (by omega)]
theorem z8i{m a:Nat}{c:Nat→Int}{D:Nat→Nat→Int}(hd:∀ l,l<m→D l l≠0)(hl:∀ l j,l<j→j<m→D l j=0)(h:∀ j,a≤j→j<m→sm m (fun l=>c l*D l j)=0):
  ∀ d l,l+d=m→a≤l→l<m→c l=0:=fun d=>by
 induction d using Nat.strongRecOn with
 | ind d ih =>
  intro l e ha hm
  have q:=h l ha hm
  rw[z3e hm fun k hk hn=>?_]at q
  · rcases Int.mul_eq_zero.mp q with q|q
    · exact q
    · exact absurd q (hd l hm)
  · rcases Nat.lt_or_gt_of_ne hn with x|x
    · rw[hl k l x hm];simp
    · rw[ih (m-k) (by omega) k (by omega) (by omega) hk];simp
theorem z8j{P:List Row}{k i:Nat}(h:i<k)(j:Nat):ent (P.take k) i j=ent P i j:=by
 unfold ent;congr 1;simp[List.getD,List.getElem?_take,h]
structure Below(r N:Nat)(w:Int)(P:List Row):Prop where
 len:P.length=r
 wid:r≤N
 rows:∀ x∈P,x.length=N
 pos:∀ i,i<r→ent P i i≠0
 low:∀ i j,i<j→j<r→ent P i j=0
 whole:∀ i,i<r→∃ v:Vec,Span (vecs P) v∧v i=w∧∀ k,k<r→k≠i→v k=0
theorem Below.heads{r N:Nat}{w:Int}{P S:List Row}(B:Below r N w P){k:Nat}(hk:k≤r)(A:Asc N 0 S)(s:SameSpan (vecs S) (vecs (P.take k))){x:Row}(hx:x∈S):z00 x<k∧hd x∣w:=by
 have kl:(P.take k).length=k:=by rw[List.length_take,B.len];omega
 obtain⟨c,hc⟩:=z1q.mp (s.iff.mp (z0d hx))
 rw[kl]at hc
 have hh:z00 x<k:=by
  refine Nat.lt_of_not_le fun hge=>?_
  have z:=z8i (m:=k) (a:=0) (c:=c) (D:=fun l j=>ent P l j) (fun l hl=>B.pos l (by omega)) (fun l j h1 h2=>B.low l j h1 (by omega)) (fun j _ hj=>by
   have:=hc j
   rw[z0r (g:=fun l=>c l*ent P l j) fun l hl=>by rw[z8j hl]]at this
   rw[←this]
   exact z0e x j (by omega))
  have:=(A.mem hx).2.2.2
  unfold hd at this
  have e:=hc (z00 x)
  rw[z0E fun l hl=>by rw[z (k-l) l (by omega) (by omega) hl];simp]at e
  omega
 refine⟨hh,?_⟩
 obtain⟨v,v1,v2,v3⟩:=B.whole (z00 x) (by omega)
 obtain⟨d,hd'⟩:=z1q.mp v1
 rw[B.len]at hd'
 have z:=z8i (m:=r) (a:=z00 x+1) (c:=d) (D:=fun l j=>ent P l j) B.pos B.low fun j h1 h2=>by rw[←hd' j];exact v3 j h2 (by omega)
 have sv:Span (vecs S) v:=s.iff.mpr (z1q.mpr ⟨d,fun j=>by
  rw[hd' j,kl,ziM hk fun i h1 h2=>by rw[z (r-i) i (by omega) (by omega) h2];simp]
  exact z0r fun l hl=>by rw[z8j hl]⟩)
 have:=zaL A sv (x:=x) (fun j hj=>v3 j (by omega) (by omega)) hx
 rw[v2]at this
 exact this
structure Lin(F:Vec→Int):Prop where
 add:∀ u v:Vec,F (fun k=>u k+v k)=F u+F v
 smul:∀(c:Int) (u:Vec),F (fun k=>c*u k)=c*F u
theorem Lin.zero{F:Vec→Int}(h:Lin F):F (fun _=>0)=0:=by
 have:=h.smul 0 (fun _=>0);simpa using this
theorem Lin.sum{F:Vec→Int}(h:Lin F):∀(m:Nat) (c:Nat→Int) (R:Nat→Vec),F (fun k=>sm m (fun i=>c i*R i k))=sm m (fun i=>c i*F (R i))
 | 0,_,_=>h.zero
 | m+1,c,R=>by
  have:=h.sum m (fun i=>c (i+1)) (fun i=>R (i+1))
  rw[sm,←this,←h.smul,←h.add];rfl
theorem Lin.span{F:Vec→Int}(h:Lin F){P:List Row}{v:Vec}(z:∀ l,l<P.length→F (fun k=>ent P l k)=0)(s:Span (vecs P) v):F v=0:=by
 obtain⟨c,hc⟩:=z1q.mp s
 rw[show v=fun k=>sm P.length (fun i=>c i*ent P i k)from funext hc,h.sum]
 exact z0E fun i hi=>by rw[z i hi];simp
theorem z9M{N:Nat}:∀{f:Nat} {S:List Row} {z:Nat→Int},Asc N f S→(∀ k,sm S.length (fun i=>z i*ent S i k)=0)→∀ i,i<S.length→z i=0
 | f,r::S,z,A,h,i,hi=>by
  have e:=h (z00 r)
  rw[List.length_cons,sm,z0E fun k hk=>?_]at e
  · have z0:z 0=0:=by
     have p:=A.2.2.2.1
     have e:z 0*hd r+0=0:=e
     rcases Int.mul_eq_zero.mp (show z 0*hd r=0 by omega)with q|q
     · exact q
     · omega
    match i,hi with
    | 0,_=>exact z0
    | i+1,hi =>
     refine z9M (z:=fun i=>z (i+1)) A.2.2.2.2 (fun k=>?_) i (by simpa using hi)
     have e:=h k
     rw[List.length_cons,sm,z0]at e
     have e:0*ent (r::S) 0 k+sm S.length (fun i=>z (i+1)*ent S i k)=0:=e
     omega
  · rw[zbR]
    have:=(A.2.2.2.2.mem (z3I hk)).2.1
    rw[show ent S k (z00 r)=0 from z0e _ _ (by omega)];simp
theorem lift{N:Nat}{P S:List Row}(s:SameSpan (vecs P) (vecs S))(A:Asc N 0 S)(ζ:Nat→Int):
  ∃ z:Nat→Int,∀ F,Lin F→(∀ l,l<P.length→F (fun k=>ent P l k)=z l)→∀ i,i<S.length→F (fun k=>ent S i k)=ζ i:=by
 have hU:∀ i,∃ c:Nat→Int,i<S.length→∀ k,ent S i k=sm P.length (fun l=>c l*ent P l k):=fun i=>by
  by_cases hi:i<S.length
  · obtain⟨c,hc⟩:=z1q.mp (s.iff.mpr (z4g hi));exact⟨c,fun _=>hc⟩
  · exact⟨fun _=>0,fun h=>absurd h hi⟩
 have hV:∀ i,∃ c:Nat→Int,i<P.length→∀ k,ent P i k=sm S.length (fun l=>c l*ent S l k):=fun i=>by
  by_cases hi:i<P.length
  · obtain⟨c,hc⟩:=z1q.mp (s.iff.mp (z4g hi));exact⟨c,fun _=>hc⟩
  · exact⟨fun _=>0,fun h=>absurd h hi⟩
 obtain⟨U,hU⟩:∃ U:Nat→Nat→Int,∀ i,i<S.length→∀ k,ent S i k=sm P.length (fun l=>U i l*ent P l k):=⟨fun i=>Classical.choose (hU i),fun i=>Classical.choose_spec (hU i)⟩
 obtain⟨V,hV⟩:∃ V:Nat→Nat→Int,∀ i,i<P.length→∀ k,ent P i k=sm S.length (fun l=>V i l*ent S l k):=⟨fun i=>Classical.choose (hV i),fun i=>Classical.choose_spec (hV i)⟩
 have key:∀ i,i<S.length→∀ m,m<S.length→sm P.length (fun l=>U i l*V l m)=if m=i then 1 else 0:=fun i hi m hm=>by
  have:=z9M (z:=fun m=>sm P.length (fun l=>U i l*V l m)-if m=i then 1 else 0) A (fun k=>?_) m hm
  · have this:sm P.length (fun l=>U i l*V l m)-(if m=i then 1 else 0)=0:=this
    omega
  · rw[z0r (g:=fun m=>sm P.length (fun l=>U i l*(V l m*ent S m k))-(if m=i then 1 else 0)*ent S m k) fun m _=>?_]
    · rw[zd6,z7w,z0r (g:=fun l=>U i l*ent P l k) fun l hl=>by rw[z3J,←hV l hl k],←hU i hi k,z3e hi fun m _ hn=>by rw[if_neg hn];simp]
      simp
    · rw[Int.sub_mul,←zaJ]
      congr 1
      exact z0r fun l _=>by rw[Int.mul_assoc]
 refine⟨fun l=>sm S.length (fun m=>V l m*ζ m),fun F h hF i hi=>?_⟩
 rw[show(fun k=>ent S i k)=fun k=>sm P.length (fun l=>U i l*ent P l k)from funext (hU i hi),h.sum P.length (U i) (fun l k=>ent P l k)]
 rw[z0r (g:=fun l=>sm S.length (fun m=>U i l*V l m*ζ m)) fun l hl=>by rw[hF l hl,←z3J];exact z0r fun m _=>(Int.mul_assoc _ _ _).symm]
 rw[z7w,z0r (g:=fun m=>(if m=i then 1 else 0)*ζ m) fun m hm=>by rw[zaJ,key i hi m hm],z3e hi fun m _ hn=>by rw[if_neg hn];simp]
 simp
def fun_(r n:Nat)(c b v:Vec):Int:=sm n (fun k=>v (r+k)*b k)-sm r (fun j=>c j*v j)
theorem z7x(r n:Nat)(c b:Vec):Lin (fun_ r n c b) where
 add u v:=by
  unfold fun_
  rw[z0r (g:=fun k=>u (r+k)*b k+v (r+k)*b k) fun k _=>Int.add_mul _ _ _,z8h,z0r (m:=r) (g:=fun j=>c j*u j+c j*v j) fun k _=>Int.mul_add _ _ _,z8h]
  omega
 smul a u:=by
  unfold fun_
  rw[z0r (g:=fun k=>a*(u (r+k)*b k)) fun k _=>Int.mul_assoc _ _ _,z3J,z0r (m:=r) (g:=fun j=>a*(c j*u j)) fun k _=>by rw[←Int.mul_assoc,Int.mul_comm (c k),Int.mul_assoc],z3J,Int.mul_sub]
def EqP(r n:Nat)(P:List Row)(b:Vec):Prop:=∃ c:Vec,∀ l,l<P.length→fun_ r n c b (fun k=>ent P l k)=0
theorem EqP.same{r n:Nat}{P S:List Row}{b:Vec}(s:SameSpan (vecs P) (vecs S)):EqP r n P b↔EqP r n S b :=
 ⟨fun⟨c,h⟩=>⟨c,fun l hl=>(z7x r n c b).span h (s.iff.mpr (z4g hl))⟩,fun⟨c,h⟩=>⟨c,fun l hl=>(z7x r n c b).span h (s.iff.mp (z4g hl))⟩⟩
end St

end
section
set_option linter.all false
set_option maxRecDepth 100000
namespace St
open Lat
def wts(n:Nat)(W:List Row)(b:Vec):Vec:=fun i=>sm n (fun k=>ent W i k*b k)
def pair(A W:List Row):List Row:=List.zipWith (·++·) A W
theorem z4h{A W:List Row}(h:A.length=W.length):(pair A W).length=A.length:=by unfold pair;rw[List.length_zipWith];omega
theorem ziN{A W:List Row}{i:Nat}(h:i<A.length)(h':i<W.length):(pair A W).getD i []=A.getD i []++W.getD i []:=by
 simp[pair,List.getD,List.getElem?_zipWith,List.getElem?_eq_getElem h,List.getElem?_eq_getElem h']
theorem zbS{r n:Nat}{A W:List Row}(ha:∀ x∈A,x.length=r){i:Nat}(h:i<A.length)(h':i<W.length)(k:Nat):ent (pair A W) i k=if k<r then ent A i k else ent W i (k-r):=by
 unfold ent;rw[ziN h h',z5N (ha _ (z3I h))]
theorem z4i{r n:Nat}{A W:List Row}{b:Vec}(ha:∀ x∈A,x.length=r)(hl:A.length=W.length)(c:Vec)(l:Nat)(h:l<A.length):fun_ r n c b (fun k=>ent (pair A W) l k)=wts n W b l-sm r (fun j=>c j*ent A l j):=by
 unfold fun_ wts
 rw[z0r (g:=fun k=>ent W l k*b k) fun k _=>by show ent (pair A W) l (r+k)*b k=_;rw[zbS (n:=n) ha h (by omega),if_neg (by omega),show r+k-r=k by omega]]
 rw[z0r (m:=r) (g:=fun j=>c j*ent A l j) fun j hj=>by show c j*ent (pair A W) l j=_;rw[zbS (n:=n) ha h (by omega),if_pos hj]]
theorem zgi{r n:Nat}{A W:List Row}{b:Vec}(ha:∀ x∈A,x.length=r)(hl:A.length=W.length):EqP r n (pair A W) b↔Span (vecs (trn r A)) (wts n W b):=by
 rw[z2S ha]
 have e:=z4i (r:=r) (n:=n) (b:=b) ha hl
 constructor
 · rintro⟨c,h⟩
   refine⟨c,fun k=>?_⟩
   by_cases hk:k<A.length
   · have:=h k (by rw[z4h hl];exact hk)
     rw[e c k hk]at this;omega
   · rw[show wts n W b k=0 from z0E fun j _=>by rw[z0X (by omega)];simp]
     exact(z0E fun j _=>by rw[z0X (by omega)];simp).symm
 · rintro⟨c,h⟩
   refine⟨c,fun l hl'=>?_⟩
   rw[z4h hl]at hl'
   rw[e c l hl',h l];omega
theorem zd7{r:Nat}{w:Int}{B:List Row}(h:z3K r w B){u:Vec}(hu:∀ k,r≤k→u k=0):Span (vecs B) (fun k=>w*u k):=by
 have key:∀ m,m≤r→Span (vecs B) (fun k=>if k<m then w*u k else 0):=fun m=>by
   induction m with
   | zero=>intro _;exact Span.congr (fun k=>by simp) Span.zero
   | succ m ih =>
    intro hm
    refine Span.congr (fun k=>?_) ((ih (by omega)).add ((h m (by omega)).smul (u m)))
    by_cases e:k=m
    · subst e;rw[if_neg (by omega),if_pos (by omega)];simp[pt,Int.mul_comm]
    · simp only[pt,if_neg e]
      by_cases q:k<m
      · rw[if_pos q,if_pos (by omega)];simp
      · rw[if_neg q,if_neg (by omega)];simp
 refine Span.congr (fun k=>?_) (key r (Nat.le_refl _))
 by_cases q:k<r
 · rw[if_pos q]
 · rw[if_neg q,hu k (by omega)];simp
theorem zhc{r:Nat}{P:List Row}{v:Vec}(s:Span (vecs P) v):Span (vecs (P.map (·.take r))) (fun k=>if k<r then v k else 0):=by
 obtain⟨c,h⟩:=z1q.mp s
 refine z1q.mpr ⟨c,fun k=>?_⟩
 have e:∀ i,ent (P.map (·.take r)) i k=if k<r then ent P i k else 0:=fun i=>by
   by_cases hi:i<P.length
   · unfold ent
     rw[show(P.map (·.take r)).getD i []=(P.getD i []).take r by simp[List.getD,List.getElem?_eq_getElem hi],z1A]
   · rw[z0X (by simpa using Nat.le_of_not_lt hi),z0X (by omega)];simp
 rw[List.length_map]
 by_cases hk:k<r
 · rw[if_pos hk,h k];exact z0r fun i _=>by rw[e,if_pos hk]
 · rw[if_neg hk];exact(z0E fun i _=>by rw[e,if_neg hk];simp).symm
theorem z9N{r:Nat}{P S:List Row}(s:SameSpan (vecs P) (vecs S)):SameSpan (vecs (P.map (·.take r))) (vecs (S.map (·.take r))):=by
 have one:∀{P S:List Row},SameSpan (vecs P) (vecs S)→∀ x∈P.map (·.take r),Span (vecs (S.map (·.take r))) (fun k=>at0 x k):=fun{P S} s x hx=>by
  obtain⟨y,hy,rfl⟩:=List.mem_map.mp hx
  exact Span.congr (fun k=>by rw[z1A]) (zhc (r:=r) (s.iff.mp (z0d hy)))
 exact z3H (one s) (one s.symm)
theorem z9O{r:Nat}{A W:List Row}(ha:∀ x∈A,x.length=r)(hl:A.length=W.length):(pair A W).map (·.take r)=A:=by
 refine List.ext_getElem (by rw[List.length_map,z4h hl]) fun i h1 h2=>?_
 simp only[pair,List.getElem_map,List.getElem_zipWith]
 rw[List.take_left' (ha _ (List.getElem_mem _))]
theorem zbT{r:Nat}(S:List Row):pair (S.map (·.take r)) (S.map (·.drop r))=S:=by
 induction S with
 | nil=>rfl
 | cons x S ih=>show(x.take r++x.drop r)::_=_;rw[List.take_append_drop];congr 1
theorem ziO{r N:Nat}{S:List Row}(h:∀ x∈S,z00 x<r):tops r S=S.map (·.take r):=by
 unfold tops;congr 1;exact List.filter_eq_self.mpr fun x hx=>decide_eq_true (h x hx)
structure Mst(r n:Nat)(w:Int)(G K A W:List Row):Prop where
 sq:Sq r A
 wl:W.length=r
 wr:∀ x∈W,x.length=n
 whole:z3K r w (trn r A)
 ker:∀ b:Vec,(∀ k,n≤k→b k=0)→(Span (vecs G) b↔(∀ j,j<K.length→wts n K b j=0)∧Span (vecs (trn r A)) (wts n W b))
 onto:∀ ζ κ:Vec,∃ b:Vec,(∀ k,n≤k→b k=0)∧(∀ j,j<K.length→wts n K b j=κ j)∧Span (vecs (trn r A)) (fun i=>wts n W b i-if i<r then ζ i else 0)
variable {r n:Nat}{w:Int}{G K A W T S W':List Row}
theorem Mst.rest(m:Mst r n w G K A W)(hl:W'.length=r)(hr:∀ x∈W',x.length=n)(q:Nat→Nat→Int)(e:∀ i k,i<r→ent W' i k=ent W i k-w*q i k):Mst r n w G K A W':=by
 have key:∀ b:Vec,Span (vecs (trn r A)) (fun i=>wts n W b i-wts n W' b i):=fun b=>by
   refine Span.congr (fun i=>?_) (zd7 m.whole (u:=fun i=>if i<r then sm n (fun k=>q i k*b k) else 0) fun k hk=>by simp;omega)
   by_cases hi:i<r
   · unfold wts
     rw[if_pos hi,←zd6,←z3J]
     exact z0r fun k _=>by rw[e i k hi,Int.sub_mul,Int.mul_assoc];omega
   · have z1:wts n W b i=0:=z0E fun k _=>by rw[z0X (by rw[m.wl];omega)];simp
     have z2:wts n W' b i=0:=z0E fun k _=>by rw[z0X (by omega)];simp
     rw[if_neg hi,z1,z2];simp
 refine⟨m.sq,hl,hr,m.whole,fun b hb=>?_,fun ζ κ=>?_⟩
 · rw[m.ker b hb]
   refine and_congr_right fun _=>⟨fun h=>Span.congr (fun i=>by omega) (h.sub (key b)),fun h=>Span.congr (fun i=>by omega) (h.add (key b))⟩
 · obtain⟨b,h1,h2,h3⟩:=m.onto ζ κ
   exact⟨b,h1,h2,Span.congr (fun i=>by omega) (h3.sub (key b))⟩
theorem Mst.step(m:Mst r n w G K A W)(t:Sq r T)(sT:SameSpan (vecs T) (vecs (trn r A)))(As:Asc (r+n) 0 S)(Fs:Form 0 (z0v S))(sl:S.length=r)(sh:∀ x∈S,z00 x<r)(ss:SameSpan (vecs S) (vecs (pair (trn r T) W))):
   Mst r n w G K (S.map (·.take r)) (S.map (·.drop r)):=by
 have et:tops r S=S.map (·.take r):=ziO (N:=0) sh
 obtain⟨a1,a2⟩:=z5R As (show r≤r+n by omega)
 rw[et]at a1 a2
 have sq:Sq r (S.map (·.take r)):=⟨a1,by rw[←et];exact z6o As Fs (by omega),by rw[List.length_map,sl]⟩
 have cl:(trn r T).length=r:=z36 _ _
 have cr:∀ x∈trn r T,x.length=r:=fun x hx=>by rw[z5U hx,t.len]
 have tt:trn r (trn r T)=T:=zm t.rows t.len
 have dr:∀ x∈S.map (·.drop r),x.length=n:=fun x hx=>by
   obtain⟨y,hy,rfl⟩:=List.mem_map.mp hx
   rw[List.length_drop,(As.mem hy).1];omega
 have hs:=z9N (r:=r) ss
 rw[z9O cr (by rw[cl,m.wl])]at hs
 have wT:z3K r w T:=fun i hi=>sT.iff.mpr (m.whole i hi)
 have wC:=t.comm wT
 have wA:z3K r w (S.map (·.take r)):=fun i hi=>hs.iff.mpr (wC i hi)
 have eq:∀ y,Span (vecs (trn r A)) y↔Span (vecs (trn r (trn r T))) y:=fun y=>by rw[tt];exact sT.symm.iff
 have pc:=zbT (r:=r) S
 refine⟨sq,by rw[List.length_map,sl],dr,sq.comm wA,fun b hb=>?_,fun ζ κ=>?_⟩
 · rw[m.ker b hb]
   refine and_congr_right fun _=>?_
   rw[eq,←zgi (n:=n) cr (by rw[cl,m.wl]),←zgi (n:=n) sq.rows (by simp),pc]
   exact EqP.same ss.symm
 · obtain⟨z,hz⟩:=lift ss.symm As ζ
   obtain⟨b,h1,h2,h3⟩:=m.onto z κ
   refine⟨b,h1,h2,?_⟩
   obtain⟨c,hc⟩:=(z2S cr).mp ((eq _).mp h3)
   have pl:(pair (trn r T) W).length=r:=by rw[z4h (by rw[cl,m.wl]),cl]
   have:=hz (fun_ r n c b) (z7x r n c b) fun l hl=>by
     rw[pl]at hl
     have e:=hc l
     rw[if_pos hl]at e
     rw[z4i cr (by rw[cl,m.wl]) c l (by omega)]
     omega
   refine(z2S sq.rows).mpr ⟨c,fun i=>?_⟩
   by_cases hi:i<r
   · have e:=this i (by omega)
     rw[←pc]at e
     rw[z4i sq.rows (by simp) c i (by rw[sq.len];exact hi)]at e
     rw[if_pos hi]
     omega
   · rw[if_neg hi,show wts n (S.map (·.drop r)) b i=0 from z0E fun k _=>by rw[z0X (by simp[sl];omega)];simp]
     rw[z0E fun j _=>by rw[z0X (by rw[sq.len];omega)];simp];rfl
end St

end
section
set_option linter.all false
set_option maxRecDepth 100000
namespace St
open Lat
def pr(A:List Row):Nat→Int
 | 0=>1
 | k+1=>pr A k*ent A k k
theorem ziP{T:List Vec}{R:Nat→Vec}(c:Nat→Int):∀ m,(∀ j,j<m→Span T (R j))→Span T (fun k=>sm m (fun j=>c j*R j k)):=by
 intro m
 induction m generalizing c R with
 | zero=>intro _;exact Span.zero
 | succ m ih=>intro h;exact((h 0 (by omega)).smul (c 0)).add (ih (R:=fun j=>R (j+1)) (fun j=>c (j+1)) fun j hj=>h (j+1) (by omega))
theorem zbU{D:List Row}(hl:∀ i j,i<j→ent D i j=0):∀ i,i≤D.length→∀ j,j<i→Span (vecs D) (pt j (pr D i)):=by
 intro i
 induction i with
 | zero=>intro _ j hj;omega
 | succ i ih =>
  intro hi j hj
  have ih:=ih (by omega)
  by_cases e:j<i
  · refine Span.congr (fun k=>?_) ((ih j e).smul (ent D i i))
    simp only[pt,pr];split
    · exact Int.mul_comm _ _
    · simp
  · have e:j=i:=by omega
    subst e
    refine Span.congr (fun k=>?_) (((z4g (A:=D) (i:=j) (by omega)).smul (pr D j)).sub (ziP (R:=fun l=>pt l (pr D j)) (fun l=>ent D j l) j ih))
    by_cases h1:k<j
    · rw[z3e h1 fun l _ hn=>by simp only[pt];rw[if_neg (by omega)];simp]
      simp only[pt,if_true];rw[if_neg (by omega),Int.mul_comm];omega
    · rw[z0E fun l hl=>by simp only[pt];rw[if_neg (by omega)];simp]
      by_cases h2:k=j
      · subst h2;simp[pt,pr]
      · rw[hl j k (by omega)];simp[pt,h2]
theorem zbV{A B:List Row}:∀{k:Nat},(∀ i,i<k→ent A i i=ent B i i)→pr A k=pr B k
 | 0,_=>rfl
 | k+1,h=>by rw[pr,pr,zbV fun i hi=>h i (by omega),h k (by omega)]
theorem ziQ{A:List Row}:∀{k:Nat},(∀ i,i<k→0<ent A i i)→0<pr A k
 | 0,_=>by show(0:Int)<1;decide
 | k+1,h=>by rw[pr];exact Int.mul_pos (ziQ fun i hi=>h i (by omega)) (h k (by omega))
variable {r n:Nat}{w:Int}{G K A W T S:List Row}
theorem Sq.prod(q:Sq r A):z3K r (pr A r) (trn r A):=fun i hi=>by
 have:=zbU (D:=trn r A) (fun i j h=>by rw[z2v q.rows];exact q.low h) r (by rw[z36];exact Nat.le_refl _) i hi
 rw[zbV (B:=A) fun i _=>by rw[z2v q.rows]]at this
 exact this
theorem Sq.below(q:Sq r A)(h:z3K r w (trn r A)):Below r r w (trn r A) where
 len:=z36 _ _
 wid:=Nat.le_refl _
 rows x hx:=by rw[z5U hx,q.len]
 pos i hi:=by rw[z2v q.rows];have:=q.pos hi;omega
 low i j h1 h2:=by rw[z2v q.rows];exact q.low h1
 whole i hi:=⟨_,h i hi,by simp[pt],fun k _ hn=>by simp[pt,hn]⟩
theorem ziR:∀{R:List Row} {cs:List Int} (k:Nat),cs.length=R.length→mix R cs k=sm R.length (fun i=>at0 cs i*ent R i k)
 | [],[],_,_=>rfl
 | x::R,c::cs,k,h=>by
  rw[mix,List.length_cons,sm]
  show c*at0 x k+mix R cs k=_
  rw[ziR k (by simpa using h)]
  rfl
theorem Below.ind{N:Nat}{P:List Row}(B:Below r N w P):Ind P:=fun cs hl hz c hc=>by
 have z:=z8i (m:=r) (a:=0) (c:=fun i=>at0 cs i) (D:=fun l j=>ent P l j) B.pos B.low fun j _ _=>by
  have:=hz j
  rw[ziR j hl,B.len]at this;exact this
 obtain⟨i,hi,rfl⟩:=List.getElem_of_mem hc
 have e:=z (r-i) i (by rw[hl,B.len]at hi;omega) (by omega) (by rw[hl,B.len]at hi;exact hi)
 simpa[at0,List.getD,List.getElem?_eq_getElem hi]using e
theorem Below.full{N:Nat}{P:List Row}(B:Below r N w P)(As:Asc N 0 S)(ss:SameSpan (vecs S) (vecs P)):∀ x∈S,z00 x<r∧hd x∣w:=fun x hx =>
 B.heads (Nat.le_refl r) As (by rw[show P.take r=P by rw[←B.len];exact List.take_length];exact ss) hx
def units(n:Nat):List Row:=(List.range n).map (z5O n)
theorem z6p(n:Nat):(units n).length=n:=by simp[units]
theorem z9P{i k:Nat}(hi:i<n):ent (units n) i k=if k=i∧k<n then 1 else 0:=by
 unfold ent units
 rw[show((List.range n).map (z5O n)).getD i []=z5O n i by simp[List.getD,hi],zbM]
theorem zhd{f:Nat}(As:Asc r f T)(h:∀ i,i<r→∃ x∈T,z00 x=i):r≤T.length:=by
 have:=z3d (l:=List.range r) (m:=T.map z00) id List.nodup_range (fun x _ y _ e=>e) fun i hi=>by
  obtain⟨x,hx,e⟩:=h i (List.mem_range.mp hi)
  exact List.mem_map.mpr ⟨x,hx,e⟩
 simpa using this
theorem start(Ag:Asc n 0 G)(gl:G.length=r)(As:Asc (r+n) 0 S)(Fs:Form 0 (z0v S))(sl:S.length=n)(ss:SameSpan (vecs S) (vecs (pair (trn n G) (units n)))):
   ∃ W,S.filter (fun x=>decide (z00 x<r))=S.take r∧W=(S.take r).map (·.drop r)∧(bots r S).length=n-r∧Mst r n (pr (tops r S) r) G (bots r S) (tops r S) W∧tops r S=(S.take r).map (·.take r)∧r≤n:=by
 have gr:∀ x∈G,x.length=n:=fun x hx=>(Ag.mem hx).1
 have rn:r≤n:=by have:=z7v Ag (Nat.zero_le _);omega
 have cr:∀ x∈trn n G,x.length=r:=fun x hx=>by rw[z5U hx,gl]
 have cl:(trn n G).length=n:=z36 _ _
 obtain⟨a1,a2⟩:=z5R As (show r≤r+n by omega)
 have hs:=z9N (r:=r) ss
 rw[z9O cr (by rw[cl,z6p])]at hs
 have cover:∀ i,i<r→∃ x∈tops r S,z00 x=i:=fun i hi=>by
   let D:List Row:=(List.range r).map fun i=>(trn n G).getD (z00 (G.getD i [])) []
   have dl:D.length=r:=by simp[D]
   have de:∀ i j,i<r→ent D i j=ent G j (z00 (G.getD i [])):=fun i j hi=>by
     have:D.getD i []=(trn n G).getD (z00 (G.getD i [])) []:=by simp[D,List.getD,hi]
     rw[←z2v gr]
     unfold ent
     rw[this]
   have low:∀ i j,i<j→ent D i j=0:=fun i j h=>by
     by_cases hi:i<r
     · rw[de i j hi]
       by_cases hj:j<r
       · exact z0e _ _ (ziF Ag h (by rw[gl];exact hj))
       · exact z0X (by rw[gl];omega) _
     · exact z0X (by rw[dl];omega) _
   have sp:=zbU low r (by rw[dl];exact Nat.le_refl _) i hi
   have pos:0<pr D r:=ziQ fun i hi=>by
     rw[de i i hi]
     exact(zaH Ag (k:=i) (by rw[gl];exact hi)).2.2.2
   have sp2:Span (vecs (trn n G)) (pt i (pr D r)):=Span.trans (fun v hv=>by
     obtain⟨x,hx,rfl⟩:=List.mem_map.mp hv
     obtain⟨j,hj,rfl⟩:=List.mem_map.mp hx
     have hj:=List.mem_range.mp hj
     exact z0d (z3I (by rw[cl];exact(zaH Ag (k:=j) (by rw[gl];exact hj)).2.2.1))) sp
   have sp3:=hs.iff.mpr sp2
   have sp4:Span (vecs (tops r S)) (pt i (pr D r)):=by
     refine Span.trans (fun v hv=>?_) sp3
     obtain⟨x,hx,rfl⟩:=List.mem_map.mp hv
     obtain⟨y,hy,rfl⟩:=List.mem_map.mp hx
     exact Span.congr (fun k=>by simp only[vec];rw[z1A]) (z9J (n:=r) As (z0d hy))
   exact Asc.first a1 sp4 (fun k hk=>by simp[pt];omega) (by simp[pt];omega)
 have tl:(tops r S).length=r:=by
   have h1:=zhd a1 cover
   have h2:=z7v a1 (Nat.zero_le _)
   omega
 have fl:(S.filter fun x=>decide (z00 x<r)).length=r:=by rw[←a2];exact tl
 have sp:=z5f As (n:=r)
 have tk:S.filter (fun x=>decide (z00 x<r))=S.take r:=by
   have:=congrArg (List.take r) sp
   rw[List.take_left' fl]at this
   exact this.symm
 have dk:S.filter (fun x=>!decide (z00 x<r))=S.drop r:=by
   have:=congrArg (List.drop r) sp
   rw[List.drop_left' fl]at this
   exact this.symm
 have te:tops r S=(S.take r).map (·.take r):=by unfold tops;rw[tk]
 have be:bots r S=(S.drop r).map (·.drop r):=by unfold bots;rw[dk]
 have bl:(bots r S).length=n-r:=by rw[be,List.length_map,List.length_drop,sl]
 have sq:Sq r (tops r S):=⟨a1,z6o As Fs (by omega),tl⟩
 have hS:∀ i,i<r→∀ k,ent S i k=ent (pair (tops r S) ((S.take r).map (·.drop r))) i k:=fun i hi k=>by
   rw[te,zbT,z8j hi]
 have wl:((S.take r).map (·.drop r)).length=r:=by rw[List.length_map,List.length_take,sl];omega
 have zl:∀ j,j<n-r→∀ k,k<r→ent S (r+j) k=0:=fun j hj k hk=>by
   have m:S.getD (r+j) []∈S.filter (fun x=>!decide (z00 x<r)):=by
     rw[dk,show S.getD (r+j) []=(S.drop r).getD j [] by simp[List.getD,List.getElem?_drop]]
     exact z3I (by rw[List.length_drop,sl];exact hj)
   have:=(List.mem_filter.mp m).2
   rw[Bool.not_eq_true',decide_eq_false_iff_not]at this
   exact z0e _ _ (by omega)
 have bk:∀ j,j<n-r→∀ k,ent S (r+j) (r+k)=ent (bots r S) j k:=fun j hj k=>by
   rw[be]
   unfold ent
   rw[show((S.drop r).map (·.drop r)).getD j []=(S.getD (r+j) []).drop r by simp[List.getD,List.getElem?_drop,List.getElem?_eq_getElem (show r+j<S.length by omega)],z1B]
 have fb:∀(c b:Vec) (j:Nat),j<n-r→fun_ r n c b (fun k=>ent S (r+j) k)=wts n (bots r S) b j:=fun c b j hj=>by
   unfold fun_ wts
   rw[z0r (g:=fun k=>ent (bots r S) j k*b k) fun k _=>by show ent S (r+j) (r+k)*b k=_;rw[bk j hj],z0E (m:=r) fun k hk=>by show c k*ent S (r+j) k=0;rw[zl j hj k hk];simp]
   omega
 have fa:∀(c b:Vec) (i:Nat),i<r→fun_ r n c b (fun k=>ent S i k)=wts n ((S.take r).map (·.drop r)) b i-sm r (fun j=>c j*ent (tops r S) i j):=fun c b i hi=>by
   rw[show(fun k=>ent S i k)=fun k=>ent (pair (tops r S) ((S.take r).map (·.drop r))) i k from funext (hS i hi)]
   exact z4i sq.rows (by rw[tl,wl]) c i (by rw[tl];exact hi)
 have fp:∀(c b:Vec) (l:Nat),l<n→fun_ r n c b (fun k=>ent (pair (trn n G) (units n)) l k)=b l-sm r (fun j=>c j*ent G j l):=fun c b l hl=>by
   rw[z4i cr (by rw[cl,z6p]) c l (by rw[cl];exact hl)]
   congr 1
   · unfold wts
     rw[z3e hl fun k _ hn=>by rw[z9P hl,if_neg (by omega)];simp,z9P hl,if_pos ⟨rfl,hl⟩];simp
   · exact z0r fun j _=>by rw[z2v gr]
 have pl:(pair (trn n G) (units n)).length=n:=by rw[z4h (by rw[cl,z6p]),cl]
 refine⟨_,tk,rfl,bl,⟨sq,wl,fun x hx=>?_,sq.prod,fun b hb=>?_,fun ζ κ=>?_⟩,te,rn⟩
 · obtain⟨y,hy,rfl⟩:=List.mem_map.mp hx
   rw[List.length_drop,(As.mem (List.mem_of_mem_take hy)).1];omega
 · have e1:Span (vecs G) b↔EqP r n (pair (trn n G) (units n)) b:=by
     rw[z1q,gl]
     constructor
     · rintro⟨c,h⟩
       exact⟨c,fun l hl=>by rw[fp c b l (by omega),h l];omega⟩
     · rintro⟨c,h⟩
       refine⟨c,fun k=>?_⟩
       by_cases hk:k<n
       · have:=h k (by omega)
         rw[fp c b k hk]at this;omega
       · rw[hb k (by omega)]
         exact(z0E fun j _=>by rw[zaK gr (by omega)];simp).symm
   rw[e1,EqP.same ss.symm,bl,z2S sq.rows]
   constructor
   · rintro⟨c,h⟩
     refine⟨fun j hj=>by rw[←fb c b j hj];exact h _ (by omega),c,fun k=>?_⟩
     by_cases hk:k<r
     · have:=h k (by omega)
       rw[fa c b k hk]at this;omega
     · rw[show wts n ((S.take r).map (·.drop r)) b k=0 from z0E fun j _=>by rw[z0X (by rw[wl];omega)];simp]
       exact(z0E fun j _=>by rw[z0X (by rw[tl];omega)];simp).symm
   · rintro⟨h1,c,h2⟩
     refine⟨c,fun l hl=>?_⟩
     by_cases hk:l<r
     · rw[fa c b l hk,h2 l];omega
     · have:=h1 (l-r) (by omega)
       rw[←fb c b (l-r) (by omega),show r+(l-r)=l by omega]at this
       exact this
 · obtain⟨z,hz⟩:=lift ss.symm As (fun i=>if i<r then ζ i else κ (i-r))
   have:=hz (fun_ r n (fun _=>0) (fun k=>if k<n then z k else 0)) (z7x _ _ _ _) fun l hl=>by
     rw[fp _ _ l (by omega),if_pos (by omega),z0E fun j _=>by simp];omega
   refine⟨fun k=>if k<n then z k else 0,fun k hk=>if_neg (by omega),fun j hj=>?_,?_⟩
   · have e:=this (r+j) (by omega)
     rw[fb _ _ j (by omega),if_neg (by omega),show r+j-r=j by omega]at e
     exact e
   · refine Span.congr (fun i=>?_) Span.zero
     by_cases hi:i<r
     · have e:=this i (by omega)
       rw[fa _ _ i hi,if_pos hi,z0E fun j _=>by simp]at e
       rw[if_pos hi];omega
     · rw[if_neg hi,show wts n ((S.take r).map (·.drop r)) _ i=0 from z0E fun j _=>by rw[z0X (by rw[wl];omega)];simp];rfl
end St

end
section
set_option linter.all false
set_option maxRecDepth 100000
namespace St
open Lat
abbrev Meas:=List (Row×Int)
def mw(M:Meas)(i:Nat):Row:=(M.getD i ([],0)).1
def mp(M:Meas)(i:Nat):Int:=(M.getD i ([],0)).2
def dt(n:Nat)(w:Row)(b:Vec):Int:=sm n (fun k=>at0 w k*b k)
structure Ms(n:Nat)(G:List Row)(M:Meas):Prop where
 rows:∀ x∈M,x.1.length=n
 ker:∀ b:Vec,(∀ k,n≤k→b k=0)→(Span (vecs G) b↔∀ i,i<M.length→mp M i∣dt n (mw M i) b)
 onto:∀ ζ:Vec,∃ b:Vec,(∀ k,n≤k→b k=0)∧∀ i,i<M.length→mp M i∣dt n (mw M i) b-ζ i
variable {n:Nat}{G:List Row}{M M':Meas}
theorem Ms.rest(m:Ms n G M)(hr:∀ x∈M',x.1.length=n)(hl:M'.length=M.length)(hp:∀ i,i<M.length→mp M' i=mp M i)(hd:∀ i,i<M.length→∀ b:Vec,mp M i∣dt n (mw M' i) b-dt n (mw M i) b):Ms n G M':=by
 refine⟨hr,fun b hb=>?_,fun ζ=>?_⟩
 · rw[m.ker b hb,hl]
   refine forall_congr' fun i=>forall_congr' fun hi=>?_
   rw[hp i hi]
   have:=hd i hi b
   constructor
   · intro h;have:=Int.dvd_add this h;rwa [Int.sub_add_cancel]at this
   · intro h;have:=Int.dvd_sub h this;rwa [show dt n (mw M' i) b-(dt n (mw M' i) b-dt n (mw M i) b)=dt n (mw M i) b by omega]at this
 · obtain⟨b,h1,h2⟩:=m.onto ζ
   refine⟨b,h1,fun i hi=>?_⟩
   rw[hl]at hi
   rw[hp i hi]
   have:=Int.dvd_add (hd i hi b) (h2 i hi)
   rwa [show dt n (mw M' i) b-dt n (mw M i) b+(dt n (mw M i) b-ζ i)=dt n (mw M' i) b-ζ i by omega]at this
end St

end
section
set_option linter.all false
set_option maxRecDepth 100000
namespace St
open Lat
variable {n:Nat}{G:List Row}{M:Meas}
end St

end
section
set_option linter.all false
set_option maxRecDepth 100000
namespace St
open Lat
variable {r:Nat}{A D:List Row}
end St

end
section
set_option linter.all false
set_option maxRecDepth 100000
namespace St
open Lat
variable {n:Nat}{G:List Row}{M K0:Meas}
structure Bz(g f1 f2 a b a' b':Int):Prop where
 gp:0<g
 ea:a=g*a'
 eb:b=g*b'
 one:f1*a'+f2*b'=1
theorem Bz.of{g f1 f2 a b:Int}(gp:0<g)(ga:g∣a)(gb:g∣b)(h:f1*a+f2*b=g):Bz g f1 f2 a b (a / g) (b / g):=by
 obtain⟨a',rfl⟩:=ga
 obtain⟨b',rfl⟩:=gb
 rw[Int.mul_ediv_cancel_left _ (by omega),Int.mul_ediv_cancel_left _ (by omega)]
 refine⟨gp,rfl,rfl,?_⟩
 have:g*(f1*a'+f2*b')=g*1:=by grind
 exact Int.eq_of_mul_eq_mul_left (by omega) this
structure Chn(w:Int)(t s:Nat)(M:Meas):Prop where
 pos:∀ i,i<M.length→0<mp M i
 whole:∀ i,i<M.length→mp M i∣w
 all:∀ i j,i<t→i<j→j<M.length→mp M i∣mp M j
 here:∀ j,t<j→j<s→j<M.length→mp M t∣mp M j
theorem Chn.next{w:Int}{t s:Nat}(c:Chn w t s M)(h:M.length≤s):Chn w (t+1) (t+2) M :=
 ⟨c.pos,c.whole,fun i j h1 h2 h3=>by
  by_cases e:i<t
  · exact c.all i j e h2 h3
  · have:i=t:=by omega
    subst this
    exact c.here j h2 (by omega) h3,fun j h1 h2=>by omega⟩
theorem Chn.first{w:Int}(hp:∀ i,i<M.length→0<mp M i)(hw:∀ i,i<M.length→mp M i∣w):Chn w 0 1 M:=⟨hp,hw,fun i j h=>by omega,fun j h1 h2=>by omega⟩
end St

end
section
set_option linter.all false
set_option maxRecDepth 100000
namespace St
open Lat
theorem Good.sq{r N B:Nat}{w:Int}{P S:List Row}(G:Good N B P S)(b:Below r N w P):S.length=r∧∀ x∈S,z00 x<r:=by
 refine⟨by rw[G.full b.ind,b.len],fun x hx=>(b.full G.asc G.span x hx).1⟩
end St

end
section
local macro_rules|`(tactic| omega)=>`(tactic| first|lia|omega +splitDisjunctions)
set_option linter.all false
set_option maxRecDepth 100000
namespace L2
open PySem
theorem zaM{a b:List Int}(h:a.length=b.length)(k:Nat):St.at0 (addR a b) k=St.at0 a k+St.at0 b k:=by
 have e:addR a b=St.lin 1 a 1 b:=by unfold addR St.lin;congr 1;funext x y;omega
 rw[e,St.z7u h];omega
theorem z5V(q:Int)(a:List Int)(k:Nat):St.at0 (sclR q a) k=q*St.at0 a k:=by
 simp only[St.at0,sclR,List.getD,List.getElem?_map]
 cases a[k]?<;>simp
theorem zbW(n:Nat):z1d n=St.z8a n:=by unfold z1d St.z8a;simp
theorem z9Q(n k:Nat):St.at0 (z1d n) k=0:=by rw[zbW];exact St.z6m n k
theorem zbX{n:Nat}:∀(rows:List (List Int)) (cs:List Int) (t:List Int),t.length=n→(∀ r∈rows,r.length=n)→∀ k,St.at0 ((rows.zip cs).foldl (fun t p=>addR t (sclR p.2 p.1)) t) k=St.at0 t k+St.mix rows cs k
 | [],cs,t,_,_,k=>by simp[St.mix]
 | r::rows,[],t,_,_,k=>by simp[St.mix]
 | r::rows,c::cs,t,ht,hw,k=>by
  have hr:=hw r List.mem_cons_self
  rw[List.zip_cons_cons,List.foldl_cons,zbX rows cs _ (by rw[z82 (by rw[z1l,ht,hr])];exact ht) (fun x hx=>hw x (List.mem_cons_of_mem _ hx)),zaM (by rw[z1l,ht,hr]),z5V]
  show St.at0 t k+c*St.at0 r k+St.mix rows cs k=St.at0 t k+(c*St.at0 r k+St.mix rows cs k)
  omega
theorem ziS{n:Nat}{rows:List (List Int)}{cs:List Int}(hw:∀ r∈rows,r.length=n)(k:Nat):St.at0 (mixR n rows cs) k=St.mix rows cs k:=by
 unfold mixR
 rw[zbX rows cs (z1d n) z3m hw,z9Q];omega
theorem zero_add{n:Nat}{v:List Int}(hv:v.length=n):addR (z1d n) v=v:=St.ext0 (by rw[z82 (by rw[z3m,hv]),z3m,hv]) fun k=>by rw[zaM (by rw[z3m,hv]),z9Q];omega
end L2
namespace L2
open PySem
theorem zgj{n i:Nat}(h:i<n):ixN n (i:Int)=some i:=by
 unfold ixN
 rw[if_pos (by omega),if_pos (by omega)];simp
end L2
namespace L2
open PySem
theorem us0{P:List Value→Prop}(h:P []):∀ us:List Value,us.length=0→P us:=fun us hl=>(List.length_eq_zero_iff.mp hl).symm ▸ h
theorem usS{P:List Value→Prop}{n:Nat}(h:∀ a us,us.length=n→P (a::us)):∀ us:List Value,us.length=n+1→P us:=fun us hl=>by
 cases us with
 | nil=>cases hl
 | cons a us=>exact h a us (Nat.succ.inj hl)
theorem us1{P:List Value→Prop}(h:∀ a,P [a]):∀ us:List Value,us.length=1→P us:=usS fun a=>us0 (h a)
theorem us2{P:List Value→Prop}(h:∀ a b,P [a,b]):∀ us:List Value,us.length=2→P us:=usS fun a=>(usS fun b=>us0 (h a b))
theorem us4{P:List Value→Prop}(h:∀ a b c d,P [a,b,c,d]):∀ us:List Value,us.length=4→P us:=usS fun a=>(usS fun b=>(usS fun c=>(usS fun d=>us0 (h a b c d))))
end L2

end
section
set_option Elab.async false
set_option linter.all false
set_option maxRecDepth 100000
set_option maxHeartbeats 1000000
namespace K24
open PySem L2
noncomputable section
def z5g:FS:=(sRet (vAnd (fIsi "int" (fN 0)) (vNot (fIsi "bool" (fN 0)))))
def z27:FC:=cOf 1 1 true z5g
def z8k:FS:=(sSeq (sIf (fOr (fNot (fTru (fIsi "list" (fN 0)))) (z0j (fOp opNe (fBlt bLen (z02 (fN 0) fNil)) (fN 1)))) (sRet (fC (.bl false))) z0M)
 (sRet (fBlt bAll (z02 (z0k 1 [] (iSeq (fN 0)) (Tg.one 0) fYes (z09 true z27 (z02 (fN 0) fNil))) fNil))))
def z5W:FC:=cOf 2 2 true z8k
def z6q:FS:=(sRet (z0k 1 [] (z0s (fN 0)) (Tg.one 0) fYes (fC (.int 0))))
def z28:FC:=cOf 1 1 true z6q
def zaN:FS:=(sRet (z0k 2 [] (iZip (fN 0) (fN 1)) (Tg.many [0,1]) fYes (fOp z0z (fN 0) (fN 1))))
def z7y:FC:=cOf 2 2 true zaN
def zaO:FS:=(sRet (z0k 2 [] (iZip (fN 0) (fN 1)) (Tg.many [0,1]) fYes (fOp z3i (fN 0) (fN 1))))
def z4S:FC:=cOf 2 2 true zaO
def z8l:FS:=(sRet (z0k 1 [1] (iSeq (fN 0)) (Tg.one 0) fYes (fOp z19 (fN 1) (fN 0))))
def z1C:FC:=cOf 2 2 true z8l
def z6r:FS:=(sSeq (sFor [] (z5E (fN 0)) (Tg.many [1,2])
 (sIf (z0j (fOp opNe (fN 2) (fC (.int 0)))) (sRet (fN 1)) z0M))
 (sRet (fBlt bLen (z02 (fN 0) fNil))))
def z0g:FC:=cOf 1 3 true z6r
def z4j:FS:=(sRet (vAnd (z09 true z27 (z02 (fN 0) fNil)) (z7N opLe opLe (fC (.int 1)) (fN 0) (fC (.int 6)))))
def z37:FC:=cOf 1 1 true z4j
def z6s:FS:=(sRet (vAnd (z09 true z5W (z02 (fN 0) (z02 (fN 1) fNil))) (fBlt bAll (z02 (z0k 1 [] (iSeq (fN 0)) (Tg.one 0) fYes (fOp opLt (fBlt bAbs (z02 (fN 0) fNil)) (fOp z9j (fC (.int 10)) (fC (.int 30))))) fNil))))
def z4T:FC:=cOf 2 2 true z6s
def z3L:FS:=(sIf (fNot (fTru (z09 true z37 (z02 (fN 0) fNil)))) z6f z0M)
def z2w:FC:=cOf 1 1 true z3L
def z4k:FS:=(sIf (fNot (fTru (z09 true z4T (z02 (fN 0) (z02 (fN 1) fNil))))) z6f z0M)
def z1N:FC:=cOf 2 2 true z4k
def z6t:FS:=(sRet (fTup (z02 (fN 0) (z02 (fBlt bTup (z02 (z0k 1 [] (iSeq (fN 1)) (Tg.one 0) fYes (fBlt bTup (z02 (fN 0) fNil))) fNil)) fNil))))
def z2G:FC:=cOf 2 2 true z6t
def z6u:FS:=(sSeq (z54 (z09 true z2w (z02 (fN 0) fNil)))
 (sSeq (sIf (fOr (fNot (fTru (fIsi "list" (fN 1)))) (z0j (fOp opGt (fBlt bLen (z02 (fN 1) fNil)) (fC (.int 8))))) z6f z0M)
 (sSeq (sFor [] (iSeq (fN 1)) (Tg.one 2)
 (z54 (z09 true z1N (z02 (fN 2) (z02 (fN 0) fNil)))))
 (sRet (z09 true z2G (z02 (fN 0) (z02 (fN 1) fNil)))))))
def z2H:FC:=cOf 2 3 true z6u
def z8m:FS:=(sSeq (sSet [] 2 (fLst (z02 (fN 0) (z02 (fC (.int 1)) (z02 (fC (.int 0)) fNil)))))
 (sSeq (sSet [] 3 (fLst (z02 (fN 1) (z02 (fC (.int 0)) (z02 (fC (.int 1)) fNil)))))
 (sSeq (z24 (z0j (fOp opNe (fAt (fN 3) (fC (.int 0))) (fC (.int 0)))) (sSeq (sSet [] 4 (fOp z2N (fAt (fN 2) (fC (.int 0))) (fAt (fN 3) (fC (.int 0)))))
 (sSeq (sSet [] 5 (z0k 1 [2,4,3] (z0s (fC (.int 3))) (Tg.one 0) fYes (fOp z3i (fAt (fN 1) (fN 0)) (fOp z19 (fN 2) (fAt (fN 3) (fN 0))))))
 (sSeq (sSet [] 2 (fN 3))
 (sSet [] 3 (fN 5))))))
 (sSeq (sIf (z0j (fOp opLt (fAt (fN 2) (fC (.int 0))) (fC (.int 0)))) (sSet [] 2 (z0k 1 [] (iSeq (fN 2)) (Tg.one 0) fYes (fNeg (fN 0)))) z0M)
 (sRet (fBlt bTup (z02 (fN 2) fNil)))))))
def z8n:FC:=cOf 2 6 true z8m
def z6v:FS:=(sSeq (sSet [] 1 (fC (.int 1)))
 (sSeq (sFor [] (iSeq (fN 0)) (Tg.one 2)
 (sSet [] 1 (fOp z19 (fN 1) (fN 2))))
 (sRet (fN 1))))
def z4U:FC:=cOf 1 3 true z6v
def z5h:FS:=(sSeq (sSet [] 2 (fBlt bLst (z02 (fN 0) fNil)))
 (sSeq (sOwn 3 (fLst fNil))
 (sSeq (sFor [] (iSeq (fN 1)) (Tg.one 4)
 (sSeq (sSet [] 5 (z09 true z0g (z02 (fN 4) fNil)))
 (sSeq (sSet [] 6 (fOp z2N (fAt (fN 2) (fN 5)) (fAt (fN 4) (fN 5))))
 (sSeq (sIf (z0j (fOp opNe (fN 6) (fC (.int 0)))) (sSet [] 2 (z09 true z4S (z02 (fN 2) (z02 (z09 true z1C (z02 (fN 4) (z02 (fN 6) fNil))) fNil)))) z0M)
 (sWr wApp 3 (fN 6))))))
 (sRet (fTup (z02 (fN 3) (z02 (fN 2) fNil)))))))
def z3M:FC:=cOf 2 7 true z5h
def z6w:FS:=(sRet (fAt (z09 true z3M (z02 (fN 0) (z02 (fN 1) fNil))) (fC (.int 1))))
def z0G:FC:=cOf 2 2 true z6w
def z6x:FS:=(sSeq (sSet [] 2 (z09 true z0g (z02 (fN 0) fNil)))
 (sSeq (sSet [] 3 (z09 true z8n (z02 (fAt (fN 0) (fN 2)) (z02 (fAt (fN 1) (fN 2)) fNil))))
 (sSeq (sSet [] 4 (z09 true z7y (z02 (z09 true z1C (z02 (fN 0) (z02 (fAt (fN 3) (fC (.int 1))) fNil))) (z02 (z09 true z1C (z02 (fN 1) (z02 (fAt (fN 3) (fC (.int 2))) fNil))) fNil))))
 (sSeq (sSet [] 5 (z09 true z4S (z02 (z09 true z1C (z02 (fN 1) (z02 (fOp z2N (fAt (fN 0) (fN 2)) (fAt (fN 3) (fC (.int 0)))) fNil))) (z02 (z09 true z1C (z02 (fN 0) (z02 (fOp z2N (fAt (fN 1) (fN 2)) (fAt (fN 3) (fC (.int 0)))) fNil))) fNil))))
 (sRet (fTup (z02 (fN 4) (z02 (fN 5) fNil))))))))
def z2I:FC:=cOf 2 6 true z6x
def z4l:FS:=(sRet (fIf (z0j (fOp opLt (fAt (fN 0) (z09 true z0g (z02 (fN 0) fNil))) (fC (.int 0)))) (z09 true z1C (z02 (fN 0) (z02 (fNeg (fC (.int 1))) fNil))) (fBlt bLst (z02 (fN 0) fNil))))
def z0Y:FC:=cOf 1 1 true z4l
def z2T:FS:=(sSeq (sOwn 2 (fBlt bLst (z02 (fN 0) fNil)))
 (sSeq (z33 3 (z09 true z0G (z02 (fN 1) (z02 (fN 2) fNil))))
 (sSeq (z24 (z0j (fOp opLt (z09 true z0g (z02 (fN 3) fNil)) (fBlt bLen (z02 (fN 3) fNil)))) (sSeq (z33 4 (z0k 2 [3] (z5E (fN 2)) (Tg.many [0,1]) (z0j (fOp opEq (z09 true z0g (z02 (fN 1) fNil)) (z09 true z0g (z02 (fN 2) fNil)))) (fN 0)))
 (sSeq (sIf (z0j (fOp opEq (fBlt bLen (z02 (fN 4) fNil)) (fC (.int 0)))) (sRet (z5d z0g (fOp z0z (fN 2) (fLst (z02 (z09 true z0Y (z02 (fN 3) fNil)) fNil))))) z0M)
 (sSeq (z33 5 (z09 true z2I (z02 (fAt (fN 2) (fAt (fN 4) (fC (.int 0)))) (z02 (fN 3) fNil))))
 (sSeq (sPut 2 (fAt (fN 4) (fC (.int 0))) (fAt (fN 5) (fC (.int 0))))
 (z33 3 (z09 true z0G (z02 (fAt (fN 5) (fC (.int 1))) (z02 (fN 2) fNil)))))))))
 (sRet (fN 2)))))
def z29:FC:=cOf 2 6 false z2T
def z8o:FS:=(sSeq (sOwn 1 (fLst fNil))
 (sSeq (sFor [] (iRev (fN 0)) (Tg.one 2)
 (sWrA z7X 1 (z09 true z0G (z02 (fN 2) (z02 (fN 1) fNil)))))
 (sRet (fN 1))))
def z4m:FC:=cOf 1 3 true z8o
def z6y:FS:=(sSeq (sSet [] 1 (fLst fNil))
 (sSeq (sFor [] (iSeq (fN 0)) (Tg.one 2)
 (sSet [] 1 (z09 true z4m (z02 (z09 false z29 (z02 (fN 1) (z02 (fN 2) fNil))) fNil))))
 (sRet (fN 1))))
def z2a:FC:=cOf 1 3 true z6y
def z2U:FS:=(sRet (z09 true z2a (z02 (z0k 2 [] (iZip (fN 0) (fN 1)) (Tg.many [0,1]) fYes (fOp z0z (fBlt bLst (z02 (fN 0) fNil)) (fBlt bLst (z02 (fN 1) fNil)))) fNil)))
def z1V:FC:=cOf 2 2 true z2U
def z2b:FS:=(sRet (z0k 1 [1] (iSeq (fN 0)) (Tg.one 0) (z0j (fOp opGe (z09 true z0g (z02 (fN 0) fNil)) (fN 1))) (fSl (fN 0) (zg2 (fN 1)) z7q)))
def z1r:FC:=cOf 2 2 true z2b
def z2o:FS:=(sRet (z09 true z4U (z02 (z0k 1 [] (iSeq (fN 0)) (Tg.one 0) fYes (fAt (fN 0) (z09 true z0g (z02 (fN 0) fNil)))) fNil)))
def z0S:FC:=cOf 1 1 true z2o
def zaP:FS:=(sRet (z09 true z2a (z02 (fAt (fN 0) (fC (.int 1))) fNil)))
def z15:FC:=cOf 1 1 true zaP
def z4n:FS:=(sIf (z0j (fOp opNe (fAt (fN 0) (fC (.int 0))) (fAt (fN 1) (fC (.int 0))))) z6f z0M)
def z1O:FC:=cOf 2 2 true z4n
def z8p:FS:=(sSeq (z54 (z09 true z1O (z02 (fN 0) (z02 (fN 1) fNil))))
 (sRet (z09 true z2G (z02 (fAt (fN 0) (fC (.int 0))) (z02 (z09 true z2a (z02 (fOp zaD (fAt (fN 0) (fC (.int 1))) (fAt (fN 1) (fC (.int 1)))) fNil)) fNil)))))
def z5X:FC:=cOf 2 2 true z8p
def ziT:FS:=(sSeq (z54 (z09 true z1O (z02 (fN 0) (z02 (fN 1) fNil))))
 (sSeq (sSet [] 2 (z09 true z15 (z02 (fN 0) fNil)))
 (sSeq (sSet [] 3 (z09 true z15 (z02 (fN 1) fNil)))
 (sSeq (sSet [] 4 (z09 true z1V (z02 (fOp z0z (fN 2) (fN 3)) (z02 (fOp z0z (fN 2) (z0k 1 [0] (iSeq (fN 3)) (Tg.one 0) fYes (z09 true z28 (z02 (fAt (fN 1) (fC (.int 0))) fNil)))) fNil))))
 (sRet (z09 true z2G (z02 (fAt (fN 0) (fC (.int 0))) (z02 (z09 true z1r (z02 (fN 4) (z02 (fAt (fN 0) (fC (.int 0))) fNil))) fNil))))))))
def ziU:FC:=cOf 2 5 true ziT
def z8q:FS:=(sSeq (z54 (z09 true z1O (z02 (fN 0) (z02 (fN 1) fNil))))
 (sSeq (sSet [] 2 (z09 true z15 (z02 (fN 1) fNil)))
 (sRet (fBlt bAll (z02 (z0k 1 [2,0] (iSeq (fAt (fN 0) (fC (.int 1)))) (Tg.one 0) fYes (fOp opEq (z09 true z0G (z02 (fN 0) (z02 (fN 1) fNil))) (z09 true z28 (z02 (fAt (fN 2) (fC (.int 0))) fNil)))) fNil)))))
def z4o:FC:=cOf 2 3 true z8q
def z5i:FS:=(sSeq (sIf (fNot (fTru (z09 true z4o (z02 (fN 0) (z02 (fN 1) fNil))))) z6f z0M)
 (sSeq (sSet [] 2 (z09 true z15 (z02 (fN 0) fNil)))
 (sSeq (sSet [] 3 (z09 true z15 (z02 (fN 1) fNil)))
 (sSeq (sIf (z0j (fOp opLt (fBlt bLen (z02 (fN 2) fNil)) (fBlt bLen (z02 (fN 3) fNil)))) (sRet (fC .non)) z0M)
 (sRet (fOp z2N (z09 true z0S (z02 (fN 2) fNil)) (z09 true z0S (z02 (fN 3) fNil))))))))
def z3N:FC:=cOf 2 4 true z5i
def z5j:FS:=(sSeq (sSet [] 1 (z09 true z15 (z02 (fN 0) fNil)))
 (sSeq (sIf (z0j (fOp opLt (fBlt bLen (z02 (fN 1) fNil)) (fAt (fN 0) (fC (.int 0))))) (sRet (fC .non)) z0M)
 (sRet (z09 true z0S (z02 (fN 1) fNil)))))
def z2V:FC:=cOf 1 2 true z5j
def z4p:FS:=(sSeq (sIf (z0j (fOp opLt (fN 1) (fBlt bLen (z02 (fN 0) fNil)))) (sRet (fAt (fN 0) (fN 1))) z0M)
 (sSeq (sIf (z0j (fOp opEq (fN 0) (fLst fNil))) (sRet (fC (.int 0))) z0M)
 (sRet (fOp z0z (fOp z19 (fAt (fN 0) (fOp z30 (fN 1) (fBlt bLen (z02 (fN 0) fNil)))) (fC (.int 31))) (fN 1)))))
def z0J:FC:=cOf 2 2 true z4p
def z6z:FS:=(sRet (vAnd (fIsi "int" (fN 0)) (vNot (fIsi "bool" (fN 0)))))
def z4V:FC:=cOf 1 1 true z6z
def z2W:FS:=(sSeq (sIf (z0j (fOp opEq (fN 1) (fC (.int 2)))) (sSeq (sSet [] 2 (fOp z30 (fN 0) (fOp z9j (fC (.int 10)) (fC (.int 30)))))
 (sSeq (sIf (z0j (fOp opEq (fOp z30 (fOp z2N (fN 0) (fOp z9j (fC (.int 10)) (fC (.int 30)))) (fC (.int 2))) (fC (.int 1)))) (sRet (fNeg (fN 2))) z0M)
 (sRet (fN 2)))) z0M)
 (sSeq (sSet [] 3 (fAt (fLst (z02 (fC (.int 9)) (z02 (fC (.int 61)) fNil))) (fN 1)))
 (sSeq (sSet [] 2 (fOp z30 (fN 0) (fN 3)))
 (sSeq (sIf (z0j (fOp opGt (fN 2) (fOp z2N (fN 3) (fC (.int 2))))) (sRet (fOp z3i (fN 2) (fN 3))) z0M)
 (sRet (fN 2))))))
def z2c:FC:=cOf 2 4 true z2W
def zaQ:FS:=(sRet (z0k 1 [0,1,3] (z0s (fN 2)) (Tg.one 0) fYes (z09 true z2c (z02 (z09 true z0J (z02 (fN 1) (z02 (fOp z0z (fN 2) (fN 0)) fNil))) (z02 (fN 3) fNil)))))
def z2x:FC:=cOf 4 4 true zaQ
def z7z:FS:=(sSeq (sSet [] 1 (fAt (fLst (z02 (fC (.int 0)) (z02 (fC (.int 0)) (z02 (fC (.int 0)) (z02 (fC (.int 1)) (z02 (fC (.int 2)) fNil)))))) (fOp z30 (z09 true z0J (z02 (fN 0) (z02 (fC (.int 2)) fNil))) (fC (.int 5)))))
 (sSeq (sSet [] 2 (fOp z0z (fC (.int 1)) (fOp z30 (z09 true z0J (z02 (fN 0) (z02 (fC (.int 0)) fNil))) (fC (.int 3)))))
 (sSeq (sSet [] 3 (fOp z30 (z09 true z0J (z02 (fN 0) (z02 (fC (.int 1)) fNil))) (fC (.int 4))))
 (sSeq (sSet [] 4 (fOp z30 (z09 true z0J (z02 (fN 0) (z02 (fC (.int 3)) fNil))) (fC (.int 4))))
 (sSeq (sIf (z0j (fOp opEq (fOp z30 (z09 true z0J (z02 (fN 0) (z02 (fC (.int 4)) fNil))) (fC (.int 7))) (fC (.int 6)))) (sSeq (sSet [] 2 (fC (.int 6)))
 (sSet [] 1 (fC (.int 0)))) z0M)
 (sSeq (sIf (z0j (fOp opEq (fN 1) (fC (.int 2)))) (sSeq (sSet [] 2 (fOp z0z (fC (.int 1)) (fOp z30 (fN 2) (fC (.int 2)))))
 (sSeq (sSet [] 3 (fOp z30 (fN 3) (fC (.int 3))))
 (sSet [] 4 (fOp z30 (fN 4) (fC (.int 3)))))) z0M)
 (sSeq (sSet [] 5 (z0k 1 [0,2,1] (z0s (fN 3)) (Tg.one 0) fYes (z09 true z2x (z02 (fN 1) (z02 (fOp z0z (fC (.int 8)) (fOp z19 (fN 2) (fN 0))) (z02 (fN 2) (z02 (fN 3) fNil)))))))
 (sSeq (sSet [] 6 (z0k 1 [0,2,1] (z0s (fN 4)) (Tg.one 0) fYes (z09 true z2x (z02 (fN 1) (z02 (fOp z0z (fC (.int 27)) (fOp z19 (fN 2) (fN 0))) (z02 (fN 2) (z02 (fN 3) fNil)))))))
 (sRet (fTup (z02 (fN 2) (z02 (fN 5) (z02 (fN 6) fNil)))))))))))))
def zaR:FC:=cOf 1 7 true z7z
def z5k:FS:=(sRet (z0k 1 [] (iSeq (fN 0)) (Tg.one 0) fYes (fBlt bLst (z02 (fN 0) fNil))))
def z2X:FC:=cOf 1 1 true z5k
def z8r:FS:=(sSeq (sSet [] 1 (fC (.int 0)))
 (sSeq (z24 (fAnd (z0j (fOp opLt (fN 1) (fBlt bLen (z02 (fN 0) fNil)))) (z0j (fOp opEq (fAt (fN 0) (fN 1)) (fC (.int 0))))) (sSet [] 1 (fOp z0z (fN 1) (fC (.int 1)))))
 (sRet (fN 1))))
def z4q:FC:=cOf 1 2 true z8r
def z6A:FS:=(sSeq (sSet [] 2 (fBlt bLst (z02 (fN 1) fNil)))
 (sSeq (sOwn 3 (fLst fNil))
 (sSeq (sFor [] (iSeq (fN 0)) (Tg.one 4)
 (sSeq (sSet [] 5 (z09 true z4q (z02 (fN 4) fNil)))
 (sSeq (sSet [] 6 (fOp z2N (fAt (fN 2) (fN 5)) (fAt (fN 4) (fN 5))))
 (sSeq (sSet [] 2 (z0k 1 [2,6,4] (z0s (fBlt bLen (z02 (fN 2) fNil))) (Tg.one 0) fYes (fOp z3i (fAt (fN 1) (fN 0)) (fOp z19 (fN 2) (fAt (fN 3) (fN 0))))))
 (sWr wApp 3 (fN 6))))))
 (sRet (fN 3)))))
def z3o:FC:=cOf 2 7 true z6A
def z8s:FS:=(sSeq (sOwn 1 (z0k 1 [] (iSeq (fN 0)) (Tg.one 0) fYes (fBlt bLst (z02 (fN 0) fNil))))
 (sSeq (sSet [] 2 (fC (.int 1)))
 (sSeq (z9v (z0s (fBlt bLen (z02 (fN 1) fNil))) (Tg.one 3)
 (sSeq (sSet [] 4 (fN 3))
 (sSeq (z24 (fAnd (z0j (fOp opLt (fN 4) (fBlt bLen (z02 (fN 1) fNil)))) (z0j (fOp opEq (fAt (fAt (fN 1) (fN 4)) (fN 3)) (fC (.int 0))))) (sSet [] 4 (fOp z0z (fN 4) (fC (.int 1)))))
 (sSeq (sIf (z0j (fOp opEq (fN 4) (fBlt bLen (z02 (fN 1) fNil)))) (sRet (fC (.int 0))) z0M)
 (sSeq (z5F 1 5 (fN 4))
 (sSeq (zg7 1 (fN 4) (fN 3))
 (sSeq (sPut 1 (fN 3) (fN 5))
 (sSeq (z9v (z7r (fOp z0z (fN 3) (fC (.int 1))) (fBlt bLen (z02 (fN 1) fNil))) (Tg.one 6)
 (sSeq (z5F 1 7 (fN 6))
 (sSeq (sSet [] 8 (z0k 1 [7,5,3] (z0s (fBlt bLen (z02 (fN 7) fNil))) (Tg.one 0) fYes (fOp z3i (fOp z19 (fAt (fN 1) (fN 0)) (fAt (fN 2) (fN 3))) (fOp z19 (fAt (fN 1) (fN 3)) (fAt (fN 2) (fN 0))))))
 (sPut 1 (fN 6) (z0k 1 [2] (iSeq (fN 8)) (Tg.one 0) fYes (fOp z2N (fN 0) (fN 1)))))))
 (sSet [] 2 (fAt (fN 5) (fN 3)))))))))))
 (sRet (fBlt bAbs (z02 (fN 2) fNil))))))
def z4r:FC:=cOf 1 9 true z8s
def z4s:FS:=(sSeq (sIf (z0j (fOp zaC (z09 true z4o (z02 (fN 0) (z02 (fN 1) fNil))) (fC (.bl true)))) (sRet (fC (.int 0))) z0M)
 (sSeq (sSet [] 2 (z09 true z3N (z02 (fN 0) (z02 (fN 1) fNil))))
 (sSeq (sSet [] 3 (z09 true z15 (z02 (fN 0) fNil)))
 (sSeq (sSet [] 4 (z09 true z15 (z02 (fN 1) fNil)))
 (sSeq (sIf (z0j (fOp opLt (fBlt bLen (z02 (fN 3) fNil)) (fBlt bLen (z02 (fN 4) fNil)))) (sRet (fAt (fLst (z02 (fC (.int 0)) (z02 (fC .non) fNil))) (fBlt bInt (z02 (fOp z9n (fN 2) (fC .non)) fNil)))) z0M)
 (sSeq (sIf (fOr (fNot (fTru (z09 true z4V (z02 (fN 2) fNil)))) (z0j (fOp opNe (fN 2) (z09 true z4r (z02 (z0k 1 [4] (iSeq (fN 3)) (Tg.one 0) fYes (z09 true z3o (z02 (fN 1) (z02 (fN 0) fNil)))) fNil))))) (sRet (fC (.int 0))) z0M)
 (sSeq (sSet [] 5 (z09 true z2V (z02 (fN 0) fNil)))
 (sSeq (sSet [] 6 (z09 true z2V (z02 (fN 1) fNil)))
 (sSeq (sIf (fAnd (z0j (fOp z7O (fN 5) (fC .non))) (fOr (z0j (fOp z9n (fN 6) (fC .non))) (z0j (fOp opNe (fN 5) (fOp z19 (fN 6) (fN 2)))))) (sRet (fC (.int 0))) z0M)
 (sRet (fN 2)))))))))))
def z0Z:FC:=cOf 2 7 true z4s
def ziV:FS:=(sSeq (sSet [] 1 (z09 true zaR (z02 (fN 0) fNil)))
 (sSeq (sSet [] 2 (z09 true z2H (z02 (fAt (fN 1) (fC (.int 0))) (z02 (z09 true z2X (z02 (fAt (fN 1) (fC (.int 1))) fNil)) fNil))))
 (sSeq (sSet [] 3 (z09 true z2H (z02 (fAt (fN 1) (fC (.int 0))) (z02 (z09 true z2X (z02 (fAt (fN 1) (fC (.int 2))) fNil)) fNil))))
 (sSeq (sSet [] 4 (z09 true ziU (z02 (fN 2) (z02 (fN 3) fNil))))
 (sSeq (sSet [] 5 (z09 true z5X (z02 (fN 2) (z02 (fN 3) fNil))))
 (sSeq (sSet [] 6 (z09 true z0Z (z02 (fN 4) (z02 (fN 2) fNil))))
 (sSeq (sSet [] 7 (z09 true z0Z (z02 (fN 3) (z02 (fN 5) fNil))))
 (sSeq (sIf (fOr (z0j (fOp opEq (fN 6) (fC (.int 0)))) (fOr (z0j (fOp opEq (fN 7) (fC (.int 0)))) (z0j (fOp opNe (fN 6) (fN 7))))) (sRet (fC (.bl false))) z0M)
 (sSeq (sSet [] 6 (z09 true z0Z (z02 (fN 4) (z02 (fN 3) fNil))))
 (sSeq (sSet [] 7 (z09 true z0Z (z02 (fN 2) (z02 (fN 5) fNil))))
 (sRet (vAnd (fOp opNe (fN 6) (fC (.int 0))) (vAnd (fOp opNe (fN 7) (fC (.int 0))) (fOp opEq (fN 6) (fN 7)))))))))))))))
def zbY:FC:=cOf 1 8 true ziV
theorem z1s(ns:List Int)(k:Int)(h0:0≤k):z0J [.scr ns,.int k]=some (.int (z0t ns k)):=by
 unfold z0J z4p z0t
 by_cases h:k<ns.length
 · have e:atI ns k=some (ns.getD k.toNat 0):=by
     rw[zg8 h0,List.getElem?_eq_getElem (by omega)];simp[List.getD,List.getElem?_eq_getElem (show k.toNat<ns.length by omega)]
   simp[cOf,h,e]
 · by_cases h2:ns=[]
   · subst h2
     simp[cOf,h,zbC [] [],show ¬k<0 by omega]
     rfl
   · have hp:0<ns.length:=List.length_pos_iff.mpr h2
     obtain⟨f1,f2⟩:=z1k k (show(0:Int)<ns.length by omega)
     have e:atI ns (k.fmod ns.length)=some (ns.getD (k.fmod ns.length).toNat 0):=by
      rw[zg8 f1,List.getElem?_eq_getElem (by omega)];simp[List.getD,List.getElem?_eq_getElem (show(k.fmod ns.length).toNat<ns.length by omega)]
     have e2:opEq (.scr ns) (.lst [])=some (.nw,.bl false):=by have:=zbC ns [];rw[decide_eq_false h2]at this;exact this
     simp[cOf,h,h2,e,e2,z6W,z6P,show ¬((ns.length:Int)=0) by omega]
theorem zbZ(c m:Int)(h0:0≤m)(h3:m<3):z2c [.int c,.int m]=some (.int (z9z c m)):=by
 unfold z2c z9z
 have hm:m=0∨m=1∨m=2:=by omega
 have d30:z1J c 1000000000000000000000000000000=true:=by unfold z1J;decide
 have d9:z1J 9 2=true:=by unfold z1J;decide
 have d61:z1J 61 2=true:=by unfold z1J;decide
 have p30:z7M 10 30=true:=by unfold z7M;decide
 have two:∀(m w v:Int),m≠2→atI [Dt.int 9,Dt.int 61] m=some (.int w)→0<w→z1J w 2=true→w.fdiv 2=v→cOf 2 4 true z2W [.int c,.int m]=some (.int (if v<c.fmod w then c.fmod w-w else c.fmod w)):=fun m w v hm2 ha hw hd hv=>by
   refine z4M (f := .nw) rfl (run (ρ':=[.sh false (.int c),.sh false (.int m),.no,.no]) (by simp[cOf,z0N,hm2]) (run (ρ':=[.sh false (.int c),.sh false (.int m),.no,.sh true (.int w)]) (by simp[cOf,ha]) (run (ρ':=[.sh false (.int c),.sh false (.int m),.sh true (.int (c.fmod w)),.sh true (.int w)]) (by simp[cOf,z6P,show ¬w=0 by omega]) ?_))) rfl
   by_cases h:v<c.fmod w
   · simp[cOf,hd,hv,h]
   · simp[cOf,hd,hv,h]
 rcases hm with rfl|rfl|rfl
 · exact(two 0 9 4 (by decide) rfl (by decide) d9 rfl).trans (by simp)
 · exact(two 1 61 30 (by decide) rfl (by decide) d61 rfl).trans (by simp)
 · by_cases h:(c.fdiv 1000000000000000000000000000000).fmod 2=1
   · simp[cOf,z2W,z0N,z6P,p30,d30,h]
   · simp[cOf,z2W,z0N,z6P,p30,d30,h]
theorem ziW(ns:List Int)(a:Int)(n:Nat)(m:Int)(ha:0≤a)(hn:n≤1000)(h0:0≤m)(h3:m<3):z2x [.scr ns,.int a,.int n,.int m]=some (L (z40 ns a n m)):=by
 unfold z2x zaQ
 have q:z0k 1 [0,1,3] (z0s (fN 2)) (Tg.one 0) fYes (z09 true z2c (z02 (z09 true z0J (z02 (fN 1) (z02 (fOp z0z (fN 2) (fN 0)) fNil))) (z02 (fN 3) fNil))) (rho0 4 [.scr ns,.int a,.int n,.int m])=some (.nw,L (z40 ns a n m)):=by
  have:=z0u (nt:=1) (js:=[0,1,3]) (Fi:=z0s (fN 2)) (g:=Tg.one 0) (Fe:=z09 true z2c (z02 (z09 true z0J (z02 (fN 1) (z02 (fOp z0z (fN 2) (fN 0)) fNil))) (z02 (fN 3) fNil))) (ρ:=rho0 4 [.scr ns,.int a,.int n,.int m]) (e:=fun(k:Nat) => .int (0+(k:Int))) (h:=fun(k:Nat) => .int (z9z (z0t ns (a+(k:Int))) m)) (xs:=List.range n)
   (by simp[cOf,z0s,intD,z20,z1j,show(n:Int)≤1000000 by omega,show -1000000≤(n:Int) by omega])
   (fun k hk=>by simp[cOf,Tg.put,sigD,z3Z,z1s ns (a+(k:Int)) (by omega),zbZ _ m h0 h3])
  rw[this];simp[L,z40]
 exact z4M rfl (f := .nw) (by unfold sRet;rw[q];rfl) rfl
theorem z6Z(d:Dt):z27 [d]=some (.bl (isWh d)):=by
 unfold z27 z5g
 cases d<;>simp[cOf,isWh,Dt.flat,nrm]
theorem zhe(a:List Int)(n:Int):z5W [L a,.int n]=some (.bl (decide ((a.length:Int)=n))):=by
 unfold z5W z8k
 have q:z0k 1 [] (iSeq (fN 0)) (Tg.one 0) fYes (z09 true z27 (z02 (fN 0) fNil)) [.sh false (L a),.sh false (.int n)]=some (.nw,.lst (a.map fun _ => .bl true)) :=
   z0u (e:=Dt.int) (h:=fun _ => .bl true) (xs:=a) (by simp[cOf]) (fun x _=>by simp[cOf,Tg.put,sigD,z6Z,isWh])
 by_cases h:(a.length:Int)=n
 · simp[cOf,z1z,h,q,bAll,z4L (fun _=>true) a]
 · simp[cOf,z1z,h]
theorem z8t(n:Nat)(h:n≤1000):z28 [.int n]=some (L (z1d n)):=by
 unfold z28 z6q
 have q:z0k 1 [] (z0s (fN 0)) (Tg.one 0) fYes (fC (.int 0)) [.sh false (.int n)]=some (.nw,L (z1d n)):=by
  rw[z0u (e:=fun(k:Nat) => .int (0+(k:Int))) (h:=fun _ => .int 0) (xs:=List.range n) (by simp[cOf,z0s,intD,z20,z1j,show(n:Int)≤1000000 by omega,show -1000000≤(n:Int) by omega]) (fun x _=>by simp[cOf,Tg.put])]
  simp[L,z1d,List.map_const']
 simp[cOf,q]
theorem ziX(a b:List Int)(h:a.length=b.length):z7y [L a,L b]=some (L (addR a b)):=by
 unfold z7y zaN
 have q:z0k 2 [] (iZip (fN 0) (fN 1)) (Tg.many [0,1]) fYes (fOp z0z (fN 0) (fN 1)) [.sh false (L a),.sh false (L b)]=some (.nw,L (addR a b)):=by
  rw[z0u (e:=fun p:Int×Int => .tup [.int p.1,.int p.2]) (h:=fun p => .int (p.1+p.2)) (xs:=a.zip b) (by simp[cOf,iZip,h,z5J]) (fun p _=>by simp[cOf,Tg.put,z22,sigD]),ziw]
 simp[cOf,q]
theorem zc0(a b:List Int)(h:a.length=b.length):z4S [L a,L b]=some (L (subR a b)):=by
 unfold z4S zaO
 have q:z0k 2 [] (iZip (fN 0) (fN 1)) (Tg.many [0,1]) fYes (fOp z3i (fN 0) (fN 1)) [.sh false (L a),.sh false (L b)]=some (.nw,L (subR a b)):=by
  rw[z0u (e:=fun p:Int×Int => .tup [.int p.1,.int p.2]) (h:=fun p => .int (p.1-p.2)) (xs:=a.zip b) (by simp[cOf,iZip,h,z5J]) (fun p _=>by simp[cOf,Tg.put,z22,sigD]),zh4]
 simp[cOf,q]
theorem z2J(a:List Int)(k:Int)(h:∀ x∈a,z12 k x=true):z1C [L a,.int k]=some (L (sclR k a)):=by
 unfold z1C z8l
 have q:z0k 1 [1] (iSeq (fN 0)) (Tg.one 0) fYes (fOp z19 (fN 1) (fN 0)) [.sh false (L a),.sh false (.int k)]=some (.nw,L (sclR k a)):=by
  rw[z0u (e:=Dt.int) (h:=fun x => .int (k*x)) (xs:=a) (by simp[cOf]) (fun x hx=>by simp[cOf,Tg.put,sigD,z3Z,h x hx])]
  simp[L,sclR]
 simp[cOf,q]
theorem zaS(n:Nat)(h1:1≤n)(h2:n≤6):z37 [.int n]=some (.bl true):=by
 unfold z37 z4j
 have e:=z6Z (.int n)
 simp[cOf,e,isWh,z7N,show(1:Int)≤n by omega,show(n:Int)≤6 by omega]
theorem z93(n:Nat)(h1:1≤n)(h2:n≤6):z2w [.int n]=some .non:=by
 unfold z2w z3L
 simp[cOf,zaS n h1 h2]
theorem zd8(a:List Int)(n:Nat)(hl:a.length=n)(h:∀ x∈a,x.natAbs<10 ^ 30):z4T [L a,.int n]=some (.bl true):=by
 unfold z4T z6s
 have e:=zhe a n
 have p30:z7M 10 30=true:=by unfold z7M;decide
 have q:z0k 1 [] (iSeq (fN 0)) (Tg.one 0) fYes (fOp opLt (fBlt bAbs (z02 (fN 0) fNil)) (fOp z9j (fC (.int 10)) (fC (.int 30)))) [.sh false (L a),.sh false (.int n)]=some (.nw,.lst (a.map fun _ => .bl true)) :=
  z0u (e:=Dt.int) (h:=fun _ => .bl true) (xs:=a) (by simp[cOf]) (fun x hx=>by
   have:=h x hx
   have:(if x<0 then -x else x)<1000000000000000000000000000000:=by split<;>omega
   simp[cOf,Tg.put,sigD,bAbs,p30,this])
 simp[cOf,e,hl,q,bAll,z4L (fun _=>true) a]
theorem zaT(a:List Int)(n:Nat)(hl:a.length=n)(h:∀ x∈a,x.natAbs<10 ^ 30):z1N [L a,.int n]=some .non:=by
 unfold z1N z4k
 simp[cOf,zd8 a n hl h]
theorem z5l(k:Int)(rows:List (List Int)):z2G [.int k,LL rows]=some (z0w k rows):=by
 unfold z2G z6t
 have q:z0k 1 [] (iSeq (fN 1)) (Tg.one 0) fYes (fBlt bTup (z02 (fN 0) fNil)) [.sh false (.int k),.sh false (LL rows)]=some (.nw,.lst (rows.map T)) :=
  z0u (e:=L) (h:=T) (xs:=rows) (by simp[cOf]) (fun x hx=>by simp[cOf,Tg.put,sigD,bTup,z2Q])
 simp[cOf,q,bTup,z9y]
theorem zd9(n:Nat)(bills:List (List Int))(h1:1≤n)(h2:n≤6)(hm:bills.length≤8)(hw:Wide n bills)(hb:∀ r∈bills,∀ x∈r,x.natAbs<10 ^ 30):z2H [.int n,LL bills]=some (z0w n bills):=by
 unfold z2H z6u
 obtain⟨j,q⟩:=z9x (g:=Tg.one 2) (F:=z54 (z09 true z1N (z02 (fN 2) (z02 (fN 0) fNil)))) (e:=L) (R:=fun(_:Unit) (c:Cell)=>[.sh false (.int n),.sh false (LL bills),c]) (step:=fun _ _=>()) bills () .no
  (fun b x j hx=>⟨.sh false (L x),by simp[cOf,Tg.put,zaT x n (hw x hx) (hb x hx)]⟩)
 have q:forF (Tg.one 2) (z54 (z09 true z1N (z02 (fN 2) (z02 (fN 0) fNil)))) (bills.map L) [.sh false (.int n),.sh false (LL bills),.no]=some (.nx [.sh false (.int n),.sh false (LL bills),j]):=q
 simp[cOf,z93 n h1 h2,show ¬(8<(bills.length:Int)) by omega,q,z5l]
abbrev HF:FS:=sIf (z0j (fOp opNe (fN 2) (fC (.int 0)))) (sRet (fN 1)) z0M
theorem z9R(c0:Cell):∀(r:List Int) (j:Nat) (c1 c2:Cell),(St.z00 r<r.length→forF (Tg.many [1,2]) HF (z2p j (r.map .int)) [c0,c1,c2]=some (.rt .nw (.int ((j+St.z00 r:Nat):Int)))) ∧
  (¬St.z00 r<r.length→∃ c1' c2',forF (Tg.many [1,2]) HF (z2p j (r.map .int)) [c0,c1,c2]=some (.nx [c0,c1',c2']))
 | [],j,c1,c2=>⟨fun h=>by simp[St.z00]at h,fun _=>⟨c1,c2,rfl⟩⟩
 | x::r,j,c1,c2=>by
  obtain⟨i1,i2⟩:=z9R c0 r (j+1) (.sh false (.int j)) (.sh false (.int x))
  rw[List.map_cons,z2p,z1K]
  by_cases hx:x=0
  · have e:(Tg.put (Tg.many [1,2]) (.tup [.int j,.int x]) [c0,c1,c2]).bind HF=some (.nx [c0,.sh false (.int j),.sh false (.int x)]):=by simp[cOf,z1z,hx]
    have eh:St.z00 (x::r)=St.z00 r+1:=by simp[St.z00,hx]
    rw[e,eh,List.length_cons]
    refine⟨fun h=>?_,fun h=>i2 (by omega)⟩
    have:=i1 (by omega)
    rw[show j+(St.z00 r+1)=j+1+St.z00 r by omega]
    exact this
  · have e:(Tg.put (Tg.many [1,2]) (.tup [.int j,.int x]) [c0,c1,c2]).bind HF=some (.rt .nw (.int j)):=by simp[cOf,z1z,hx]
    have eh:St.z00 (x::r)=0:=by simp[St.z00,hx]
    rw[e,eh,List.length_cons]
    exact⟨fun _=>rfl,fun h=>absurd (Nat.succ_pos _) h⟩
theorem z10(r:List Int):z0g [L r]=some (.int (St.z00 r)):=by
 unfold z0g z6r
 obtain⟨h1,h2⟩:=z9R (.sh false (L r)) r 0 .no .no
 have hl:=St.z4O r
 by_cases h:St.z00 r<r.length
 · have h1:=h1 h
   simp only[Nat.zero_add]at h1
   simp[cOf,h1]
 · obtain⟨c1,c2,h2⟩:=h2 h
   simp[cOf,h2,show St.z00 r=r.length by omega]
theorem z1H{r:List Int}{k:Nat}(h:k<r.length):atI (r.map Dt.int) (k:Int)=some (.int (St.at0 r k)):=by
 rw[z83,zd0 h];simp[St.at0,List.getD,List.getElem?_eq_getElem h]
theorem zm0(a b:List Int)(q:Int):subR a (sclR q b)=St.sub a q b:=by
 unfold subR sclR St.sub
 rw[List.zipWith_map_right]
theorem zgk{r:List Int}{x:Int}(h:x∈r):∃ k,St.at0 r k=x:=by
 obtain⟨k,hk,e⟩:=List.mem_iff_getElem.mp h
 exact⟨k,by simp[St.at0,List.getD,List.getElem?_eq_getElem hk,e]⟩
theorem zgl{x:Int}{m:Nat}(h:x.natAbs<2 ^ m):Builtin.Int.intBits x≤m:=zaw h
theorem z1g{i j:Int}{m k:Nat}(h1:i.natAbs<2 ^ m)(h2:j.natAbs<2 ^ k)(h:m+k≤134217728):z12 i j=true:=by
 unfold z12
 rw[decide_eq_true (show Builtin.Int.intBits i+Builtin.Int.intBits j≤134217728 from by have:=zgl h1;have:=zgl h2;omega)]
 rfl
theorem z2K{i j:Int}(h0:0<j)(h:j<2 ^ 9000):z1J i j=true:=by
 unfold z1J
 rw[decide_eq_true (show j≠0 by omega),decide_eq_true (show j.natAbs.log2<9000 from ?_)]
 · rfl
 · rw[Nat.log2_lt (by omega)]
   have:((2 ^ 9000:Nat):Int)=(2:Int) ^ 9000:=by norm_cast
   omega
abbrev LF:FS:=(sSeq (sSet [] 5 (z09 true z0g (z02 (fN 4) fNil)))
 (sSeq (sSet [] 6 (fOp z2N (fAt (fN 2) (fN 5)) (fAt (fN 4) (fN 5))))
 (sSeq (sIf (z0j (fOp opNe (fN 6) (fC (.int 0)))) (sSet [] 2 (z09 true z4S (z02 (fN 2) (z02 (z09 true z1C (z02 (fN 4) (z02 (fN 6) fNil))) fNil)))) z0M)
 (sWr wApp 3 (fN 6)))))
theorem z8u{n m:Nat}(hm:2*m≤134217728)(c0 c1:Cell):∀(S:List (List Int)) (left:List Int) (cs:List Int) (c4 c5 c6:Cell),(∀ r∈S,r.length=n∧St.z00 r<n∧0<St.hd r∧St.hd r<2 ^ 9000)→left.length=n→St.LowB m left S→cs.length+S.length≤1000 →
  ∃ c4' c5' c6',forF (Tg.one 4) LF (S.map L) [c0,c1,.sh true (L left),.ow true (cs.map .int),c4,c5,c6]=some (.nx [c0,c1,.sh true (L (St.z0f left S)),.ow true ((cs++St.z0B left S).map .int),c4',c5',c6'])
 | [],left,cs,c4,c5,c6,_,_,_,_=>⟨c4,c5,c6,by simp[zbD,St.z0f,St.z0B]⟩
 | r::S,left,cs,c4,c5,c6,hr,hl,hb,hc=>by
  obtain⟨r1,r2,r3,r4⟩:=hr r List.mem_cons_self
  have hs:(St.sub left (St.z0n left r) r).length=n:=by rw[St.z1D (by omega)];exact hl
  obtain⟨d4,d5,d6,ih⟩:=z8u hm c0 c1 S (St.sub left (St.z0n left r) r) (cs++[St.z0n left r]) (.sh false (L r)) (.sh true (.int (St.z00 r))) (.sh true (.int (St.z0n left r))) (fun x hx=>hr x (List.mem_cons_of_mem _ hx)) hs hb.2 (by simp at hc ⊢;omega)
  refine⟨d4,d5,d6,?_⟩
  rw[List.map_cons,z1K]
  have a1:=z1H (r:=left) (k:=St.z00 r) (by omega)
  have a2:=z1H (r:=r) (k:=St.z00 r) (by omega)
  have dv:z1J (St.at0 left (St.z00 r)) (St.at0 r (St.z00 r))=true:=z2K r3 r4
  have ef:(St.at0 left (St.z00 r)).fdiv (St.at0 r (St.z00 r))=St.z0n left r:=rfl
  have hcs:cs.length<1000000:=by simp at hc;omega
  have e:(Tg.put (Tg.one 4) (L r) [c0,c1,.sh true (L left),.ow true (cs.map .int),c4,c5,c6]).bind LF=some (.nx [c0,c1,.sh true (L (St.sub left (St.z0n left r) r)),.ow true ((cs++[St.z0n left r]).map .int),.sh false (L r),.sh true (.int (St.z00 r)),.sh true (.int (St.z0n left r))]):=by
   refine(show LF [c0,c1,.sh true (L left),.ow true (cs.map .int),.sh false (L r),c5,c6]=_ from run (ρ':=[c0,c1,.sh true (L left),.ow true (cs.map .int),.sh false (L r),.sh true (.int (St.z00 r)),c6]) (by simp[cOf,z10]) (run (ρ':=[c0,c1,.sh true (L left),.ow true (cs.map .int),.sh false (L r),.sh true (.int (St.z00 r)),.sh true (.int (St.z0n left r))]) (by simp[cOf,a1,a2,dv,ef]) (run (ρ':=[c0,c1,.sh true (L (St.sub left (St.z0n left r) r)),.ow true (cs.map .int),.sh false (L r),.sh true (.int (St.z00 r)),.sh true (.int (St.z0n left r))]) ?_ (by simp[cOf,hcs]))))
   by_cases ho:St.z0n left r=0
   · have es:St.sub left (St.z0n left r) r=left:=by rw[ho];exact St.zbI (by omega)
     rw[es]
     simp[cOf,ho,z1z]
   · have mo:∀ x∈r,z12 (St.z0n left r) x=true:=fun x hx=>by
      obtain⟨k,rfl⟩:=zgk hx
      rcases hb.1 with h|⟨h1,h2⟩
      · exact absurd h ho
      · exact z1g h1 (h2 k) (by omega)
     have e1:=z2J r (St.z0n left r) mo
     have e2:=zc0 left (sclR (St.z0n left r) r) (by rw[z1l];omega)
     rw[zm0]at e2
     simp[cOf,ho,z1z,e1,e2]
  rw[e]
  show forF (Tg.one 4) LF (S.map L) _=_
  rw[ih,St.z0f,St.z0B]
  simp
def RowD(d:Dt)(v:List Int):Prop:=d=L v∨d=T v
theorem zc1{n m:Nat}(d:Dt)(v:List Int)(S:List (List Int))(hd:RowD d v)(hm:2*m≤134217728)(hr:∀ r∈S,r.length=n∧St.z00 r<n∧0<St.hd r∧St.hd r<2 ^ 9000)(hl:v.length=n)(hb:St.LowB m v S)(hc:S.length≤1000):
   z3M [d,LL S]=some (.tup [L (St.z0B v S),L (St.z0f v S)]):=by
 unfold z3M z5h
 rcases hd with rfl|rfl
 · obtain⟨d4,d5,d6,q⟩:=z8u hm (.sh false (L v)) (.sh false (LL S)) S v [] .no .no .no hr hl hb (by simpa using hc)
   simp[cOf]at q ⊢;simp[q]
 · obtain⟨d4,d5,d6,q⟩:=z8u hm (.sh false (T v)) (.sh false (LL S)) S v [] .no .no .no hr hl hb (by simpa using hc)
   simp[cOf]at q ⊢;simp[q]
theorem z3O{n m:Nat}(d:Dt)(v:List Int)(S:List (List Int))(hd:RowD d v)(hm:2*m≤134217728)(hr:∀ r∈S,r.length=n∧St.z00 r<n∧0<St.hd r∧St.hd r<2 ^ 9000)(hl:v.length=n)(hb:St.LowB m v S)(hc:S.length≤1000):
  z0G [d,LL S]=some (L (St.z0f v S)):=by
 have e:=zc1 d v S hd hm hr hl hb hc
 have hn:nrm (flOf false) d=(if d.flat then .nw else .sh,d):=rfl
 unfold z0G z6w
 rcases hd with rfl|rfl<;>simp[cOf,e,ziy]
theorem zhf{i j:Int}(h0:j≠0)(h:j.natAbs<2 ^ 9000):z1J i j=true:=by
 unfold z1J
 rw[decide_eq_true h0,decide_eq_true (show j.natAbs.log2<9000 from(Nat.log2_lt (by omega)).mpr h)]
 rfl
abbrev BC:FT:=z0j (fOp opNe (fAt (fN 3) (fC (.int 0))) (fC (.int 0)))
abbrev BF:FS:=(sSeq (sSet [] 4 (fOp z2N (fAt (fN 2) (fC (.int 0))) (fAt (fN 3) (fC (.int 0)))))
 (sSeq (sSet [] 5 (z0k 1 [2,4,3] (z0s (fC (.int 3))) (Tg.one 0) fYes (fOp z3i (fAt (fN 1) (fN 0)) (fOp z19 (fN 2) (fAt (fN 3) (fN 0))))))
 (sSeq (sSet [] 2 (fN 3))
 (sSet [] 3 (fN 5)))))
theorem zc2(c0 c1 c4 c5:Cell)(u0 u1 u2 l0 l1 l2:Int)(hl:l0≠0)(h:l0.natAbs<2 ^ 9000)(m0:z12 (u0.fdiv l0) l0=true)(m1:z12 (u0.fdiv l0) l1=true)(m2:z12 (u0.fdiv l0) l2=true):
  BF [c0,c1,.sh true (L [u0,u1,u2]),.sh true (L [l0,l1,l2]),c4,c5]=some (.nx [c0,c1,.sh true (L [l0,l1,l2]),.sh true (L [u0-u0.fdiv l0*l0,u1-u0.fdiv l0*l1,u2-u0.fdiv l0*l2]),.sh true (.int (u0.fdiv l0)),.sh true (L [u0-u0.fdiv l0*l0,u1-u0.fdiv l0*l1,u2-u0.fdiv l0*l2])]):=by
 have dv:=zhf (i:=u0) hl h
 have q:z0k 1 [2,4,3] (z0s (fC (.int 3))) (Tg.one 0) fYes (fOp z3i (fAt (fN 1) (fN 0)) (fOp z19 (fN 2) (fAt (fN 3) (fN 0)))) [z32 c0,z32 c1,.sh true (L [u0,u1,u2]),.sh true (L [l0,l1,l2]),.sh true (.int (u0.fdiv l0)),z32 c5]=some (.nw,L [u0-u0.fdiv l0*l0,u1-u0.fdiv l0*l1,u2-u0.fdiv l0*l2]):=by
  rw[z0u (e:=fun(k:Nat) => .int (0+(k:Int))) (h:=fun(k:Nat) => .int ([u0,u1,u2].getD k 0-u0.fdiv l0*[l0,l1,l2].getD k 0)) (xs:=List.range 3) (by simp[cOf,show z20 3=true from z84 (n:=3) (by decide),z1j]) (fun k hk=>by
   have hk:k<3:=List.mem_range.mp hk
   have a1:=zbF (xs:=[u0,u1,u2]) (i:=k) 0 hk
   have a2:=zbF (xs:=[l0,l1,l2]) (i:=k) 0 hk
   have mk:z12 (u0.fdiv l0) ([l0,l1,l2].getD k 0)=true:=by
    have:k=0∨k=1∨k=2:=by omega
    rcases this with rfl|rfl|rfl
    · exact m0
    · exact m1
    · exact m2
   generalize [u0,u1,u2].getD k 0=uk at *
   generalize [l0,l1,l2].getD k 0=lk at *
   generalize [u0,u1,u2]=us at *
   generalize [l0,l1,l2]=ls at *
   simp[cOf,z83,a1,a2,mk])]
  rfl
 exact run (ρ':=[c0,c1,.sh true (L [u0,u1,u2]),.sh true (L [l0,l1,l2]),.sh true (.int (u0.fdiv l0)),c5]) (by simp[cOf,dv]) (run (ρ':=[c0,c1,.sh true (L [u0,u1,u2]),.sh true (L [l0,l1,l2]),.sh true (.int (u0.fdiv l0)),.sh true (L [u0-u0.fdiv l0*l0,u1-u0.fdiv l0*l1,u2-u0.fdiv l0*l2])]) (by simp[cOf,q]) (run (ρ':=[c0,c1,.sh true (L [l0,l1,l2]),.sh true (L [l0,l1,l2]),.sh true (.int (u0.fdiv l0)),.sh true (L [u0-u0.fdiv l0*l0,u1-u0.fdiv l0*l1,u2-u0.fdiv l0*l2])]) (by simp[cOf]) (by simp[cOf])))
theorem zc3{a b:Int}{e:Nat}(he:e≤9000)(ha:a.natAbs<2 ^ e)(hb:b.natAbs<2 ^ e)(c0 c1:Cell):∀(k:Nat) (u0 u1 u2 l0 l1 l2:Int) (c4 c5:Cell),Br.BI a b u0 u1 u2 l0 l1 l2→l0.natAbs≤k →
 ∃ v0 v1 v2 w1 w2 d4 d5,z16 BC BF (k+1) [c0,c1,.sh true (L [u0,u1,u2]),.sh true (L [l0,l1,l2]),c4,c5]=some (.nx [c0,c1,.sh true (L [v0,v1,v2]),.sh true (L [0,w1,w2]),d4,d5])∧Br.BI a b v0 v1 v2 0 w1 w2:=by
 intro k
 induction k using Nat.strongRecOn with
 | _ k IH =>
 intro u0 u1 u2 l0 l1 l2 c4 c5 B hk
 have hc:BC [c0,c1,.sh true (L [u0,u1,u2]),.sh true (L [l0,l1,l2]),c4,c5]=some (!decide (l0=0)):=by simp[cOf,z1z]
 rw[z16,hc,z0x]
 by_cases hl:l0=0
 · subst hl
   exact⟨u0,u1,u2,l1,l2,c4,c5,by simp,B⟩
 · have p3:2 ^ (e+3)=8*2 ^ e:=by rw[Nat.pow_add];omega
   obtain⟨z1,z2,z3,z4⟩:=Br.zg9 u0 l0 hl
   have c1':=B.c1
   have c2':=B.c2
   have b3:=B.b3
   have b4:=B.b4
   have hq:(u0.fdiv l0).natAbs<2 ^ (e+3):=by
    have:1*(u0.fdiv l0).natAbs≤l0.natAbs*(u0.fdiv l0).natAbs:=Nat.mul_le_mul_right _ (by omega)
    rw[Nat.mul_comm l0.natAbs]at this
    omega
   have h9:(2:Nat) ^ e≤2 ^ 9000:=Nat.pow_le_pow_right (by decide) he
   have st:=zc2 c0 c1 c4 c5 u0 u1 u2 l0 l1 l2 hl (by omega) (z1g hq (show l0.natAbs<2 ^ (e+3) by omega) (by omega)) (z1g hq (show l1.natAbs<2 ^ (e+3) by omega) (by omega)) (z1g hq (show l2.natAbs<2 ^ (e+3) by omega) (by omega))
   cases k with
   | zero=>omega
   | succ k =>
    obtain⟨v0,v1,v2,w1,w2,d4,d5,ih,B'⟩:=IH k (Nat.lt_succ_self k) _ _ _ _ _ _ (.sh true (.int (u0.fdiv l0))) (.sh true (L [u0-u0.fdiv l0*l0,u1-u0.fdiv l0*l1,u2-u0.fdiv l0*l2])) (B.turn hl) (by omega)
    refine⟨v0,v1,v2,w1,w2,d4,d5,?_,B'⟩
    rw[st]
    simp only[hl,decide_false,Bool.not_false,if_true,z0x]
    exact ih
theorem zhg(a b:Int)(e:Nat)(he:e≤9000)(ha:a.natAbs<2 ^ e)(hb:b.natAbs<2 ^ e):∃ x y,z8n [.int a,.int b]=some (T [(Int.gcd a b:Int),x,y])∧a*x+b*y=Int.gcd a b∧x.natAbs≤a.natAbs+2*b.natAbs+1∧y.natAbs≤a.natAbs+2*b.natAbs+1:=by
 obtain⟨v0,v1,v2,w1,w2,d4,d5,lp,B⟩:=zc3 he ha hb (.sh false (.int a)) (.sh false (.int b)) b.natAbs a 1 0 b 0 1 .no .no (Br.BI.start a b) (Nat.le_refl _)
 have lp:=z3l lp
 have fin:=B.fin
 have up:=B.up
 have b1:=B.b1
 have b2:=B.b2
 have pre:∀{r:Option Oc},(sSeq (sIf (z0j (fOp opLt (fAt (fN 2) (fC (.int 0))) (fC (.int 0)))) (sSet [] 2 (z0k 1 [] (iSeq (fN 2)) (Tg.one 0) fYes (fNeg (fN 0)))) z0M) (sRet (fBlt bTup (z02 (fN 2) fNil)))) [.sh false (.int a),.sh false (.int b),.sh true (L [v0,v1,v2]),.sh true (L [0,w1,w2]),d4,d5]=r→z8m (rho0 6 [.int a,.int b])=r:=fun h=>run (ρ':=[.sh false (.int a),.sh false (.int b),.sh true (L [a,1,0]),.no,.no,.no]) (by simp[cOf,L]) (run (ρ':=[.sh false (.int a),.sh false (.int b),.sh true (L [a,1,0]),.sh true (L [b,0,1]),.no,.no]) (by simp[cOf,L]) (run lp h))
 have at0:atI ([v0,v1,v2].map Dt.int) 0=some (.int v0):=rfl
 by_cases h0:v0<0
 · refine⟨-v1,-v2,?_,by rw[Int.mul_neg,Int.mul_neg];omega,by omega,by omega⟩
   have q:z0k 1 [] (iSeq (fN 2)) (Tg.one 0) fYes (fNeg (fN 0)) [.sh false (.int a),.sh false (.int b),.sh true (L [v0,v1,v2]),.sh true (L [0,w1,w2]),z32 d4,z32 d5]=some (.nw,L [-v0,-v1,-v2]):=by
    rw[z0u (e:=Dt.int) (h:=fun x => .int (-x)) (xs:=[v0,v1,v2]) (by simp[cOf,L]) (fun x hx=>by simp[cOf])]
    rfl
   have e0:(Int.gcd a b:Int) = -v0:=by omega
   rw[e0]
   refine z4M (f := .nw) rfl (pre (run (ρ':=[.sh false (.int a),.sh false (.int b),.sh true (L [-v0,-v1,-v2]),.sh true (L [0,w1,w2]),d4,d5]) ?_ (by simp[cOf,T]))) rfl
   generalize [v0,v1,v2]=vs at *
   simp[cOf,at0,h0,q]
 · refine⟨v1,v2,?_,by omega,by omega,by omega⟩
   have e0:(Int.gcd a b:Int)=v0:=by omega
   rw[e0]
   refine z4M (f := .nw) rfl (pre (run (ρ':=[.sh false (.int a),.sh false (.int b),.sh true (L [v0,v1,v2]),.sh true (L [0,w1,w2]),d4,d5]) ?_ (by simp[cOf,T]))) rfl
   generalize [v0,v1,v2]=vs at *
   simp[cOf,at0,h0]
theorem zm1(a b:List Int)(x y:Int):addR (sclR x a) (sclR y b)=St.lin x a y b:=by
 unfold addR sclR St.lin
 rw[List.zipWith_map]
theorem ziY(a b:List Int)(x y:Int):subR (sclR x a) (sclR y b)=St.lin x a (-y) b:=by
 unfold subR sclR St.lin
 rw[List.zipWith_map]
 congr 1
 funext p q
 rw[Int.neg_mul];omega
theorem z7A{q:Int}{r:List Int}{m k:Nat}(h1:q.natAbs<2 ^ m)(h2:St.Lt (2 ^ k) r)(h:m+k≤134217728):∀ x∈r,z12 q x=true:=fun x hx=>by
 obtain⟨i,rfl⟩:=zgk hx
 exact z1g h1 (h2 i) h
theorem zda{n e q:Nat}(r left:List Int)(hr:r.length=n)(hl:left.length=n)(hh:St.z00 r<n)(hp:0<St.hd r)(h1:St.hd r<2 ^ e)(h2:0≤St.at0 left (St.z00 r))(h3:St.at0 left (St.z00 r)<St.hd r)(he:e≤8990)(s1:St.Lt (2 ^ q) r)(s2:St.Lt (2 ^ q) left)(hq:q≤100000000):
  ∃ g x y,z2I [L r,L left]=some (.tup [L (St.z0C r left x y),L (St.z14 r left g)])∧0<g∧g∣St.hd r∧g∣St.at0 left (St.z00 r)∧St.hd r*x+St.at0 left (St.z00 r)*y=g∧x.natAbs<2 ^ (e+2)∧y.natAbs<2 ^ (e+2):=by
 have cast:((2 ^ e:Nat):Int)=(2:Int) ^ e:=by norm_cast
 have a1:(St.hd r).natAbs<2 ^ e:=by omega
 have a2:(St.at0 left (St.z00 r)).natAbs<2 ^ e:=by omega
 obtain⟨x,y,eb,exy,bx,bY⟩:=zhg (St.hd r) (St.at0 left (St.z00 r)) e (by omega) a1 a2
 have g0:0<Int.gcd (St.hd r) (St.at0 left (St.z00 r)):=Int.gcd_pos_of_ne_zero_left _ (by omega)
 have d1:(Int.gcd (St.hd r) (St.at0 left (St.z00 r)):Int)∣St.hd r:=Int.gcd_dvd_left _ _
 have d2:(Int.gcd (St.hd r) (St.at0 left (St.z00 r)):Int)∣St.at0 left (St.z00 r):=Int.gcd_dvd_right _ _
 generalize eg:(Int.gcd (St.hd r) (St.at0 left (St.z00 r)):Int)=g at *
 have g0:0<g:=by omega
 have p2:2 ^ (e+2)=4*2 ^ e:=by rw[Nat.pow_add];omega
 have x1:x.natAbs<2 ^ (e+2):=by omega
 have y1:y.natAbs<2 ^ (e+2):=by omega
 refine⟨g,x,y,?_,g0,d1,d2,exy,x1,y1⟩
 have gle:g≤St.hd r:=Int.le_of_dvd hp d1
 have g9:g<2 ^ 9000:=by
  have h9:(2:Nat) ^ e≤2 ^ 9000:=Nat.pow_le_pow_right (by decide) (by omega)
  have:((2 ^ 9000:Nat):Int)=(2:Int) ^ 9000:=by norm_cast
  omega
 have dv1:z1J (St.hd r) g=true:=z2K g0 g9
 have dv2:z1J (St.at0 left (St.z00 r)) g=true:=z2K g0 g9
 have k1:((St.hd r).fdiv g).natAbs<2 ^ (e+2):=by have:=St.z5K (St.hd r) g0;omega
 have k2:((St.at0 left (St.z00 r)).fdiv g).natAbs<2 ^ (e+2):=by have:=St.z5K (St.at0 left (St.z00 r)) g0;omega
 have t1:=z1H (r:=r) (k:=St.z00 r) (by omega)
 have t2:=z1H (r:=left) (k:=St.z00 r) (by omega)
 have t1:atI (r.map Dt.int) (St.z00 r:Int)=some (.int (St.hd r)):=t1
 have e1:=z2J r x (z7A x1 s1 (by omega))
 have e2:=z2J left y (z7A y1 s2 (by omega))
 have e3:=z2J left ((St.hd r).fdiv g) (z7A k1 s2 (by omega))
 have e4:=z2J r ((St.at0 left (St.z00 r)).fdiv g) (z7A k2 s1 (by omega))
 have e5:=ziX (sclR x r) (sclR y left) (by rw[z1l,z1l];omega)
 have e6:=zc0 (sclR ((St.hd r).fdiv g) left) (sclR ((St.at0 left (St.z00 r)).fdiv g) r) (by rw[z1l,z1l];omega)
 rw[zm1]at e5
 rw[ziY]at e6
 have hT:T [g,x,y] = .tup [.int g,.int x,.int y]:=rfl
 have nT:∀ f,nrm f (.tup [.int g,.int x,.int y])=(.nw,.tup [.int g,.int x,.int y]):=fun f=>nrm_T f [g,x,y]
 rw[hT]at eb
 unfold z2I z6x
 have eL:St.z14 r left g=St.lin ((St.hd r).fdiv g) left (-((St.at0 left (St.z00 r)).fdiv g)) r:=rfl
 simp[cOf,z10,t1,t2,eb,nT,dv1,dv2,e1,e2,e3,e4,e5,e6,St.z0C,eL]
theorem zaU{n q:Nat}(left:List Int)(hl:left.length=n)(hh:St.z00 left<n):z0Y [L left]=some (L (if St.at0 left (St.z00 left)<0 then sclR (-1) left else left)):=by
 have t2:=z1H (r:=left) (k:=St.z00 left) (by omega)
 have e1:=z2J left (-1) (fun x _=>zaE (by decide))
 unfold z0Y z4l
 by_cases h:St.at0 left (St.z00 left)<0
 · simp[cOf,z10,t2,h,e1]
 · simp[cOf,z10,t2,h,z4K]
def z1t(S:List (List Int)):List (List Int):=(z2i (S.map fun r=>((St.z00 r:Int),r))).map (·.2)
theorem z5Y(S:List (List Int)):(z1t S).Perm S:=by
 have:=(z1G (S.map fun r=>((St.z00 r:Int),r))).map (·.2)
 rw[List.map_map]at this
 have e:S.map ((fun x:Int×List Int=>x.2)∘fun r=>((St.z00 r:Int),r))=S:=by
  have:((fun x:Int×List Int=>x.2)∘fun r:List Int=>((St.z00 r:Int),r))=id:=rfl
  rw[this,List.map_id]
 rw[e]at this
 exact this
theorem z8v(S:List (List Int))(hn:(S.map St.z00).Nodup):((z1t S).map St.z00).Pairwise (·<·):=by
 have h1:((z1t S).map St.z00).Pairwise (·≤·):=by
  have q:=z3E (S.map fun r=>((St.z00 r:Int),r))
  have mem:∀ p∈z2i (S.map fun r=>((St.z00 r:Int),r)),p.1=(St.z00 p.2:Int):=fun p hp=>by
   obtain⟨r,_,rfl⟩:=List.mem_map.mp ((z1G _).mem_iff.mp hp)
   rfl
  unfold z1t
  rw[List.map_map,List.pairwise_map]
  refine List.Pairwise.imp_of_mem (fun{a b} ha hb hab=>?_) q
  have e1:=mem a ha
  have e2:=mem b hb
  show St.z00 a.2≤St.z00 b.2
  have hab:a.1≤b.1:=hab
  omega
 have h2:((z1t S).map St.z00).Nodup:=((z5Y S).map St.z00).nodup_iff.mpr hn
 exact(List.pairwise_and_iff.mpr ⟨h1,h2⟩).imp fun{a b} ⟨p,q⟩=>by omega
theorem z8w:∀ S:List (List Int),z25 z0g (S.map L)=some (S.map fun r=>(St.z00 r:Int))
 | []=>rfl
 | r::S=>by rw[List.map_cons,z25,z10,z8w S];rfl
theorem zhh(S:List (List Int)):(z2i ((S.map fun r=>(St.z00 r:Int)).zip (S.map L))).map (·.2)=(z1t S).map L:=by
 have e:(S.map fun r=>(St.z00 r:Int)).zip (S.map L)=(S.map fun r=>((St.z00 r:Int),r)).map fun q=>(q.1,L q.2):=by
  rw[List.zip_map,List.map_map]
  have:S.zip S=S.map fun r=>(r,r):=by
   induction S with
   | nil=>rfl
   | cons r S ih=>rw[List.zip_cons_cons,ih];rfl
  rw[this,List.map_map]
  rfl
 rw[e,z4I]
 unfold z1t
 rw[List.map_map,List.map_map]
 rfl
def z55:Nat→List (List Int)→List (Nat×List Int)
 | _,[]=>[]
 | j,r::S=>(j,r)::z55 (j+1) S
theorem z9S:∀(j:Nat) (S:List (List Int)),z2p j (S.map L)=(z55 j S).map fun p => .tup [.int p.1,L p.2]
 | j,[]=>rfl
 | j,r::S=>by rw[List.map_cons,z2p,z55,List.map_cons,z9S (j+1) S]
theorem z5m(h:Nat):∀(j:Nat) (S:List (List Int)),(∀ r∈S,St.z00 r≠h)→(z55 j S).filter (fun p=>decide (St.z00 p.2=h))=[]
 | j,[],_=>rfl
 | j,r::S,q=>by
  rw[z55,List.filter_cons,z5m h (j+1) S fun x hx=>q x (List.mem_cons_of_mem _ hx)]
  simp[q r List.mem_cons_self]
theorem z9T(h:Nat):∀(j:Nat) (S1:List (List Int)) (r:List Int) (S2:List (List Int)),St.z00 r=h→((S1++r::S2).map St.z00).Pairwise (·<·)→(z55 j (S1++r::S2)).filter (fun p=>decide (St.z00 p.2=h))=[(j+S1.length,r)]
 | j,[],r,S2,hr,pw=>by
  rw[List.nil_append]at pw ⊢
  rw[List.map_cons,List.pairwise_cons]at pw
  rw[z55,List.filter_cons,z5m h (j+1) S2 fun x hx=>by have:=pw.1 _ (List.mem_map.mpr ⟨x,hx,rfl⟩);omega]
  simp[hr]
 | j,x::S1,r,S2,hr,pw=>by
  rw[List.cons_append]at pw ⊢
  rw[List.map_cons,List.pairwise_cons]at pw
  have hx:=pw.1 (St.z00 r) (List.mem_map.mpr ⟨r,by simp,rfl⟩)
  rw[z55,List.filter_cons,z9T h (j+1) S1 r S2 hr pw.2]
  simp[show St.z00 x≠h by omega]
  omega
theorem z9U(S:List (List Int))(left:List Int)(c0 c1 c4 c5:Cell)(f:Bool):z0k 2 [3] (z5E (fN 2)) (Tg.many [0,1]) (z0j (fOp opEq (z09 true z0g (z02 (fN 1) fNil)) (z09 true z0g (z02 (fN 2) fNil)))) (fN 0) [c0,c1,.ow f (S.map L),.sh true (L left),c4,c5] =
   some (.nw,.lst (((z55 0 S).filter fun p=>decide (St.z00 p.2=St.z00 left)).map fun p => .int (p.1:Int))):=by
 refine z5I (e:=fun p:Nat×List Int => .tup [.int p.1,L p.2]) (h:=fun p => .int (p.1:Int)) (p:=fun p=>decide (St.z00 p.2=St.z00 left)) (xs:=z55 0 S) ?_ (fun x hx=>?_) (fun x hx _=>?_)
 · cases f<;>simp[cOf,z9S]
 · simp[cOf,z10,z0N]
   omega
 · simp[cOf]
abbrev WC:FT:=z0j (fOp opLt (z09 true z0g (z02 (fN 3) fNil)) (fBlt bLen (z02 (fN 3) fNil)))
abbrev WF:FS:=(sSeq (z33 4 (z0k 2 [3] (z5E (fN 2)) (Tg.many [0,1]) (z0j (fOp opEq (z09 true z0g (z02 (fN 1) fNil)) (z09 true z0g (z02 (fN 2) fNil)))) (fN 0)))
 (sSeq (sIf (z0j (fOp opEq (fBlt bLen (z02 (fN 4) fNil)) (fC (.int 0)))) (sRet (z5d z0g (fOp z0z (fN 2) (fLst (z02 (z09 true z0Y (z02 (fN 3) fNil)) fNil))))) z0M)
 (sSeq (z33 5 (z09 true z2I (z02 (fAt (fN 2) (fAt (fN 4) (fC (.int 0)))) (z02 (fN 3) fNil))))
 (sSeq (sPut 2 (fAt (fN 4) (fC (.int 0))) (fAt (fN 5) (fC (.int 0))))
 (z33 3 (z09 true z0G (z02 (fAt (fN 5) (fC (.int 1))) (z02 (fN 2) fNil))))))))
theorem ziZ(S:List (List Int))(t:List Int)(h:S.length<60):z0z (.lst (S.map L)) (.lst [L t])=some (newL ((S++[t]).map L)):=by
 have:z0z (.lst (S.map L)) (.lst [L t])=z5B (.lst (S.map L)) (.lst [L t]):=rfl
 rw[this,z5B,if_pos (by simp;omega)]
 simp
theorem zj(S:List (List Int))(left t:List Int)(c0 c1 c4 c5:Cell)(f:Bool)(hn:∀ r∈S,St.z00 r≠St.z00 left)(ht:z0Y [L left]=some (L t))(hh:((S++[t]).map St.z00).Nodup)(h60:S.length<60):
  ∃ fl,WF [c0,c1,.ow f (S.map L),.sh true (L left),c4,c5]=some (.rt fl (LL (z1t (S++[t])))):=by
 have pl:=z9U S left c0 c1 c4 c5 f
 rw[z5m _ 0 S hn]at pl
 have st:z5d z0g (fOp z0z (fN 2) (fLst (z02 (z09 true z0Y (z02 (fN 3) fNil)) fNil))) [c0,c1,.ow f (S.map L),.sh true (L left),.sh true (.lst []),c5]=some (newL ((z1t (S++[t])).map L)):=by
  have e1:fOp z0z (fN 2) (fLst (z02 (z09 true z0Y (z02 (fN 3) fNil)) fNil)) [c0,c1,.ow f (S.map L),.sh true (L left),.sh true (.lst []),c5]=some (newL ((S++[t]).map L)):=by
   have:=ziZ S t h60
   simp[cOf,ht,this]
  unfold z5d
  rw[e1]
  have k1:=z8w (S++[t])
  have nd:((S++[t]).map fun r=>(St.z00 r:Int)).Nodup:=by
   have:((S++[t]).map fun r=>(St.z00 r:Int))=((S++[t]).map St.z00).map (fun n:Nat=>(n:Int)):=by rw[List.map_map];rfl
   rw[this]
   exact List.Pairwise.map _ (fun a b hab e=>hab (by omega)) hh
  show(z25 z0g ((S++[t]).map L)).bind _=_
  rw[k1,z0x,if_pos ⟨by simp;omega,nd⟩,zhh]
 refine⟨lfl ((z1t (S++[t])).map L),?_⟩
 have e1:z33 4 (z0k 2 [3] (z5E (fN 2)) (Tg.many [0,1]) (z0j (fOp opEq (z09 true z0g (z02 (fN 1) fNil)) (z09 true z0g (z02 (fN 2) fNil)))) (fN 0)) [c0,c1,.ow f (S.map L),.sh true (L left),c4,c5]=some (.nx [c0,c1,.ow f (S.map L),.sh true (L left),.sh true (.lst []),c5]):=by
  unfold z33
  rw[pl]
  rfl
 refine run e1 ?_
 have e2:sIf (z0j (fOp opEq (fBlt bLen (z02 (fN 4) fNil)) (fC (.int 0)))) (sRet (z5d z0g (fOp z0z (fN 2) (fLst (z02 (z09 true z0Y (z02 (fN 3) fNil)) fNil))))) z0M [c0,c1,.ow f (S.map L),.sh true (L left),.sh true (.lst []),c5]=some (.rt (lfl ((z1t (S++[t])).map L)) (LL (z1t (S++[t])))):=by
  have c:z0j (fOp opEq (fBlt bLen (z02 (fN 4) fNil)) (fC (.int 0))) [c0,c1,.ow f (S.map L),.sh true (L left),.sh true (.lst []),c5]=some true:=by simp[cOf,z0N]
  unfold sIf
  rw[c,z0x,if_pos rfl,sRet,st]
  rfl
 unfold sSeq
 rw[e2]
 rfl
theorem zdb(S1 S2:List (List Int))(r left up lo:List Int)(c0 c1 c4 c5:Cell)(f:Bool)(hh:St.z00 r=St.z00 left)(pw:((S1++r::S2).map St.z00).Pairwise (·<·))(hc:z2I [L r,L left]=some (.tup [L up,L lo]))(res:List Int)(hl:z0G [L lo,LL (S1++up::S2)]=some (L res)):
   ∃ d4 d5,WF [c0,c1,.ow f ((S1++r::S2).map L),.sh true (L left),c4,c5]=some (.nx [c0,c1,.ow f ((S1++up::S2).map L),.sh true (L res),d4,d5]):=by
 have pl:=z9U (S1++r::S2) left c0 c1 c4 c5 f
 rw[z9T _ 0 S1 r S2 hh pw]at pl
 have pl:z0k 2 [3] (z5E (fN 2)) (Tg.many [0,1]) (z0j (fOp opEq (z09 true z0g (z02 (fN 1) fNil)) (z09 true z0g (z02 (fN 2) fNil)))) (fN 0) [c0,c1,.ow f ((S1++r::S2).map L),.sh true (L left),c4,c5]=some (.nw,.lst [.int (S1.length:Int)]):=by rw[pl];simp
 refine⟨.sh true (.lst [.int (S1.length:Int)]),.sh true (.tup [L up,L lo]),?_⟩
 have at1:atI ((S1++r::S2).map L) (S1.length:Int)=some (L r):=z4E (by simp)
 have ix:ixN ((S1++r::S2).map L).length (S1.length:Int)=some S1.length:=by
   unfold ixN
   rw[if_pos (by omega),if_pos (by simp;omega)];simp
 have set1:((S1++r::S2).map L).set S1.length (L up)=(S1++up::S2).map L:=by
   rw[List.map_append,List.map_append,List.set_append]
   simp
 have hl:z0G [L lo,.lst ((S1++up::S2).map L)]=some (L res):=hl
 generalize (S1++r::S2).map L=D at *
 generalize (S1++up::S2).map L=D' at *
 have e1:z33 4 (z0k 2 [3] (z5E (fN 2)) (Tg.many [0,1]) (z0j (fOp opEq (z09 true z0g (z02 (fN 1) fNil)) (z09 true z0g (z02 (fN 2) fNil)))) (fN 0)) [c0,c1,.ow f D,.sh true (L left),c4,c5]=some (.nx [c0,c1,.ow f D,.sh true (L left),.sh true (.lst [.int (S1.length:Int)]),c5]):=by
   unfold z33
   rw[pl]
   rfl
 refine run e1 (run (ρ':=[c0,c1,.ow f D,.sh true (L left),.sh true (.lst [.int (S1.length:Int)]),c5]) ?_ (run (ρ':=[c0,c1,.ow f D,.sh true (L left),.sh true (.lst [.int (S1.length:Int)]),.sh true (.tup [L up,L lo])]) ?_ (run (ρ':=[c0,c1,.ow f D',.sh true (L left),.sh true (.lst [.int (S1.length:Int)]),.sh true (.tup [L up,L lo])]) ?_ ?_)))
 · simp[cOf,z0N]
 · simp[cOf,at1,hc]
 · simp[cOf,ix,set1]
 · simp[cOf,hl]
theorem zhi(S:List (List Int))(h:Nat):(∀ r∈S,St.z00 r≠h)∨∃ S1 r S2,S=S1++r::S2∧St.z00 r=h:=by
 by_cases q:∃ r∈S,St.z00 r=h
 · obtain⟨r,hr,e⟩:=q
   obtain⟨S1,S2,rfl⟩:=List.append_of_mem hr
   exact .inr ⟨S1,r,S2,rfl,e⟩
 · exact .inl fun r hr e=>q ⟨r,hr,e⟩
theorem z5Z{n e:Nat}{S:List (List Int)}(A:St.Asc n 0 S)(hd:∀ r∈S,St.hd r<2 ^ e)(he:e≤8990):∀ r∈S,r.length=n∧St.z00 r<n∧0<St.hd r∧St.hd r<2 ^ 9000:=fun r hr=>by
 have q:=A.mem hr
 refine⟨q.1,q.2.2.1,q.2.2.2,?_⟩
 have h1:=hd r hr
 have h9:(2:Nat) ^ e≤2 ^ 9000:=Nat.pow_le_pow_right (by decide) (by omega)
 have c1:((2 ^ 9000:Nat):Int)=(2:Int) ^ 9000:=by norm_cast
 have c2:((2 ^ e:Nat):Int)=(2:Int) ^ e:=by norm_cast
 omega
structure Sz(n e eh m0 kk:Nat):Prop where
 n20:n≤20
 e90:eh≤8990
 ehe:eh≤e
 e33:e≤33000
 m0e:m0=e+20*(e+1)
 kke:kk=2*e+3+20*(e+1)
theorem Sz.lim{n e eh m0 kk:Nat}(z:Sz n e eh m0 kk):m0+n*kk≤16000000:=by
 have h1:=z.n20
 have h2:=z.e33
 have h3:=z.m0e
 have h4:=z.kke
 have:n*kk≤20*kk:=Nat.mul_le_mul_right _ h1
 omega
theorem zm2{n e eh m0 kk:Nat}(z:Sz n e eh m0 kk)(S0:List (List Int))(v:List Int)(h20:S0.length≤20)(c0 c1:Cell)(f:Bool):∀(k:Nat) (S:List (List Int)) (left:List Int) (c4 c5:Cell),St.Wi n e eh m0 kk S0 v S left→n-St.z00 left≤k →
 (∃ S' left' c4' c5',z16 WC WF (k+1) [c0,c1,.ow f (S.map L),.sh true (L left),c4,c5]=some (.nx [c0,c1,.ow f (S'.map L),.sh true (L left'),c4',c5'])∧St.Post n (e+3+(m0+n*kk)) S0 v S') ∨
 (∃ S' fl,z16 WC WF (k+1) [c0,c1,.ow f (S.map L),.sh true (L left),c4,c5]=some (.rt fl (LL S'))∧St.Post n (e+3+(m0+n*kk)) S0 v S'):=by
 intro k
 induction k using Nat.strongRecOn with
 | _ k IH =>
 intro S left c4 c5 I hk
 have lim:=z.lim
 have hlen:S.length=S0.length:=by have:=congrArg List.length I.heads;simpa using this
 have hc:WC [c0,c1,.ow f (S.map L),.sh true (L left),c4,c5]=some (decide (St.z00 left<n)):=by
   have:(decide ((St.z00 left:Int)<(left.length:Int)))=decide (St.z00 left<n):=by
     have:=I.len
     by_cases h:St.z00 left<n
     · rw[decide_eq_true h,decide_eq_true (by omega)]
     · rw[decide_eq_false h,decide_eq_false (by omega)]
   simp[cOf,z10,this]
   have:=I.len
   omega
 rw[z16,hc,z0x]
 by_cases hn:St.z00 left<n
 · rw[decide_eq_true hn,if_pos rfl]
   rcases zhi S (St.z00 left)with no|⟨S1,r,S2,rfl,hr⟩
   · right
     have ht:=zaU (n:=n) (q:=0) left I.len hn
     generalize et:(if St.at0 left (St.z00 left)<0 then sclR (-1) left else left)=t at ht
     have hne:St.at0 left (St.z00 left)≠0:=St.z3n left (by rw[I.len];exact hn)
     have tc:∃ c:Int,(c=1∨c = -1)∧(∀ k,St.at0 t k=c*St.at0 left k)∧0<St.at0 t (St.z00 left)∧t.length=n:=by
       by_cases h:St.at0 left (St.z00 left)<0
       · rw[if_pos h]at et
         subst et
         have e1:∀ k,St.at0 (sclR (-1) left) k = -1*St.at0 left k:=fun k=>by
          simp only[St.at0,sclR,List.getD,List.getElem?_map]
          cases left[k]?<;>simp
         exact⟨-1,.inr rfl,e1,by rw[e1];omega,by rw[z1l];exact I.len⟩
       · rw[if_neg h]at et
         subst et
         exact⟨1,.inl rfl,fun k=>by omega,by omega,I.len⟩
     obtain⟨c,hc1,hc2,hc3,hc4⟩:=tc
     have th:St.z00 t=St.z00 left:=St.z1f _ _ (fun k hk=>by rw[hc2,St.z0e left k hk];simp) (by omega)
     have nd:((S++[t]).map St.z00).Nodup:=by
       rw[List.map_append,List.nodup_append]
       refine⟨(St.Asc.iff.mp I.asc).2.imp fun{a b} h=>by omega,by simp,fun a ha b hb=>?_⟩
       obtain⟨x,hx,rfl⟩:=List.mem_map.mp ha
       have:=no x hx
       have hb:b=St.z00 t:=by simpa using hb
       omega
     obtain⟨fl,ew⟩:=zj S left t c0 c1 c4 c5 f no ht nd (by omega)
     refine⟨z1t (S++[t]),fl,by rw[ew];rfl,?_⟩
     refine I.new hn no hc4 c hc1 hc2 hc3 ?_ (z8v _ nd)
     exact(z5Y _).trans (List.perm_append_comm)
   · have hm:r∈S1++r::S2:=by simp
     have q:=I.asc.mem hm
     have hcast:((2 ^ e:Nat):Int)=(2:Int) ^ e:=by norm_cast
     have hle:m0+St.z00 left*kk≤m0+n*kk:=by have:=Nat.mul_le_mul_right kk (Nat.le_of_lt hn);omega
     obtain⟨g,x,y,ec,hg,ga,gb,hxy,hx,hy⟩:=zda (n:=n) (e:=eh) (q:=e+3+(m0+St.z00 left*kk)) r left q.1 I.len q.2.2.1 q.2.2.2 (I.hds r hm) (I.low r hm).1 (I.low r hm).2 z.e90 (I.all r hm) (I.size.mono (Nat.pow_le_pow_right (by decide) (by omega))) (by have:=z.e33;omega)
     have hl2:S1.length+S2.length+1≤20:=by simp at hlen;omega
     obtain⟨I',hlt,lb,hds'⟩:=I.step hr hn hg ga gb hxy (Nat.lt_of_lt_of_le hx (Nat.pow_le_pow_right (by decide) (by have:=z.ehe;omega))) (Nat.lt_of_lt_of_le hy (Nat.pow_le_pow_right (by decide) (by have:=z.ehe;omega))) (by have:=z.m0e;omega) (by
       have:=z.kke
       have:(S1.length+S2.length+1)*(e+1)≤20*(e+1):=Nat.mul_le_mul_right _ hl2
       omega)
     have el:=z3O (n:=n) (m:=m0+n*kk) (L (St.z14 r left g)) (St.z14 r left g) (S1++St.z0C r left x y::S2) (.inl rfl) (by omega) (z5Z I'.asc hds' z.e90) (by
       unfold St.z14;rw[St.z7t (by rw[I.len,q.1])];exact I.len) lb (by simp;omega)
     obtain⟨d4,d5,ew⟩:=zdb S1 S2 r left _ _ c0 c1 c4 c5 f hr (St.Asc.iff.mp I.asc).2 ec _ el
     cases k with
     | zero=>omega
     | succ k =>
       rcases IH k (Nat.lt_succ_self k) _ _ d4 d5 I' (by omega) with⟨S',l',d4',d5',h1,h2⟩|⟨S',fl,h1,h2⟩
       · exact .inl ⟨S',l',d4',d5',by rw[ew];exact h1,h2⟩
       · exact .inr ⟨S',fl,by rw[ew];exact h1,h2⟩
 · rw[decide_eq_false hn]
   exact .inl ⟨S,left,c4,c5,rfl,I.done hn⟩
theorem zc4{n e eh m0 kk:Nat}(z:Sz n e eh m0 kk)(S:List (List Int))(d:Dt)(v:List Int)(hd:RowD d v)(A:St.Asc n 0 S)(hv:v.length=n)(h0:∀ r∈S,St.Lt (2 ^ e) r)(hh:∀ r∈S,St.hd r<2 ^ eh)(hs:St.Lt (2 ^ e) v)(h20:S.length≤20):
   ∃ S',z29 [LL S,d]=some (LL S')∧St.Post n (e+3+(m0+n*kk)) S v S':=by
 have lim:=z.lim
 have hm0:=z.m0e
 have hml:e+S.length*(e+1)≤m0:=by have:S.length*(e+1)≤20*(e+1):=Nat.mul_le_mul_right _ h20;omega
 obtain⟨I,lb⟩:=St.Wi.start (n:=n) (e:=e) (eh:=eh) (s:=e) (m0:=m0) (kk:=kk) A hv h0 hh hs hml (by omega)
 have el:=z3O (n:=n) (m:=m0) d v S hd (by omega) (z5Z A I.hds z.e90) hv lb (by omega)
 have el:z0G [d,.lst (S.map L)]=some (L (St.z0f v S)):=el
 have fl:∃ f:Bool,∀ d0:Dt,sOwn 2 (fBlt bLst (z02 (fN 0) fNil)) [.sh false (LL S),.sh false d0,.no,.no,.no,.no]=some (.nx [.sh false (LL S),.sh false d0,.ow f (S.map L),.no,.no,.no]):=by
   cases S with
   | nil=>exact⟨true,fun d0=>by simp[cOf]⟩
   | cons r S=>exact⟨false,fun d0=>by simp[cOf,newL,lfl]⟩
 obtain⟨f,hf⟩:=fl
 have hb:∀ o,z24 WC WF [.sh false (LL S),.sh false d,.ow f (S.map L),.sh true (L (St.z0f v S)),.no,.no]=some o→(∃ S' fl,seqO (sRet (fN 2)) o=some (.rt fl (LL S'))∧St.Post n (e+3+(m0+n*kk)) S v S')→∃ S',z29 [LL S,d]=some (LL S')∧St.Post n (e+3+(m0+n*kk)) S v S':=by
   rintro o ho ⟨S',fl,h1,h2⟩
   refine⟨S',?_,h2⟩
   have e2:z33 3 (z09 true z0G (z02 (fN 1) (z02 (fN 2) fNil))) [.sh false (LL S),.sh false d,.ow f (S.map L),.no,.no,.no]=some (.nx [.sh false (LL S),.sh false d,.ow f (S.map L),.sh true (L (St.z0f v S)),.no,.no]):=by
    rcases hd with rfl|rfl<;>simp[cOf,el]
   have q:z2T [.sh false (LL S),.sh false d,.no,.no,.no,.no]=some (.rt fl (LL S')):=by
    unfold z2T
    refine run (hf d) (run e2 ?_)
    show(z24 WC WF _).bind (seqO (sRet (fN 2)))=_
    rw[ho]
    exact h1
   unfold z29 cOf
   rw[if_pos (show[LL S,d].length=2 from rfl)]
   show(z2T [.sh false (LL S),.sh false d,.no,.no,.no,.no]).bind _=_
   rw[q]
   rfl
 rcases zm2 z S v h20 (.sh false (LL S)) (.sh false d) f (n-St.z00 (St.z0f v S)) S (St.z0f v S) .no .no I (Nat.le_refl _) with⟨S',l',d4',d5',h1,h2⟩|⟨S',fl,h1,h2⟩
 · exact hb _ (z3l h1) ⟨S',flOf f,rfl,h2⟩
 · exact hb _ (z3l h1) ⟨S',fl,rfl,h2⟩
theorem z70:∀(A T:List (List Int)),∃ A',St.even (A++T)=A'++St.even T
 | [],T=>⟨[],rfl⟩
 | r::A,T=>by
  obtain⟨A',e⟩:=z70 A T
  exact⟨St.z0f r (St.even (A++T))::A',by rw[List.cons_append,St.even,e];rfl⟩
theorem z8x{n:Nat}:∀{f:Nat} {A T:List (List Int)},St.Asc n f (A++T)→St.Asc n 0 T
 | f,[],T,h=>h.weak (Nat.zero_le _)
 | f,r::A,T,h=>z8x (A:=A) h.2.2.2.2
abbrev EF:FS:=sWrA z7X 1 (z09 true z0G (z02 (fN 2) (z02 (fN 1) fNil)))
theorem zgm{n e eh u:Nat}(he:eh≤8990)(he3:e≤33000)(hu:u≤17000000)(c0:Cell)(S:List (List Int))(A:St.Asc n 0 S)(hs:∀ r∈S,St.Lt (2 ^ u) r)(hE:∀ r∈St.even S,St.Lt (2 ^ e) r)(hH:∀ r∈St.even S,St.hd r<2 ^ eh)(h20:S.length≤21)(heu:e≤u):
  ∀(R T:List (List Int)) (c2:Cell),S=R.reverse++T→∃ c2',forF (Tg.one 2) EF (R.map L) [c0,.ow true ((St.even T).map L),c2]=some (.nx [c0,.ow true ((St.even S).map L),c2'])
 | [],T,c2,h=>⟨c2,by rw[h];rfl⟩
 | r::R,T,c2,h=>by
  have h':S=R.reverse++(r::T):=by rw[h];simp
  obtain⟨c2',ih⟩:=zgm he he3 hu c0 S A hs hE hH h20 heu R (r::T) (.sh false (L r)) h'
  refine⟨c2',?_⟩
  rw[List.map_cons,z1K]
  have hlen:T.length+1≤21:=by have:=congrArg List.length h';simp at this;omega
  have rm:r∈S:=by rw[h'];simp
  have AT:St.Asc n 0 T:=z8x (A:=R.reverse++[r]) (by rw[List.append_assoc];show St.Asc n 0 (R.reverse++(r::T));rw[←h'];exact A)
  have AE:=(St.z2F AT).1
  obtain⟨A',ea⟩:=z70 (R.reverse++[r]) T
  have sub:∀ x∈St.even T,x∈St.even S:=fun x hx=>by
   rw[h',show R.reverse++(r::T)=(R.reverse++[r])++T by simp,ea]
   exact List.mem_append.mpr (.inr hx)
  have hE':∀ x∈St.even T,St.Lt (2 ^ e) x:=fun x hx=>hE x (sub x hx)
  have hel:(St.even T).length≤20:=by rw[St.z2R];omega
  have hmul:(St.even T).length*(e+1)≤20*(e+1):=Nat.mul_le_mul_right _ hel
  obtain⟨_,lb⟩:=St.z1M (n:=n) (t:=0) (s:=u) (e:=e) (m:=u+20*(e+1)) (S:=St.even T) (left:=r) (fun x hx=>⟨(AE.mem hx).1,(AE.mem hx).2.2.2⟩) (A.mem rm).1 (fun k hk=>by omega) (fun x hx _=>hE' x hx) (hs r rm) (by omega) (by omega)
  have el:=z3O (n:=n) (m:=u+20*(e+1)) (L r) r (St.even T) (.inl rfl) (by omega) (z5Z AE (fun x hx=>hH x (sub x hx)) he) (A.mem rm).1 lb (by omega)
  have el:z0G [L r,.lst ((St.even T).map L)]=some (L (St.z0f r (St.even T))):=el
  have e1:(Tg.put (Tg.one 2) (L r) [c0,.ow true ((St.even T).map L),c2]).bind EF=some (.nx [c0,.ow true (L (St.z0f r (St.even T))::(St.even T).map L),.sh false (L r)]):=by
   simp[cOf,el,show(St.even T).length<1000000 by omega]
  rw[e1]
  exact ih
theorem zhj{n e eh u:Nat}(S:List (List Int))(he:eh≤8990)(he3:e≤33000)(hu:u≤17000000)(A:St.Asc n 0 S)(hs:∀ r∈S,St.Lt (2 ^ u) r)(hE:∀ r∈St.even S,St.Lt (2 ^ e) r)(hH:∀ r∈St.even S,St.hd r<2 ^ eh)(h20:S.length≤21)(heu:e≤u):z4m [LL S]=some (LL (St.even S)):=by
 obtain⟨c2,q⟩:=zgm he he3 hu (.sh false (LL S)) S A hs hE hH h20 heu S.reverse [] .no (by simp)
 have q:forF (Tg.one 2) EF (S.map L).reverse [.sh false (LL S),.ow true [],.no]=some (.nx [.sh false (LL S),.ow true ((St.even S).map L),c2]):=by rw[←List.map_reverse];exact q
 unfold z4m z8o
 simp[cOf,q]
abbrev CF:FS:=sSet [] 1 (z09 true z4m (z02 (z09 false z29 (z02 (fN 1) (z02 (fN 2) fNil))) fNil))
theorem z8y{n e eh B:Nat}(ed:List Int→Dt)(hed:∀ r,RowD (ed r) r)(hn:n≤20)(he:eh≤8990)(hee:eh≤e)(he3:e≤33000)(all:List (List Int))(hl:∀ r∈all,r.length=n)(hb:∀ r∈all,St.Lt B r)(hB:0<B)(hBe:B≤2 ^ e)(hbn:∀ k,k≤all.length→St.bnd k B+1≤2 ^ e)(hH:∀ k S,k≤all.length→St.Good n B (all.take k) S→∀ r∈S,St.hd r<2 ^ eh)(h20:all.length≤20)(c0:Cell):
  ∀(todo done:List (List Int)) (S:List (List Int)) (c2:Cell),all=done++todo→St.Good n B done S→∃ S' c2',forF (Tg.one 2) CF (todo.map ed) [c0,.sh true (LL S),c2]=some (.nx [c0,.sh true (LL S'),c2'])∧St.Good n B all S'
 | [],done,S,c2,h,G=>⟨S,c2,rfl,by rw[h,List.append_nil];exact G⟩
 | v::todo,done,S,c2,h,G=>by
  have z:Sz n e eh (e+20*(e+1)) (2*e+3+20*(e+1)):=⟨hn,he,hee,he3,rfl,rfl⟩
  have hdn:all.take done.length=done:=by rw[h];simp
  have hdv:all.take (done.length+1)=done++[v]:=by rw[h,List.take_append,List.take_of_length_le (by omega)];simp
  have hld:done.length+1+todo.length=all.length:=by rw[h];simp;omega
  have hv:v∈all:=by rw[h];simp
  have sub:∀ r∈done,r∈all:=fun r hr=>by rw[h];exact List.mem_append.mpr (.inl hr)
  have small:=G.small (fun r hr=>hb r (sub r hr)) hB
  have len:=G.len
  have small:∀ r∈S,St.Lt (2 ^ e) r:=fun r hr=>(small r hr).mono (hbn _ (by omega))
  obtain⟨S1,e1,P⟩:=zc4 z S (ed v) v (hed v) G.asc (hl v hv) small (hH done.length S (by omega) (by rw[hdn];exact G)) ((hb v hv).mono hBe) (by omega)
  have G':=G.step P
  have small':=G'.small (fun r hr=>by
   rcases List.mem_append.mp hr with hr|hr
   · exact hb r (sub r hr)
   · rw[List.mem_singleton.mp hr];exact hb v hv) hB
  have len':=G'.len
  have len2:(done++[v]).length=done.length+1:=by simp
  have small':∀ r∈St.even S1,St.Lt (2 ^ e) r:=fun r hr=>(small' r hr).mono (hbn _ (by omega))
  have lim:=z.lim
  have e2:=zhj (n:=n) (e:=e) (u:=e+3+(e+20*(e+1)+n*(2*e+3+20*(e+1)))) S1 he he3 (by omega) P.asc P.size small' (hH (done.length+1) _ (by omega) (by rw[hdv];exact G')) (by rw[←St.z2R];omega) (by omega)
  obtain⟨S',c2',ih,GG⟩:=z8y ed hed hn he hee he3 all hl hb hB hBe hbn hH h20 c0 todo (done++[v]) (St.even S1) (.sh false (ed v)) (by rw[h];simp) G'
  refine⟨S',c2',?_,GG⟩
  rw[List.map_cons,z1K]
  have st:(Tg.put (Tg.one 2) (ed v) [c0,.sh true (LL S),c2]).bind CF=some (.nx [c0,.sh true (LL (St.even S1)),.sh false (ed v)]):=by
   have sn:∀ f,(nrm f (ed v)).2=ed v:=fun f=>rfl
   simp[cOf,sn,e1,e2]
  rw[st]
  exact ih
theorem zc5{n e eh B:Nat}(ed:List Int→Dt)(hed:∀ r,RowD (ed r) r)(hn:n≤20)(he:eh≤8990)(hee:eh≤e)(he3:e≤33000)(rows:List (List Int))(d:Dt)(hd:d = .lst (rows.map ed)∨d = .tup (rows.map ed))(hl:∀ r∈rows,r.length=n)(hb:∀ r∈rows,St.Lt B r)(hB:0<B)(hBe:B≤2 ^ e)(hbn:∀ k,k≤rows.length→St.bnd k B+1≤2 ^ e)(hH:∀ k S,k≤rows.length→St.Good n B (rows.take k) S→∀ r∈S,St.hd r<2 ^ eh)(h20:rows.length≤20):
   ∃ S,z2a [d]=some (LL S)∧St.Good n B rows S:=by
 obtain⟨S,c2,q,G⟩:=z8y ed hed hn he hee he3 rows hl hb hB hBe hbn hH h20 (.sh false d) rows [] [] .no rfl St.Good.nil
 refine⟨S,?_,G⟩
 have q:forF (Tg.one 2) CF (rows.map ed) [.sh false d,.sh true (.lst []),.no]=some (.nx [.sh false d,.sh true (LL S),c2]):=q
 unfold z2a z6y
 rcases hd with rfl|rfl
 · simp[cOf,q]
 · simp[cOf,q]
theorem z5n{n e B:Nat}(ed:List Int→Dt)(hed:∀ r,RowD (ed r) r)(hn:n≤20)(he:e≤8990)(rows:List (List Int))(d:Dt)(hd:d = .lst (rows.map ed)∨d = .tup (rows.map ed))(hl:∀ r∈rows,r.length=n)(hb:∀ r∈rows,St.Lt B r)(hB:0<B)(hBe:B≤2 ^ e)(hbn:∀ k,k≤rows.length→St.bnd k B+1≤2 ^ e)(h20:rows.length≤20):
 ∃ S,z2a [d]=some (LL S)∧St.Good n B rows S:=zc5 (eh:=e) ed hed hn he (Nat.le_refl _) (by omega) rows d hd hl hb hB hBe hbn (fun k S hk G r hr=>by
 have q:=G.small (fun r hr=>hb r (List.mem_of_mem_take hr)) hB r hr (St.z00 r)
 have l:=G.len
 have b:=hbn S.length (by rw[List.length_take]at l;omega)
 have q:(St.hd r).natAbs<St.bnd S.length B+1:=q
 have c2:((2 ^ e:Nat):Int)=(2:Int) ^ e:=by norm_cast
 omega) h20
theorem zc6{n e B:Nat}(k:Int)(bills:List (List Int))(hn:n≤20)(he:e≤8990)(hl:∀ r∈bills,r.length=n)(hb:∀ r∈bills,St.Lt B r)(hB:0<B)(hBe:B≤2 ^ e)(hbn:∀ k,k≤bills.length→St.bnd k B+1≤2 ^ e)(h20:bills.length≤20):
  ∃ S,z15 [z0w k bills]=some (LL S)∧St.Good n B bills S:=by
 obtain⟨S,q,G⟩:=z5n (n:=n) (e:=e) (B:=B) T (fun r => .inr rfl) hn he bills (TTu bills) (.inr rfl) hl hb hB hBe hbn h20
 refine⟨S,?_,G⟩
 unfold z15 zaP
 simp[cOf,q]
theorem zdc(d:Dt):z4V [d]=some (.bl (isWh d)):=by
 unfold z4V z6z
 cases d<;>simp[cOf,isWh,Dt.flat,nrm]
theorem zgn{r:List Int}{k:Nat}(h:k<r.length):atI (r.map Dt.int) (k:Int)=some (.int (St.at0 r k)):=by
 rw[z83,zd0 h];simp[St.at0,List.getD,List.getElem?_eq_getElem h]
theorem zc7(r:List Int):∀(m k:Nat),r.length-k≤m→k≤St.z00 r→(∀ j,j<k→St.at0 r j=0)→z16 (fAnd (z0j (fOp opLt (fN 1) (fBlt bLen (z02 (fN 0) fNil)))) (z0j (fOp opEq (fAt (fN 0) (fN 1)) (fC (.int 0))))) (sSet [] 1 (fOp z0z (fN 1) (fC (.int 1)))) (m+1) [.sh false (L r),.sh true (.int k)]=some (.nx [.sh false (L r),.sh true (.int (St.z00 r))]):=by
 intro m
 induction m using Nat.strongRecOn with
 | _ m IH =>
 intro k hm hk hz
 have hl:=St.z4O r
 rw[z16]
 by_cases h:k<r.length
 · have a:=zgn h
   by_cases h0:St.at0 r k=0
   · have ne:k≠St.z00 r:=fun e=>St.z3n r (by omega) (by rw[←e];exact h0)
     cases m with
     | zero=>omega
     | succ m =>
      have ih:=IH m (Nat.lt_succ_self m) (k+1) (by omega) (by omega) (fun j hj=>by
       by_cases q:j=k
       · rw[q];exact h0
       · exact hz j (by omega))
      rw[show((k+1:Nat):Int)=(k:Int)+1 by omega]at ih
      simp[cOf,a,h,h0,z0N]
      exact ih
   · have e:k=St.z00 r:=(St.z1f r k hz h0).symm
     simp[cOf,a,h,h0,z0N]
     omega
 · simp[cOf,h]
   omega
theorem zhk(r:List Int):z4q [L r]=some (.int (St.z00 r)):=by
 have q:=z3l (zc7 r r.length 0 (by omega) (Nat.zero_le _) (fun j hj=>by omega))
 have q:z24 _ _ [.sh false (L r),.sh true (.int 0)]=_:=q
 unfold z4q z8r
 simp[cOf,q]
theorem z60(S:List (List Int))(n:Nat):z1r [LL S,.int n]=some (LL (St.bots n S)):=by
 have q:z0k 1 [1] (iSeq (fN 0)) (Tg.one 0) (z0j (fOp opGe (z09 true z0g (z02 (fN 0) fNil)) (fN 1))) (fSl (fN 0) (zg2 (fN 1)) z7q) [.sh false (LL S),.sh false (.int n)]=some (.nw,.lst ((S.filter fun r=>!decide (St.z00 r<n)).map fun r=>L (r.drop n))) :=
  z5I (e:=L) (h:=fun r=>L (r.drop n)) (p:=fun r=>!decide (St.z00 r<n)) (xs:=S) (by simp[cOf]) (fun r hr=>by
   by_cases h:St.z00 r<n
   · simp[cOf,z10,h]
   · simp[cOf,z10,h];omega) (fun r hr _=>by
   simp[cOf,ziA,z85])
 unfold z1r z2b
 simp[cOf,q,St.bots]
structure Hall(n:Nat)(bills:List (List Int)):Prop where
 n1:1≤n
 n6:n≤6
 m8:bills.length≤8
 wide:∀ r∈bills,r.length=n
 small:∀ r∈bills,∀ x∈r,x.natAbs<10 ^ 30
theorem Hall.lt{n:Nat}{bills:List (List Int)}(H:Hall n bills):∀ r∈bills,St.Lt (10 ^ 30) r:=fun r hr=>St.zh6 (by decide) (H.small r hr)
theorem zdd{n:Nat}{bills:List (List Int)}(H:Hall n bills):∃ S,z15 [z0w n bills]=some (LL S)∧St.Good n (10 ^ 30) bills S∧∀ r∈S,St.Lt (2 ^ 900) r:=by
 have m8:=H.m8
 have n6:=H.n6
 obtain⟨S,es,G⟩:=zc6 (n:=n) (e:=900) (B:=10 ^ 30) n bills (by omega) (by omega) H.wide H.lt (by decide) (by decide) (fun k hk=>St.ziG k (by omega)) (by omega)
 have:=G.len
 exact⟨S,es,G,fun r hr=>(G.small H.lt (by decide) r hr).mono (St.ziG _ (by omega))⟩
theorem hd_lt{n e:Nat}{S:List (List Int)}(A:St.Asc n 0 S)(h:∀ r∈S,St.Lt (2 ^ e) r):∀ r∈S,St.hd r<2 ^ e:=fun r hr=>by
 have h1:=h r hr (St.z00 r)
 have h3:(St.hd r).natAbs<2 ^ e:=h1
 have:((2 ^ e:Nat):Int)=(2:Int) ^ e:=by norm_cast
 omega
theorem zde{n e s:Nat}{S:List (List Int)}{v:List Int}(A:St.Asc n 0 S)(h:∀ r∈S,St.Lt (2 ^ e) r)(he:e≤8990)(hv:v.length=n)(hs:St.Lt (2 ^ s) v)(h20:S.length≤20)(hsl:s≤1000000):
  (∀ r∈S,r.length=n∧St.z00 r<n∧0<St.hd r∧St.hd r<2 ^ 9000)∧St.LowB (s+20*(e+1)) v S∧2*(s+20*(e+1))≤134217728∧S.length≤1000∧St.Lt (2 ^ (s+20*(e+1))) (St.z0f v S):=by
 have hm:S.length*(e+1)≤20*(e+1):=Nat.mul_le_mul_right _ h20
 obtain⟨z1,z2⟩:=St.z1M (n:=n) (t:=0) (s:=s) (e:=e) (m:=s+20*(e+1)) (S:=S) (left:=v) (fun r hr=>⟨(A.mem hr).1,(A.mem hr).2.2.2⟩) hv (fun k hk=>by omega) (fun r hr _=>h r hr) hs (by omega) (by omega)
 exact⟨z5Z A (hd_lt A h) he,z2,by omega,by omega,z1.mono (Nat.pow_le_pow_right (by decide) (by omega))⟩
theorem zj0(bills:List (List Int))(ρ:Rho)(F:FE)(f:Fl)(h:F ρ=some (f,LL bills)):z0k 1 [] (iSeq F) (Tg.one 0) fYes (fBlt bLst (z02 (fN 0) fNil)) ρ=some (.nw,LL bills) :=
 z0u (e:=L) (h:=L) (xs:=bills) (by unfold iSeq;rw[h];rfl) (fun x hx=>by simp[cOf])
theorem Hall.made{n:Nat}{bills:List (List Int)}(H:Hall n bills):z2H [.int n,LL bills]=some (z0w n bills):=zd9 n bills H.n1 H.n6 H.m8 H.wide H.small
structure Bask(n:Nat)(bills:List (List Int))(one other:List Int)(b:Bool):Prop where
 l1:one.length=n
 l2:other.length=n
 s1:St.Lt (2 ^ 100) one
 s2:St.Lt (2 ^ 210) other
 sp:b=true→∃ uses:List Int,uses.length=bills.length∧(∀ x∈uses,x.natAbs<10 ^ 30)∧other=addR one (mixR n bills uses)
theorem Bask.span{n:Nat}{bills:List (List Int)}{one other:List Int}{b:Bool}(q:Bask n bills one other b)(H:Hall n bills)(hb:b=true):Lat.Span (St.vecs bills) (fun k=>St.at0 other k-St.at0 one k):=by
 obtain⟨uses,h1,_,h2⟩:=q.sp hb
 refine Lat.Span.congr (fun k=>?_) (St.z4d (R:=bills) uses)
 have hml:(mixR n bills uses).length=n:=zix H.wide
 rw[h2,zaM (by rw[hml];exact q.l1),ziS H.wide]
 omega
def z1y(xs:List Int):Int:=xs.foldl (fun t x=>t*x) 1
theorem zdf{e:Nat}(xs:List Int)(h:∀ x∈xs,x.natAbs<2 ^ e)(he:e*(xs.length+1)≤1000000):z4U [L xs]=some (.int (z1y xs)):=by
 have key:∀(ys:List Int) (t:Int) (k:Nat) (c0 c2:Cell) (f:Bool),(∀ x∈ys,x.natAbs<2 ^ e)→t.natAbs<2 ^ k→k+e*(ys.length+1)≤2000000→∃ f' c2',forF (Tg.one 2) (sSet [] 1 (fOp z19 (fN 1) (fN 2))) (ys.map Dt.int) [c0,.sh f (.int t),c2]=some (.nx [c0,.sh f' (.int (ys.foldl (fun t x=>t*x) t)),c2']):=by
  intro ys
  induction ys with
  | nil=>intro t k c0 c2 f _ _ _;exact⟨f,c2,rfl⟩
  | cons y ys ih =>
   intro t k c0 c2 f hy ht hk
   have e1:e*(ys.length+1+1)=e*(ys.length+1)+e:=Nat.mul_succ _ _
   rw[List.length_cons,e1]at hk
   have m:z12 t y=true:=zcZ ht (hy y List.mem_cons_self) (by omega)
   have b:(t*y).natAbs<2 ^ (k+e):=by rw[Int.natAbs_mul,Nat.pow_add];exact Nat.mul_lt_mul'' ht (hy y List.mem_cons_self)
   obtain⟨f',c2',q⟩:=ih (t*y) (k+e) c0 (.sh false (.int y)) true (fun x hx=>hy x (List.mem_cons_of_mem _ hx)) b (by omega)
   refine⟨f',c2',?_⟩
   rw[List.map_cons,z1K,List.foldl_cons,←q]
   have s:(Tg.put (Tg.one 2) (.int y) [c0,.sh f (.int t),c2]).bind (sSet [] 1 (fOp z19 (fN 1) (fN 2)))=some (.nx [c0,.sh true (.int (t*y)),.sh false (.int y)]):=by
    simp[cOf,m]
   rw[s];rfl
 obtain⟨f',c2',q⟩:=key xs 1 1 (.sh false (L xs)) .no true h (by decide) (by omega)
 unfold z4U z6v
 have q:forF (Tg.one 2) (sSet [] 1 (fOp z19 (fN 1) (fN 2))) (xs.map Dt.int) [.sh false (L xs),.sh true (.int 1),.no]=some (.nx [.sh false (L xs),.sh f' (.int (z1y xs)),c2']):=q
 simp[cOf,q]
theorem zc8(ns:List Int)(m a:Int)(k n:Nat)(ρ:List Cell)(j:Nat)(f3:Bool)(h0:0≤m)(h3:m<3)(hk:k≤100)(hn:n≤100)(ha:0≤a)
    (hρ:∃ f1 f2 f4 f5 r,ρ=[.sh false (.scr ns),.sh f1 (.int m),.sh f2 (.int k),.sh f4 (.int (if j=3 then(n:Int) else r)),.sh f5 (.int (if j=4 then(n:Int) else r))]++ρ.drop 5) (hj:j=3∨j=4) :
    (z0k 1 [0,2,1] (z0s (fN j)) (Tg.one 0) fYes (z09 true z2x (z02 (fN 1) (z02 (fOp z0z (fC (.int a)) (fOp z19 (fN 2) (fN 0))) (z02 (fN 2) (z02 (fN 3) fNil)))))) ρ =
      some (.nw,LL ((List.range n).map fun(j:Nat)=>z40 ns (a+(k:Int)*(j:Int)) k m)):=by
  obtain⟨f1,f2,f4,f5,r,hρ⟩:=hρ
  rw[hρ]
  generalize ρ.drop 5=ρ'
  have:=z0u (nt:=1) (js:=[0,2,1]) (Fi:=z0s (fN j)) (g:=Tg.one 0) (Fe:=z09 true z2x (z02 (fN 1) (z02 (fOp z0z (fC (.int a)) (fOp z19 (fN 2) (fN 0))) (z02 (fN 2) (z02 (fN 3) fNil))))) (ρ:=[.sh false (.scr ns),.sh f1 (.int m),.sh f2 (.int k),.sh f4 (.int (if j=3 then(n:Int) else r)),.sh f5 (.int (if j=4 then(n:Int) else r))]++ρ') (e:=fun(j:Nat) => .int (0+(j:Int))) (h:=fun(j:Nat)=>L (z40 ns (a+(k:Int)*(j:Int)) k m)) (xs:=List.range n)
    (by rcases hj with rfl|rfl<;>simp[cOf,z0s,intD,z20,z1j,show(n:Int)≤1000000 by omega,show -1000000≤(n:Int) by omega])
    (fun j hj=>by
      have hj:=List.mem_range.mp hj
      have hm:z12 (k:Int) (j:Int)=true:=z6W (by                     have:(j:Int).natAbs=j:=by omega
                                                                    omega)
      have hp:(0:Int)≤a+(k:Int)*(j:Int):=by have:=Int.mul_nonneg (show(0:Int)≤k by omega) (show(0:Int)≤j by omega);omega
      have e:=ziW ns (a+(k:Int)*(j:Int)) k m hp (by omega) h0 h3
      simp[cOf,Tg.put,sigD,z3Z,hm,e])
  rw[this]
  simp[LL]
theorem zc9(ns:List Int)(a m:Int)(k n:Nat)(h1:1≤k)(h6:k≤6)(hn:n≤3):Hall k ((List.range n).map fun(j:Nat)=>z40 ns (a+(k:Int)*(j:Int)) k m) :=
 ⟨h1,h6,by simp;omega,fun r hr=>by
  obtain⟨j,_,rfl⟩:=List.mem_map.mp hr
  exact zh3 _ _ _ _,fun r hr=>by
  obtain⟨j,_,rfl⟩:=List.mem_map.mp hr
  exact ziz _ _ _ _⟩
theorem zj1(ns:List Int):∃(n:Nat) (O T:List (List Int)),zaR [.scr ns]=some (.tup [.int n,LL O,LL T])∧Hall n O∧Hall n T∧O.length≤3∧T.length≤3:=by
 have c0:=z1s ns 0 (by decide)
 have c1:=z1s ns 1 (by decide)
 have c2:=z1s ns 2 (by decide)
 have c3:=z1s ns 3 (by decide)
 have c4:=z1s ns 4 (by decide)
 have r0:=z1k (z0t ns 0) (show(0:Int)<3 by decide)
 have r1:=z1k (z0t ns 1) (show(0:Int)<4 by decide)
 have r2:=z1k (z0t ns 2) (show(0:Int)<5 by decide)
 have r3:=z1k (z0t ns 3) (show(0:Int)<4 by decide)
 have mo:∀(c:Int) (k:Nat),z6P c ((k+1:Nat):Int)=true:=fun c k=>by unfold z6P;exact decide_eq_true (by omega)
 have mo2:=fun c=>mo c 1
 have mo3:=fun c=>mo c 2
 have mo4:=fun c=>mo c 3
 have mo5:=fun c=>mo c 4
 have mo7:=fun c=>mo c 6
 simp only[Nat.reduceAdd,Int.cast_ofNat_Int]at mo2 mo3 mo4 mo5 mo7
 have lk:∃ m0:Int,atI [Dt.int 0,Dt.int 0,Dt.int 0,Dt.int 1,Dt.int 2] ((z0t ns 2).fmod 5)=some (.int m0)∧0≤m0∧m0<3:=by
  have hr2:(z0t ns 2).fmod 5=0∨(z0t ns 2).fmod 5=1∨(z0t ns 2).fmod 5=2∨(z0t ns 2).fmod 5=3∨(z0t ns 2).fmod 5=4:=by omega +splitDisjunctions
  rcases hr2 with h2|h2|h2|h2|h2<;>rw[h2]
  · exact⟨0,rfl,by decide⟩
  · exact⟨0,rfl,by decide⟩
  · exact⟨0,rfl,by decide⟩
  · exact⟨1,rfl,by decide⟩
  · exact⟨2,rfl,by decide⟩
 obtain⟨m0,lk,l0,l3⟩:=lk
 have fin:∀(m k n u:Int) (f1 f2 f3 f4:Bool),0≤m→m<3→1≤k→k≤6→0≤n→n≤3→0≤u→u≤3→∃(n':Nat) (O T:List (List Int)),(sSeq (sSet [] 5 (z0k 1 [0,2,1] (z0s (fN 3)) (Tg.one 0) fYes (z09 true z2x (z02 (fN 1) (z02 (fOp z0z (fC (.int 8)) (fOp z19 (fN 2) (fN 0))) (z02 (fN 2) (z02 (fN 3) fNil)))))))
 (sSeq (sSet [] 6 (z0k 1 [0,2,1] (z0s (fN 4)) (Tg.one 0) fYes (z09 true z2x (z02 (fN 1) (z02 (fOp z0z (fC (.int 27)) (fOp z19 (fN 2) (fN 0))) (z02 (fN 2) (z02 (fN 3) fNil)))))))
 (sRet (fTup (z02 (fN 2) (z02 (fN 5) (z02 (fN 6) fNil))))))) [.sh false (.scr ns),.sh f1 (.int m),.sh f2 (.int k),.sh f3 (.int n),.sh f4 (.int u),.no,.no]=some (.rt .fr (.tup [.int n',LL O,LL T]))∧Hall n' O∧Hall n' T∧O.length≤3∧T.length≤3:=by
  intro m k n u f1 f2 f3 f4 a1 a2 a3 a4 a5 a6 a7 a8
  obtain⟨k,rfl⟩:=Int.eq_ofNat_of_zero_le (show 0≤k by omega)
  obtain⟨n,rfl⟩:=Int.eq_ofNat_of_zero_le a5
  obtain⟨u,rfl⟩:=Int.eq_ofNat_of_zero_le a7
  refine⟨k,_,_,?_,zc9 ns 8 m k n (by omega) (by omega) (by omega),zc9 ns 27 m k u (by omega) (by omega) (by omega),by simp;omega,by simp;omega⟩
  have e1:=zc8 ns m 8 k n [.sh false (.scr ns),.sh f1 (.int m),.sh f2 (.int k),.sh f3 (.int n),.sh f4 (.int u),.no,.no] 3 true a1 a2 (by omega) (by omega) (by decide) ⟨f1,f2,f3,f4,u,rfl⟩ (.inl rfl)
  generalize hO:(List.range n).map (fun(j:Nat)=>z40 ns (8+(k:Int)*(j:Int)) k m)=O at *
  refine run (ρ':=[.sh false (.scr ns),.sh f1 (.int m),.sh f2 (.int k),.sh f3 (.int n),.sh f4 (.int u),.sh true (LL O),.no]) (by simp[cOf,e1]) ?_
  have e2:=zc8 ns m 27 k u [.sh false (.scr ns),.sh f1 (.int m),.sh f2 (.int k),.sh f3 (.int n),.sh f4 (.int u),.sh true (LL O),.no] 4 true a1 a2 (by omega) (by omega) (by decide) ⟨f1,f2,f3,f4,n,rfl⟩ (.inr rfl)
  generalize hT:(List.range u).map (fun(j:Nat)=>z40 ns (27+(k:Int)*(j:Int)) k m)=T at *
  refine run (ρ':=[.sh false (.scr ns),.sh f1 (.int m),.sh f2 (.int k),.sh f3 (.int n),.sh f4 (.int u),.sh true (LL O),.sh true (LL T)]) (by simp[cOf,e2]) ?_
  simp[cOf,LL]
 have key:∃(n':Nat) (O T:List (List Int)),z7z [.sh false (.scr ns),.no,.no,.no,.no,.no,.no]=some (.rt .fr (.tup [.int n',LL O,LL T]))∧Hall n' O∧Hall n' T∧O.length≤3∧T.length≤3:=by
  have r02:=z1k (1+(z0t ns 0).fmod 3) (show(0:Int)<2 by decide)
  have r13:=z1k ((z0t ns 1).fmod 4) (show(0:Int)<3 by decide)
  have r33:=z1k ((z0t ns 3).fmod 4) (show(0:Int)<3 by decide)
  have st:∀(F:FS) (ρ ρ':List Cell) (G:FS) (P:Nat→List (List Int)→List (List Int)→Prop),F ρ=some (.nx ρ')→(∃(n':Nat) (O T:List (List Int)),G ρ'=some (.rt .fr (.tup [.int n',LL O,LL T]))∧P n' O T)→∃(n':Nat) (O T:List (List Int)),sSeq F G ρ=some (.rt .fr (.tup [.int n',LL O,LL T]))∧P n' O T:=by
    rintro F ρ ρ' G P h ⟨n',O,T,e,p⟩
    exact⟨n',O,T,run h e,p⟩
  unfold z7z
  refine st _ _ [.sh false (.scr ns),.sh true (.int m0),.no,.no,.no,.no,.no] _ _ (by simp[cOf,c2,lk,mo5]) ?_
  refine st _ _ [.sh false (.scr ns),.sh true (.int m0),.sh true (.int (1+(z0t ns 0).fmod 3)),.no,.no,.no,.no] _ _ (by simp[cOf,c0,mo3]) ?_
  refine st _ _ [.sh false (.scr ns),.sh true (.int m0),.sh true (.int (1+(z0t ns 0).fmod 3)),.sh true (.int ((z0t ns 1).fmod 4)),.no,.no,.no] _ _ (by simp[cOf,c1,mo4]) ?_
  refine st _ _ [.sh false (.scr ns),.sh true (.int m0),.sh true (.int (1+(z0t ns 0).fmod 3)),.sh true (.int ((z0t ns 1).fmod 4)),.sh true (.int ((z0t ns 3).fmod 4)),.no,.no] _ _ (by simp[cOf,c3,mo4]) ?_
  by_cases h4:(z0t ns 4).fmod 7=6
  · refine st _ _ [.sh false (.scr ns),.sh true (.int 0),.sh true (.int 6),.sh true (.int ((z0t ns 1).fmod 4)),.sh true (.int ((z0t ns 3).fmod 4)),.no,.no] _ _ (by simp[cOf,c4,h4,z0N,mo7]) ?_
    refine st _ _ [.sh false (.scr ns),.sh true (.int 0),.sh true (.int 6),.sh true (.int ((z0t ns 1).fmod 4)),.sh true (.int ((z0t ns 3).fmod 4)),.no,.no] _ _ (by simp[cOf,z0N]) ?_
    exact fin _ _ _ _ _ _ _ _ (by omega) (by omega) (by omega) (by omega) (by omega) (by omega) (by omega) (by omega)
  · refine st _ _ [.sh false (.scr ns),.sh true (.int m0),.sh true (.int (1+(z0t ns 0).fmod 3)),.sh true (.int ((z0t ns 1).fmod 4)),.sh true (.int ((z0t ns 3).fmod 4)),.no,.no] _ _ (by simp[cOf,c4,h4,z0N,mo7]) ?_
    by_cases h2:m0=2
    · refine st _ _ [.sh false (.scr ns),.sh true (.int m0),.sh true (.int (1+(1+(z0t ns 0).fmod 3).fmod 2)),.sh true (.int (((z0t ns 1).fmod 4).fmod 3)),.sh true (.int (((z0t ns 3).fmod 4).fmod 3)),.no,.no] _ _ (by simp[cOf,h2,z0N,mo2,mo3]) ?_
      exact fin _ _ _ _ _ _ _ _ (by omega) (by omega) (by omega) (by omega) (by omega) (by omega) (by omega) (by omega)
    · refine st _ _ [.sh false (.scr ns),.sh true (.int m0),.sh true (.int (1+(z0t ns 0).fmod 3)),.sh true (.int ((z0t ns 1).fmod 4)),.sh true (.int ((z0t ns 3).fmod 4)),.no,.no] _ _ (by simp[cOf,h2,z0N]) ?_
      exact fin _ _ _ _ _ _ _ _ (by omega) (by omega) (by omega) (by omega) (by omega) (by omega) (by omega) (by omega)
 obtain⟨n,O,T,e,p⟩:=key
 exact⟨n,O,T,z4M (f := .fr) rfl e rfl,p⟩
theorem z3P(n:Nat)(a b:List (List Int)):z1O [z0w n a,z0w n b]=some .non:=by
 unfold z1O z4n
 simp[cOf,z1z]
theorem zhl(a b:List (List Int))(h:a.length+b.length≤1000):zaD (TTu a) (TTu b)=some (.nw,TTu (a++b)):=by
 have e1:(a.map T).length+(b.map T).length≤1000000:=by simp;omega
 show(if(a.map T).length+(b.map T).length≤1000000 then some (if z0V (a.map T++b.map T) then Fl.nw else .sh,Dt.tup (a.map T++b.map T)) else none)=_
 rw[if_pos e1,←List.map_append]
 have f:z0V ((a++b).map T)=true:=by
  generalize a++b=c
  induction c with
  | nil=>rfl
  | cons x c ih=>simp[z0V,ih,T,Dt.flat]
 rw[f];rfl
theorem zhm{n:Nat}{O T:List (List Int)}(HO:Hall n O)(HT:Hall n T)(lO:O.length≤3)(lT:T.length≤3):∃ J,z5X [z0w n O,z0w n T]=some (z0w n J)∧St.Good n (10 ^ 30) (O++T) J∧∀ r∈J,St.Lt (2 ^ 660) r:=by
 have n6:=HO.n6
 have hl:∀ r∈O++T,r.length=n:=fun r hr=>(List.mem_append.mp hr).elim (HO.wide r) (HT.wide r)
 have hb:∀ r∈O++T,St.Lt (10 ^ 30) r:=fun r hr=>(List.mem_append.mp hr).elim (HO.lt r) (HT.lt r)
 obtain⟨J,q,G⟩:=z5n (n:=n) (e:=900) (B:=10 ^ 30) L2.T (fun r => .inr rfl) (by omega) (by omega) (O++T) (TTu (O++T)) (.inr rfl) hl hb (by decide) (by decide) (fun k hk=>St.ziG k (by simp at hk;omega)) (by simp;omega)
 have l:=G.len
 refine⟨J,?_,G,fun r hr=>(G.small hb (by decide) r hr).mono ?_⟩
 · have nl:=z3P n O T
   have ct:=zhl O T (by omega)
   have hby:=z5l n J
   unfold z5X z8p
   simp[cOf,nl,ct,q,hby]
 · have m:=St.z4c (B:=10 ^ 30) (show J.length≤6 by simp at l;omega) (by decide) (by decide)
   have e:St.bnd 6 (10 ^ 30)+1≤2 ^ 660:=by unfold St.bnd;decide
   omega
theorem zj2(a b:List (List Int))(h:a.length+b.length≤1000):∃ f,z0z (LL a) (LL b)=some (f,LL (a++b)):=by
 have e1:(a.map L).length+(b.map L).length≤1000000:=by simp;omega
 have:z0z (.lst (a.map L)) (.lst (b.map L))=z5B (.lst (a.map L)) (.lst (b.map L)):=rfl
 show ∃ f,z0z (.lst (a.map L)) (.lst (b.map L))=_
 rw[this]
 unfold z5B
 simp only[if_pos e1,←List.map_append]
 exact⟨_,rfl⟩
theorem z6B{n e B:Nat}(hn:n≤20)(he:e≤8990)(bills tags:List (List Int))(hlt:bills.length=tags.length)(hl:∀ p∈bills.zip tags,(p.1++p.2).length=n)(hb:∀ p∈bills.zip tags,St.Lt B (p.1++p.2))(hB:0<B)(hBe:B≤2 ^ e)(hbn:∀ k,k≤bills.length→St.bnd k B+1≤2 ^ e)(h20:bills.length≤20):
  ∃ S,z1V [LL bills,LL tags]=some (LL S)∧St.Good n B ((bills.zip tags).map fun p=>p.1++p.2) S:=by
 have hlz:((bills.zip tags).map fun p=>p.1++p.2).length=bills.length:=by simp;omega
 obtain⟨S,q,G⟩:=z5n (n:=n) (e:=e) (B:=B) L (fun r => .inl rfl) hn he ((bills.zip tags).map fun p=>p.1++p.2) (LL ((bills.zip tags).map fun p=>p.1++p.2)) (.inl rfl) (fun r hr=>by
  obtain⟨p,hp,rfl⟩:=List.mem_map.mp hr;exact hl p hp) (fun r hr=>by
  obtain⟨p,hp,rfl⟩:=List.mem_map.mp hr;exact hb p hp) hB hBe (fun k hk=>hbn k (by omega)) (by omega)
 refine⟨S,?_,G⟩
 unfold z1V z2U
 have z:z0k 2 [] (iZip (fN 0) (fN 1)) (Tg.many [0,1]) fYes (fOp z0z (fBlt bLst (z02 (fN 0) fNil)) (fBlt bLst (z02 (fN 1) fNil))) [.sh false (LL bills),.sh false (LL tags)]=some (.nw,LL ((bills.zip tags).map fun p=>p.1++p.2)):=by
  rw[z0u (e:=fun p:List Int×List Int => .tup [L p.1,L p.2]) (h:=fun p=>L (p.1++p.2)) (xs:=bills.zip tags) (by simp[cOf,hlt,z5J]) (fun p hp=>by
   have h1:=hl p hp
   have c:=ziB p.1 p.2 (by simp at h1;omega)
   simp[cOf,c])]
  simp[LL]
 simp[cOf,z,q]
theorem zca{n:Nat}{bills:List (List Int)}(H:Hall n bills)(l:bills.length≤3):∃ S,z15 [z0w n bills]=some (LL S)∧St.Good n (10 ^ 30) bills S∧(∀ r∈S,St.Lt (2 ^ 320) r)∧S.length≤3:=by
 obtain⟨S,es,G,_⟩:=zdd H
 have l1:=G.len
 refine⟨S,es,G,fun r hr=>(G.small H.lt (by decide) r hr).mono ?_,by omega⟩
 have m:=St.z4c (B:=10 ^ 30) (show S.length≤3 by omega) (by decide) (by decide)
 have e:St.bnd 3 (10 ^ 30)+1≤2 ^ 320:=by unfold St.bnd;decide
 omega
theorem zm3(n:Nat)(O T:List (List Int)):((O++T).zip (O++T.map fun _=>z1d n)).map (fun p=>p.1++p.2)=St.metR n O T:=by
 rw[List.zip_append rfl,List.map_append]
 unfold St.metR
 congr 1
 · induction O with
   | nil=>rfl
   | cons a O ih=>simp[ih]
 · induction T with
   | nil=>rfl
   | cons a T ih=>rw[List.map_cons,List.zip_cons_cons,List.map_cons,ih];rfl
theorem met_eq{n:Nat}{O T SO ST:List (List Int)}(h1:1≤n)(n6:n≤6)(eO:z15 [z0w n O]=some (LL SO))(eT:z15 [z0w n T]=some (LL ST))(aO:St.Asc n 0 SO)(aT:St.Asc n 0 ST)(bO:∀ r∈SO,St.Lt (2 ^ 320) r)(bT:∀ r∈ST,St.Lt (2 ^ 320) r)(lO:SO.length≤3)(lT:ST.length≤3):
   ∃ M,ziU [z0w n O,z0w n T]=some (z0w n M)∧St.Asc n 0 M∧Lat.Form 0 (St.z0v M)∧(∀ r∈M,St.Lt (2 ^ 2000) r)∧∀ v,Lat.Span (St.vecs M) v↔Lat.Span (St.vecs SO) v∧Lat.Span (St.vecs ST) v:=by
 have wO:∀ r∈SO,r.length=n:=fun r hr=>(aO.mem hr).1
 have wT:∀ r∈ST,r.length=n:=fun r hr=>(aT.mem hr).1
 have zl:(z1d n).length=n:=by simp[z1d]
 have hz:=zm3 n SO ST
 have mm:∀ p∈(SO++ST).zip (SO++ST.map fun _=>z1d n),(p.1.length=n∧p.2.length=n)∧St.Lt (2 ^ 320) p.1∧St.Lt (2 ^ 320) p.2:=fun p hp=>by
   obtain⟨q1,q2⟩:=List.of_mem_zip hp
   have c1:p.1.length=n∧St.Lt (2 ^ 320) p.1:=(List.mem_append.mp q1).elim (fun h=>⟨wO _ h,bO _ h⟩) (fun h=>⟨wT _ h,bT _ h⟩)
   have c2:p.2.length=n∧St.Lt (2 ^ 320) p.2:=(List.mem_append.mp q2).elim (fun h=>⟨wO _ h,bO _ h⟩) (fun h=>by
     obtain⟨_,_,e⟩:=List.mem_map.mp h
     rw[←e]
     refine⟨zl,fun k=>?_⟩
     rw[show St.at0 (z1d n) k=0 from St.z5T n k]
     exact Nat.two_pow_pos _)
   exact⟨⟨c1.1,c2.1⟩,c1.2,c2.2⟩
 have lt2:∀ p∈(SO++ST).zip (SO++ST.map fun _=>z1d n),St.Lt (2 ^ 320) (p.1++p.2):=fun p hp k=>by
   obtain⟨⟨a,_⟩,b,c⟩:=mm p hp
   rw[St.z2u a]
   by_cases h:k<n
   · rw[if_pos h];exact b k
   · rw[if_neg h];exact c _
 have bm:∀ k,k≤6→St.bnd k (2 ^ 320)+1≤2 ^ 2000:=fun k hk=>by
   have m:=St.z4c (B:=2 ^ 320) hk (by decide) (by decide)
   have e:St.bnd 6 (2 ^ 320)+1≤2 ^ 2000:=by unfold St.bnd;decide
   omega
 obtain⟨U,eU,G⟩:=z6B (n:=n+n) (e:=2000) (B:=2 ^ 320) (by omega) (by omega) (SO++ST) (SO++ST.map fun _=>z1d n) (by simp) (fun p hp=>by
   obtain⟨⟨a,b⟩,_⟩:=mm p hp
   rw[List.length_append,a,b]) lt2 (Nat.two_pow_pos _) (Nat.pow_le_pow_right (by decide) (by decide)) (fun k hk=>bm k (by simp at hk;omega)) (by simp;omega)
 rw[hz]at G
 have lU:U.length≤6:=by have:=G.len;rw[←hz]at this;simp at this;omega
 have sU:=G.small (fun r hr=>by
   rw[←hz]at hr
   obtain⟨p,hp,rfl⟩:=List.mem_map.mp hr
   exact lt2 p hp) (Nat.two_pow_pos _)
 refine⟨St.bots n U,?_,St.zbO G.asc rfl,St.zh7 G.asc G.form rfl,fun r hr=>?_,fun v=>St.ziK wO wT G.asc G.span v⟩
 · have nl:=z3P n O T
   obtain⟨f1,k1⟩:=zj2 SO ST (by omega)
   obtain⟨f2,k2⟩:=zj2 SO (ST.map fun _=>z1d n) (by simp;omega)
   have tg:=z60 U n
   have hby:=z5l n (St.bots n U)
   have ng:=z8t n (by omega)
   have cm:∀ f c4,z0k 1 [0] (iSeq (fN 3)) (Tg.one 0) fYes (z09 true z28 (z02 (fAt (fN 1) (fC (.int 0))) fNil)) [.sh false (z0w n O),.sh false (z0w n T),.sh true (LL SO),.sh f (LL ST),c4]=some (.nw,LL (ST.map fun _=>z1d n)):=fun f c4=>by
     rw[z0u (e:=L) (h:=fun _=>L (z1d n)) (xs:=ST) (by simp[cOf]) (fun r hr=>by simp[cOf,ng])]
     simp[LL]
   refine z4M (f := .nw) rfl ?_ rfl
   unfold ziT
   refine run (ρ':=[.sh false (z0w n O),.sh false (z0w n T),.no,.no,.no]) (by simp[cOf,nl]) ?_
   refine run (ρ':=[.sh false (z0w n O),.sh false (z0w n T),.sh true (LL SO),.no,.no]) (by simp[cOf,eO]) ?_
   refine run (ρ':=[.sh false (z0w n O),.sh false (z0w n T),.sh true (LL SO),.sh true (LL ST),.no]) (by simp[cOf,eT]) ?_
   refine run (ρ':=[.sh false (z0w n O),.sh false (z0w n T),.sh true (LL SO),.sh true (LL ST),.sh true (LL U)]) (by
     have k3:=cm true .no
     generalize ST.map (fun _=>z1d n)=Z at *
     have k1:z0z (.lst (SO.map L)) (.lst (ST.map L))=some (f1,LL (SO++ST)):=k1
     have k2:z0z (.lst (SO.map L)) (.lst (Z.map L))=some (f2,LL (SO++Z)):=k2
     simp[cOf,k1,k3,k2,eU]) ?_
   generalize St.bots n U=M at *
   simp[cOf,tg,hby]
 · obtain⟨u,hu,rfl⟩:=List.mem_map.mp hr
   have hu:=(List.mem_filter.mp hu).1
   intro k
   have:=(sU u hu).mono (bm U.length lU) (n+k)
   have e:St.at0 (u.drop n) k=St.at0 u (n+k):=by simp[St.at0,List.getD]
   show(St.at0 (u.drop n) k).natAbs<_
   rw[e];exact this
structure Side(n s:Nat)(X S:List (List Int)):Prop where
 es:z15 [z0w n X]=some (LL S)
 asc:St.Asc n 0 S
 bS:∀ r∈S,St.Lt (2 ^ s) r
 wX:∀ r∈X,r.length=n
 bX:∀ r∈X,St.Lt (2 ^ s) r
 span:Lat.SameSpan (St.vecs S) (St.vecs X)
 n6:n≤6
 s2:s≤2000
 hp:s*S.length≤6000
 len:S.length≤6
theorem z1W{n s:Nat}{X S:List (List Int)}(q:Side n s X S):z0S [LL S]=some (.int (z1y (S.map St.hd))):=by
 have key:z0k 1 [] (iSeq (fN 0)) (Tg.one 0) fYes (fAt (fN 0) (z09 true z0g (z02 (fN 0) fNil))) [.sh false (LL S)]=some (.nw,L (S.map St.hd)):=by
  rw[z0u (e:=L) (h:=fun r => .int (St.hd r)) (xs:=S) (by simp[cOf]) (fun r hr=>by
   have a:=z1H (r:=r) (k:=St.z00 r) (by rw[(q.asc.mem hr).1];exact(q.asc.mem hr).2.2.1)
   have a:atI (r.map Dt.int) (St.z00 r:Int)=some (.int (St.hd r)):=a
   simp[cOf,z10,a])]
  simp[L]
 have pe:=zdf (e:=s) (S.map St.hd) (fun x hx=>by
  obtain⟨r,hr,rfl⟩:=List.mem_map.mp hx
  exact q.bS r hr _) (by
   have:=q.hp
   have:=q.s2
   rw[List.length_map,Nat.mul_succ];omega)
 unfold z0S z2o
 generalize S.map St.hd=xs at *
 simp[cOf,key,pe]
theorem z61{n s:Nat}{X S:List (List Int)}(q:Side n s X S):z2V [z0w n X]=some (if S.length<n then .non else .int (z1y (S.map St.hd))):=by
 have e:=z1W q
 have es:=q.es
 unfold z2V z5j
 by_cases h:S.length<n
 · simp[cOf,es,h]
 · simp[cOf,es,h,e]
theorem z8z{n s e:Nat}{X A Y B:List (List Int)}(q:Side n s X A)(p:Side n e Y B)(h:∀ x∈X,Lat.Span (St.vecs B) (St.vec x)):z4o [z0w n X,z0w n Y]=some (.bl true):=by
 have nl:=z3P n X Y
 have es:=p.es
 have ng:=z8t n (by have:=q.n6;omega)
 have cm:z0k 1 [2,0] (iSeq (fAt (fN 0) (fC (.int 1)))) (Tg.one 0) fYes (fOp opEq (z09 true z0G (z02 (fN 0) (z02 (fN 1) fNil))) (z09 true z28 (z02 (fAt (fN 2) (fC (.int 0))) fNil))) [.sh false (z0w n X),.sh false (z0w n Y),.sh true (LL B)]=some (.nw,.lst (X.map fun _ => .bl true)):=by
  rw[z0u (e:=T) (h:=fun _ => .bl true) (xs:=X) (by simp[cOf]) (fun x hx=>by
   obtain⟨l1,l2,l3,l4,_⟩:=zde (e:=e) p.asc p.bS (by have:=p.s2;omega) (q.wX x hx) (q.bX x hx) (by have:=p.len;omega) (by have:=q.s2;omega)
   have le:=z3O (T x) x B (.inr rfl) l3 l1 (q.wX x hx) l2 l4
   have z:St.z0f x B=z1d n:=(St.z92 p.asc (q.wX x hx)).mpr (h x hx)
   rw[z]at le
   have oe:=zh2 (z1d n) (z1d n)
   rw[decide_eq_true rfl]at oe
   simp[cOf,le,ng,oe])]
 have al:bAll [.lst (X.map fun _ => .bl true)]=some (.nw,.bl true):=by
  simp[bAll,z4L (fun _=>true) X]
 unfold z4o z8q
 simp[cOf,nl,es,cm,al]
theorem z6C:∀{n:Nat} {S:List (List Int)} {f:Nat},St.Asc n f S→0<z1y (S.map St.hd):=by
 have key:∀(xs:List Int) (t:Int),(∀ x∈xs,0<x)→0<t→0<xs.foldl (fun t x=>t*x) t:=by
  intro xs
  induction xs with
  | nil=>intro t _ h;exact h
  | cons x xs ih=>intro t h ht;exact ih _ (fun y hy=>h y (List.mem_cons_of_mem _ hy)) (Int.mul_pos ht (h x List.mem_cons_self))
 intro n S f A
 exact key _ 1 (fun x hx=>by
  obtain⟨r,hr,rfl⟩:=List.mem_map.mp hx
  exact(A.mem hr).2.2.2) (by decide)
theorem zcb:∀(xs:List Int) (t:Int),xs.foldl (fun t x=>t*x) t=t*xs.foldl (fun t x=>t*x) 1:=by
 intro xs
 induction xs with
 | nil=>intro t;simp
 | cons x xs ih=>intro t;rw[List.foldl_cons,List.foldl_cons,ih,ih (1*x),Int.one_mul,Int.mul_assoc]
theorem z62:∀{A B:List (List Int)} {ds:List Nat},St.Rel A B ds→z1y (A.map St.hd)=(Lat.prod ds:Int)*z1y (B.map St.hd)
 | [],[],[],_=>by simp[z1y,Lat.prod]
 | a::as,b::bs,d::ds,h=>by
  have ih:=z62 h.2.2.2.2
  unfold z1y at ih ⊢
  rw[List.map_cons,List.map_cons,List.foldl_cons,List.foldl_cons,zcb,zcb _ (1*St.hd b),ih,h.2.2.1,Int.one_mul,Int.one_mul]
  show _=((d*Lat.prod ds:Nat):Int)*_
  rw[Int.natCast_mul]
  generalize (Lat.prod ds:Int)=x
  generalize List.foldl (fun t x=>t*x) 1 (bs.map St.hd)=y
  generalize St.hd b=z
  rw[Int.mul_assoc,Int.mul_assoc,Int.mul_left_comm z x y]
 | [],[],_::_,h=>h.elim
 | [],_::_,_,h=>by cases h
 | _::_,[],_,h=>by cases h
 | _::_,_::_,[],h=>h.elim
theorem zj3{e:Nat}{xs:List Int}(h:∀ x∈xs,x.natAbs<2 ^ e):(z1y xs).natAbs<2 ^ (e*xs.length+1):=by
 have key:∀(ys:List Int) (t:Int) (k:Nat),(∀ x∈ys,x.natAbs<2 ^ e)→t.natAbs<2 ^ k→(ys.foldl (fun t x=>t*x) t).natAbs<2 ^ (e*ys.length+k):=by
  intro ys
  induction ys with
  | nil=>intro t k _ ht;simpa using ht
  | cons y ys ih =>
   intro t k hy ht
   have b:(t*y).natAbs<2 ^ (k+e):=by rw[Int.natAbs_mul,Nat.pow_add];exact Nat.mul_lt_mul'' ht (hy y List.mem_cons_self)
   have:=ih (t*y) (k+e) (fun x hx=>hy x (List.mem_cons_of_mem _ hx)) b
   rw[List.foldl_cons,List.length_cons,Nat.mul_succ]
   rwa [show e*ys.length+e+k=e*ys.length+(k+e) by omega]
 exact key xs 1 1 h (by decide)
theorem Side.prod_lt{n s:Nat}{X S:List (List Int)}(q:Side n s X S):z1y (S.map St.hd)<2 ^ 6001:=by
 have:=zj3 (e:=s) (xs:=S.map St.hd) (fun x hx=>by
  obtain⟨r,hr,rfl⟩:=List.mem_map.mp hx
  exact q.bS r hr _)
 rw[List.length_map]at this
 have:=Nat.lt_of_lt_of_le this (Nat.pow_le_pow_right (show 0<2 by decide) (show s*S.length+1≤6001 by have:=q.hp;omega))
 have c2:((2 ^ 6001:Nat):Int)=(2:Int) ^ 6001:=by norm_cast
 omega
theorem zaV{n s e:Nat}{X A Y B:List (List Int)}{ds:List Nat}(q:Side n s X A)(p:Side n e Y B)(h:∀ x∈X,Lat.Span (St.vecs B) (St.vec x))(hr:A.length=B.length→St.Rel A B ds)(hle:A.length≤B.length):z3N [z0w n X,z0w n Y]=some (if A.length<B.length then .non else .int (Lat.prod ds)):=by
 have w:=z8z q p h
 have e1:=q.es
 have e2:=p.es
 unfold z3N z5i
 by_cases hl:A.length<B.length
 · simp[cOf,w,e1,e2,hl]
 · have r:=hr (by omega)
   have h1:=z1W q
   have h2:=z1W p
   have pp:=z62 r
   have p0:=z6C p.asc
   have lt:=p.prod_lt
   have dv:z1J (z1y (A.map St.hd)) (z1y (B.map St.hd))=true:=z2K p0 (Int.lt_of_lt_of_le lt (by
    have:(2 ^ 6001:Nat)≤2 ^ 9000:=Nat.pow_le_pow_right (by decide) (by decide)
    have c1:((2 ^ 6001:Nat):Int)=(2:Int) ^ 6001:=by norm_cast
    have c2:((2 ^ 9000:Nat):Int)=(2:Int) ^ 9000:=by norm_cast
    omega))
   have fd:(z1y (A.map St.hd)).fdiv (z1y (B.map St.hd))=Lat.prod ds:=by
    rw[pp];exact Int.mul_fdiv_cancel _ (by omega)
   generalize z1y (A.map St.hd)=u at *
   generalize z1y (B.map St.hd)=v at *
   simp[cOf,w,e1,e2,hl,h1,h2,dv,fd]
abbrev TF:FS:=(sSeq (sSet [] 5 (z09 true z4q (z02 (fN 4) fNil)))
 (sSeq (sSet [] 6 (fOp z2N (fAt (fN 2) (fN 5)) (fAt (fN 4) (fN 5))))
 (sSeq (sSet [] 2 (z0k 1 [2,6,4] (z0s (fBlt bLen (z02 (fN 2) fNil))) (Tg.one 0) fYes (fOp z3i (fAt (fN 1) (fN 0)) (fOp z19 (fN 2) (fAt (fN 3) (fN 0))))))
 (sWr wApp 3 (fN 6)))))
theorem zj4{n:Nat}{left r:List Int}{q:Int}(c0 c1 c3 c5:Cell)(f2 f4 f6:Bool)(hl:left.length=n)(hr:r.length=n)(hn:n≤100)(hm:∀ k,z12 q (St.at0 r k)=true):
  z0k 1 [2,6,4] (z0s (fBlt bLen (z02 (fN 2) fNil))) (Tg.one 0) fYes (fOp z3i (fAt (fN 1) (fN 0)) (fOp z19 (fN 2) (fAt (fN 3) (fN 0)))) [c0,c1,.sh f2 (L left),c3,.sh f4 (L r),c5,.sh f6 (.int q)]=some (.nw,L (St.sub left q r)):=by
 rw[z0u (e:=fun(j:Nat) => .int (0+(j:Int))) (h:=fun(j:Nat) => .int (St.at0 left j-q*St.at0 r j)) (xs:=List.range n)
  (by simp[cOf,z0s,intD,z20,z1j,hl,show(n:Int)≤1000000 by omega,show -1000000≤(n:Int) by omega])
  (fun j hj=>by
    have hj:=List.mem_range.mp hj
    have a1:=z1H (r:=left) (k:=j) (by omega)
    have a2:=z1H (r:=r) (k:=j) (by omega)
    simp[cOf,Tg.put,sigD,z3Z,a1,a2,hm])]
 have e:(List.range n).map (fun(j:Nat)=>St.at0 left j-q*St.at0 r j)=St.sub left q r:=St.ext0 (by rw[St.z1D (by omega)];simp[hl]) fun k=>by
  rw[St.z2s (by omega)]
  by_cases hk:k<n
  · simp[St.at0,List.getD,hk]
  · rw[St.z0O (by simp;omega),St.z0O (r:=left) (by omega),St.z0O (r:=r) (by omega)];simp
 rw[←e]
 simp[L]
theorem z8A{n m:Nat}(hn:n≤100)(hm:2*m≤134217728)(c0 c1:Cell):∀(S:List (List Int)) (left:List Int) (cs:List Int) (c4 c5 c6:Cell),(∀ r∈S,r.length=n∧St.z00 r<n∧0<St.hd r∧St.hd r<2 ^ 9000)→(∀ r∈S,St.Lt (2 ^ m) r)→left.length=n→St.LowB m left S→cs.length+S.length≤1000 →
  ∃ l' c4' c5' c6',forF (Tg.one 4) TF (S.map L) [c0,c1,.sh true (L left),.ow true (cs.map .int),c4,c5,c6]=some (.nx [c0,c1,l',.ow true ((cs++St.z0B left S).map .int),c4',c5',c6'])
 | [],left,cs,c4,c5,c6,_,_,_,_,_=>⟨_,c4,c5,c6,by simp[zbD,St.z0B];rfl⟩
 | r::S,left,cs,c4,c5,c6,hr,hz,hl,hb,hc=>by
  obtain⟨r1,r2,r3,r4⟩:=hr r List.mem_cons_self
  have hs:(St.sub left (St.z0n left r) r).length=n:=by rw[St.z1D (by omega)];exact hl
  obtain⟨l',d4,d5,d6,ih⟩:=z8A hn hm c0 c1 S (St.sub left (St.z0n left r) r) (cs++[St.z0n left r]) (.sh false (L r)) (.sh true (.int (St.z00 r))) (.sh true (.int (St.z0n left r))) (fun x hx=>hr x (List.mem_cons_of_mem _ hx)) (fun x hx=>hz x (List.mem_cons_of_mem _ hx)) hs hb.2 (by simp at hc ⊢;omega)
  refine⟨l',d4,d5,d6,?_⟩
  rw[List.map_cons,z1K]
  have a1:=z1H (r:=left) (k:=St.z00 r) (by omega)
  have a2:=z1H (r:=r) (k:=St.z00 r) (by omega)
  have dv:z1J (St.at0 left (St.z00 r)) (St.at0 r (St.z00 r))=true:=z2K r3 r4
  have ef:(St.at0 left (St.z00 r)).fdiv (St.at0 r (St.z00 r))=St.z0n left r:=rfl
  have hcs:cs.length<1000000:=by simp at hc;omega
  have hh:=zhk r
  have mo:∀ k,z12 (St.z0n left r) (St.at0 r k)=true:=fun k=>by
   rcases hb.1 with h|⟨h1,h2⟩
   · rw[h];exact z1g (m:=0) (by decide) (hz r List.mem_cons_self k) (by omega)
   · exact z1g h1 (h2 k) (by omega)
  have sc:=zj4 (q:=St.z0n left r) (z32 c0) (z32 c1) .no (.sh true (.int (St.z00 r))) true false true hl r1 hn mo
  have e:(Tg.put (Tg.one 4) (L r) [c0,c1,.sh true (L left),.ow true (cs.map .int),c4,c5,c6]).bind TF=some (.nx [c0,c1,.sh true (L (St.sub left (St.z0n left r) r)),.ow true ((cs++[St.z0n left r]).map .int),.sh false (L r),.sh true (.int (St.z00 r)),.sh true (.int (St.z0n left r))]):=by
   show TF [c0,c1,.sh true (L left),.ow true (cs.map .int),.sh false (L r),c5,c6]=_
   refine run (ρ':=[c0,c1,.sh true (L left),.ow true (cs.map .int),.sh false (L r),.sh true (.int (St.z00 r)),c6]) (by simp[cOf,hh]) ?_
   refine run (ρ':=[c0,c1,.sh true (L left),.ow true (cs.map .int),.sh false (L r),.sh true (.int (St.z00 r)),.sh true (.int (St.z0n left r))]) (by simp[cOf,a1,a2,dv,ef]) ?_
   generalize St.sub left (St.z0n left r) r=nl at *
   generalize St.z0n left r=q at *
   refine run (ρ':=[c0,c1,.sh true (L nl),.ow true (cs.map .int),.sh false (L r),.sh true (.int (St.z00 r)),.sh true (.int q)]) (by simp[cOf,sc]) ?_
   simp[cOf,hcs]
  rw[e]
  show forF (Tg.one 4) TF (S.map L) _=_
  rw[ih,St.z0B]
  simp
theorem zdg{n s e:Nat}{Y B:List (List Int)}{a:List Int}(p:Side n e Y B)(ha:a.length=n)(hs:St.Lt (2 ^ s) a)(hs2:s≤2000):z3o [LL B,L a]=some (L (St.z0B a B)):=by
 obtain⟨l1,l2,l3,l4,_⟩:=zde (e:=e) p.asc p.bS (by have:=p.s2;omega) ha hs (by have:=p.len;omega) (by omega)
 obtain⟨l',d4,d5,d6,q⟩:=z8A (n:=n) (by have:=p.n6;omega) l3 (.sh false (LL B)) (.sh false (L a)) B a [] .no .no .no l1 (fun r hr=>(p.bS r hr).mono (Nat.pow_le_pow_right (by decide) (by omega))) ha l2 (by simpa using l4)
 unfold z3o z6A
 simp[cOf]at q ⊢;simp[q]
theorem zhn{k j B e:Nat}(h:k≤j)(hj:0<j)(hB:0<B)(he:St.bnd j B+1≤2 ^ e):St.bnd k B+1≤2 ^ e:=by
 have m:=St.z4c (B:=B) h (by omega) (by omega)
 omega
theorem z8B{n:Nat}{X:List (List Int)}(H:Hall n X)(l:X.length≤3):∃ S,Side n 320 X S∧St.Good n (10 ^ 30) X S∧S.length≤3:=by
 obtain⟨S,es,G,b,l3⟩:=zca H l
 exact⟨S,⟨es,G.asc,b,H.wide,fun r hr=>(H.lt r hr).mono (by decide),G.span,H.n6,by decide,by omega,by omega⟩,G,l3⟩
theorem z8C{n s j e:Nat}{M:List (List Int)}(n6:n≤6)(A:St.Asc n 0 M)(F:Lat.Form 0 (St.z0v M))(b:∀ r∈M,St.Lt (2 ^ s) r)(l:M.length≤j)(hj:0<j)(j6:j≤6)(hs:s≤2000)(hp:s*j≤6000)(he:e≤8990)(hse:s≤e)(hb:St.bnd j (2 ^ s)+1≤2 ^ e):Side n s M M:=by
 have w:∀ r∈M,r.length=n:=fun r hr=>(A.mem hr).1
 obtain⟨S,es,G⟩:=zc6 (n:=n) (e:=e) (B:=2 ^ s) n M (by omega) he w b (Nat.two_pow_pos _) (Nat.pow_le_pow_right (by decide) hse) (fun k hk=>zhn (by omega) hj (Nat.two_pow_pos _) hb) (by omega)
 have e1:S=M:=St.z9I G.asc G.form A F G.span
 subst e1
 exact⟨es,A,b,w,b,Lat.SameSpan.refl,n6,hs,Nat.le_trans (Nat.mul_le_mul_left _ l) hp,by omega⟩
def mkL(m:Nat)(g:Nat→List Int):List Dt:=(List.range m).map fun i=>L (g i)
theorem z63(m:Nat)(g:Nat→List Int):(mkL m g).length=m:=by unfold mkL;rw[List.length_map,List.length_range]
theorem zj5{m:Nat}(g:Nat→List Int){j:Nat}(h:j<m):atI (mkL m g) (j:Int)=some (L (g j)):=by
 refine z4E ?_
 unfold mkL
 rw[List.getElem?_map,List.getElem?_range h];rfl
theorem z9V{m:Nat}{g g':Nat→List Int}(h:∀ i,i<m→g i=g' i):mkL m g=mkL m g':=List.map_congr_left fun i hi=>by rw[h i (List.mem_range.mp hi)]
theorem zgo{m:Nat}{g g':Nat→List Int}{j:Nat}{v:List Int}(h:∀ i,i<m→i≠j→g' i=g i)(hj:g' j=v):(mkL m g).set j (L v)=mkL m g':=by
 refine List.ext_getElem (by rw[List.length_set,z63,z63]) fun i h1 h2=>?_
 rw[z63]at h2
 rw[List.getElem_set]
 by_cases e:j=i
 · subst e
   rw[if_pos rfl]
   simp[mkL,hj]
 · rw[if_neg e]
   simp[mkL,h i h2 (fun q=>e q.symm)]
abbrev ZC:FE:=z0k 1 [7,5,3] (z0s (fBlt bLen (z02 (fN 7) fNil))) (Tg.one 0) fYes (fOp z3i (fOp z19 (fAt (fN 1) (fN 0)) (fAt (fN 2) (fN 3))) (fOp z19 (fAt (fN 1) (fN 3)) (fAt (fN 2) (fN 0))))
abbrev ZD:FE:=z0k 1 [2] (iSeq (fN 8)) (Tg.one 0) fYes (fOp z2N (fN 0) (fN 1))
theorem z_comp{m k:Nat}{rj kp:List Int}(hr:rj.length=m)(hk:kp.length=m)(km:k<m)(hm:m≤100)(o1:∀ i,z12 (St.at0 rj i) (St.at0 kp k)=true)(o2:∀ i,z12 0 (St.at0 kp i)=true)(z:St.at0 rj k=0)(c0 c1 c2 c4 c6 c8:Cell)(f3 f5 f7:Bool):
  ZC [c0,c1,c2,.sh f3 (.int k),c4,.sh f5 (L kp),c6,.sh f7 (L rj),c8]=some (.nw,L (sclR (St.at0 kp k) rj)):=by
 unfold ZC
 rw[z0u (e:=fun(j:Nat) => .int (0+(j:Int))) (h:=fun(j:Nat) => .int (St.at0 rj j*St.at0 kp k-0*St.at0 kp j)) (xs:=List.range m)
  (by simp[cOf,z0s,intD,z20,z1j,hr,show(m:Int)≤1000000 by omega,show -1000000≤(m:Int) by omega])
  (fun j hj=>by
    have hj:=List.mem_range.mp hj
    have a1:=z1H (r:=rj) (k:=j) (by omega)
    have a2:=z1H (r:=kp) (k:=k) (by omega)
    have a3:=z1H (r:=rj) (k:=k) (by omega)
    have a4:=z1H (r:=kp) (k:=j) (by omega)
    rw[z]at a3
    have o1:=o1 j
    have o2:=o2 j
    simp[cOf,Tg.put,sigD,z3Z,a1,a2,a3,a4,o1,o2])]
 have e:(List.range m).map (fun(j:Nat)=>St.at0 rj j*St.at0 kp k-0*St.at0 kp j)=sclR (St.at0 kp k) rj:=St.ext0 (by rw[z1l];simp[hr]) fun i=>by
  rw[z5V]
  by_cases hi:i<m
  · simp[St.at0,List.getD,hi];rw[Int.mul_comm]
  · rw[St.z0O (by simp;omega),St.z0O (r:=rj) (by omega)];simp
 rw[←e]
 simp[L]
theorem z_div{xs:List Int}{d:Int}(h0:0<d)(h9:d<2 ^ 9000)(c0 c1 c3 c4 c5 c6 c7:Cell)(f2 f8:Bool):
  ZD [c0,c1,.sh f2 (.int d),c3,c4,c5,c6,c7,.sh f8 (L xs)]=some (.nw,L (xs.map fun x=>x.fdiv d)):=by
 unfold ZD
 rw[z0u (e:=Dt.int) (h:=fun x => .int (x.fdiv d)) (xs:=xs) (by simp[cOf,L]) (fun x hx=>by
  have dv:z1J x d=true:=z2K h0 h9
  simp[cOf,Tg.put,sigD,z3Z,dv])]
 simp[L]
structure Slant(m w:Nat)(T:Nat→List Int)(D:Nat→Int):Prop where
 m6:m≤6
 w5:w≤50000
 len:∀ i,i<m→(T i).length=m
 low:∀ i,i<m→∀ j,j<i→St.at0 (T i) j=0
 d0:D 0=1
 dS:∀ k,k<m→D (k+1)=D k*St.at0 (T k) k
 pos:∀ k,k≤m→0<D k
 lt:∀ k,k≤m→D k<2 ^ 9000
 bT:∀ i,i<m→St.Lt (2 ^ w) (T i)
def Zr(T:Nat→List Int)(D:Nat→Int)(k i:Nat):List Int:=sclR (D (min i k)) (T i)
def Zx(T:Nat→List Int)(D:Nat→Int)(k j i:Nat):List Int:=if i<j then Zr T D (k+1) i else Zr T D k i
section
variable {m w:Nat}{T:Nat→List Int}{D:Nat→Int}
theorem Slant.nat(s:Slant m w T D){k:Nat}(h:k≤m):(D k).natAbs<2 ^ 9000:=by
 have:=s.pos k h
 have:=s.lt k h
 have c:((2 ^ 9000:Nat):Int)=(2:Int) ^ 9000:=by norm_cast
 omega
theorem Slant.zr_lt(s:Slant m w T D){k i:Nat}(hk:k≤m)(hi:i<m)(j:Nat):(St.at0 (Zr T D k i) j).natAbs<2 ^ (9000+w):=by
 unfold Zr
 rw[z5V,Int.natAbs_mul,Nat.pow_add]
 exact Nat.mul_lt_mul'' (s.nat (by omega)) (s.bT i hi j)
theorem Slant.zr_len(s:Slant m w T D){k i:Nat}(hi:i<m):(Zr T D k i).length=m:=by unfold Zr;rw[z1l,s.len i hi]
theorem Slant.at_k(s:Slant m w T D){k:Nat}(hk:k<m):St.at0 (Zr T D k k) k=D (k+1):=by
 unfold Zr;rw[z5V,Nat.min_self,s.dS k hk]
abbrev ZI:FS:=(sSeq (z5F 1 7 (fN 6)) (sSeq (sSet [] 8 ZC) (sPut 1 (fN 6) ZD)))
theorem zm4(s:Slant m w T D){k j:Nat}(hkj:k<j)(hj:j<m)(d0:Dt)(f4:Bool)(c6 c7 c8:Cell):
  ∃ c7' c8',(Tg.put (Tg.one 6) (.int j) [.sh false d0,.ow true (mkL m (Zx T D k j)),.sh true (.int (D k)),.sh false (.int k),.sh f4 (.int k),.sh true (L (Zr T D k k)),c6,c7,c8]).bind ZI=some (.nx [.sh false d0,.ow true (mkL m (Zx T D k (j+1))),.sh true (.int (D k)),.sh false (.int k),.sh f4 (.int k),.sh true (L (Zr T D k k)),.sh false (.int j),c7',c8']):=by
 have m6:=s.m6
 have w5:=s.w5
 have a1:=zj5 (Zx T D k j) hj
 have e1:Zx T D k j j=Zr T D k j:=by unfold Zx;rw[if_neg (by omega)]
 rw[e1]at a1
 have l1:=s.zr_len (k:=k) hj
 have l2:=s.zr_len (k:=k) (show k<m by omega)
 have ak:=s.at_k (show k<m by omega)
 have pk:=s.pos k (by omega)
 have zk:St.at0 (Zr T D k j) k=0:=by unfold Zr;rw[z5V,s.low j hj k hkj,Int.mul_zero]
 have o1:∀ i,z12 (St.at0 (Zr T D k j) i) (St.at0 (Zr T D k k) k)=true:=fun i=>z1g (s.zr_lt (by omega) hj i) (s.zr_lt (by omega) (by omega) k) (by omega)
 have o2:∀ i,z12 0 (St.at0 (Zr T D k k) i)=true:=fun i=>z1g (m:=0) (by decide) (s.zr_lt (show k≤m by omega) (show k<m by omega) i) (by omega)
 have zc:=fun c8=>z_comp l1 l2 (show k<m by omega) (by omega) o1 o2 zk (.sh false d0) .no (.sh true (.int (D k))) (.sh f4 (.int k)) (.sh false (.int j)) c8 false true true
 rw[ak]at zc
 have zd:=z_div (xs:=sclR (D (k+1)) (Zr T D k j)) pk (s.lt k (by omega)) (.sh false d0) .no (.sh false (.int k)) (.sh f4 (.int k)) (.sh true (L (Zr T D k k))) (.sh false (.int j)) (.sh true (L (Zr T D k j))) true true
 have ed:(sclR (D (k+1)) (Zr T D k j)).map (fun x=>x.fdiv (D k))=Zr T D (k+1) j:=by
  unfold Zr sclR
  rw[List.map_map,List.map_map]
  refine List.map_congr_left fun x _=>?_
  show(D (k+1)*(D (min j k)*x)).fdiv (D k)=D (min j (k+1))*x
  rw[Nat.min_eq_right (by omega),Nat.min_eq_right (by omega),Int.mul_left_comm]
  rw[Int.mul_comm (D k)]
  exact Int.mul_fdiv_cancel _ (by omega)
 rw[ed]at zd
 have st:(mkL m (Zx T D k j)).set j (L (Zr T D (k+1) j))=mkL m (Zx T D k (j+1)):=zgo (fun i _ hne=>by
  unfold Zx
  by_cases h:i<j
  · rw[if_pos h,if_pos (by omega)]
  · rw[if_neg h,if_neg (by omega)]) (by unfold Zx;rw[if_pos (by omega)])
 have ml:=z63 m (Zx T D k j)
 refine⟨.sh true (L (Zr T D k j)),.sh true (L (sclR (D (k+1)) (Zr T D k j))),?_⟩
 show ZI [.sh false d0,.ow true (mkL m (Zx T D k j)),.sh true (.int (D k)),.sh false (.int k),.sh f4 (.int k),.sh true (L (Zr T D k k)),.sh false (.int j),c7,c8]=_
 rw[←st]
 generalize mkL m (Zx T D k j)=E at *
 generalize Zr T D k j=rj at *
 generalize Zr T D (k+1) j=rn at *
 generalize Zr T D k k=kp at *
 have ix:ixN E.length (j:Int)=some j:=zgj (by omega)
 generalize sclR (D (k+1)) rj=so at *
 generalize D k=dk at *
 have st1:z5F 1 7 (fN 6) [.sh false d0,.ow true E,.sh true (.int dk),.sh false (.int k),.sh f4 (.int k),.sh true (L kp),.sh false (.int j),c7,c8]=some (.nx [.sh false d0,.ow true E,.sh true (.int dk),.sh false (.int k),.sh f4 (.int k),.sh true (L kp),.sh false (.int j),.sh true (L rj),c8]):=by
  unfold z5F z6h z35
  simp[cOf,a1]
 have st2:sSet [] 8 ZC [.sh false d0,.ow true E,.sh true (.int dk),.sh false (.int k),.sh f4 (.int k),.sh true (L kp),.sh false (.int j),.sh true (L rj),c8]=some (.nx [.sh false d0,.ow true E,.sh true (.int dk),.sh false (.int k),.sh f4 (.int k),.sh true (L kp),.sh false (.int j),.sh true (L rj),.sh true (L so)]):=by
  have zc:=zc (z32 c8)
  unfold sSet
  generalize ZC=Z at *
  simp[cOf,zc]
 have st3:sPut 1 (fN 6) ZD [.sh false d0,.ow true E,.sh true (.int dk),.sh false (.int k),.sh f4 (.int k),.sh true (L kp),.sh false (.int j),.sh true (L rj),.sh true (L so)]=some (.nx [.sh false d0,.ow true (E.set j (L rn)),.sh true (.int dk),.sh false (.int k),.sh f4 (.int k),.sh true (L kp),.sh false (.int j),.sh true (L rj),.sh true (L so)]):=by
  generalize ZD=Z at *
  simp[cOf,zd,ix]
 exact run st1 (run st2 st3)
end
section
variable {m w:Nat}{T:Nat→List Int}{D:Nat→Int}
abbrev ZW:FS:=(z24 (fAnd (z0j (fOp opLt (fN 4) (fBlt bLen (z02 (fN 1) fNil)))) (z0j (fOp opEq (fAt (fAt (fN 1) (fN 4)) (fN 3)) (fC (.int 0))))) (sSet [] 4 (fOp z0z (fN 4) (fC (.int 1)))))
abbrev ZR:FI:=z7r (fOp z0z (fN 3) (fC (.int 1))) (fBlt bLen (z02 (fN 1) fNil))
abbrev ZO:FS:=(sSeq (sSet [] 4 (fN 3)) (sSeq ZW (sSeq (sIf (z0j (fOp opEq (fN 4) (fBlt bLen (z02 (fN 1) fNil)))) (sRet (fC (.int 0))) z0M) (sSeq (z5F 1 5 (fN 4)) (sSeq (zg7 1 (fN 4) (fN 3)) (sSeq (sPut 1 (fN 3) (fN 5)) (sSeq (z9v ZR (Tg.one 6) ZI) (sSet [] 2 (fAt (fN 5) (fN 3))))))))))
theorem zm5{k:Nat}{E:List Dt}{kp:List Int}(hk:k<E.length)(hp:k<kp.length)(a:atI E (k:Int)=some (L kp))(ne:St.at0 kp k≠0)(c0 c2 c5 c6 c7 c8:Cell)(f3 f4:Bool):
  ZW [c0,.ow true E,c2,.sh f3 (.int k),.sh f4 (.int k),c5,c6,c7,c8]=some (.nx [c0,.ow true E,c2,.sh f3 (.int k),.sh f4 (.int k),c5,c6,c7,c8]):=by
 refine z3l (n:=1) ?_
 rw[z16]
 have a2:=zgn hp
 have c1:(k:Int)<E.length:=by omega
 simp[cOf,a,a2,c1,ne,z0N]
theorem z7B{k:Nat}{E:List Dt}(hE:E.length≤1000)(hk:k≤1000)(c0 c2 c4 c5 c6 c7 c8:Cell):ZR [c0,.ow true E,c2,.sh false (.int k),c4,c5,c6,c7,c8]=some (z1T ((k+1:Nat):Int) (E.length-(k+1))):=by
 have ok1:z20 ((k:Int)+1)=true:=by have:=z84 (n:=k+1) (by omega);rwa [show((k+1:Nat):Int)=(k:Int)+1 by omega]at this
 have ok2:z20 (E.length:Int)=true:=z84 (by omega)
 have rg:((E.length:Int)-((k:Int)+1)).toNat=E.length-(k+1):=by omega
 have h1:fOp z0z (fN 3) (fC (.int 1)) [c0,.ow true E,c2,.sh false (.int k),c4,c5,c6,c7,c8]=some (.nw,.int ((k:Int)+1)):=by simp[cOf]
 have h2:fBlt bLen (z02 (fN 1) fNil) [c0,.ow true E,c2,.sh false (.int k),c4,c5,c6,c7,c8]=some (.nw,.int (E.length:Int)):=by simp[cOf]
 rw[show((k+1:Nat):Int)=(k:Int)+1 by omega]
 unfold ZR z7r
 rw[h1,z0x,h2,z0x]
 have i1:intD ((Fl.nw,Dt.int ((k:Int)+1)):Dv).2=some ((k:Int)+1):=rfl
 have i2:intD ((Fl.nw,Dt.int (E.length:Int)):Dv).2=some (E.length:Int):=rfl
 rw[i1,z0x,i2,z0x,ok1,ok2,rg]
 rfl
theorem zaW(s:Slant m w T D){k:Nat}(hk:k<m)(d0:Dt)(f4:Bool)(c6 c7 c8:Cell):
  ∃ c6' c7' c8',forF (Tg.one 6) ZI (z1T ((k+1:Nat):Int) (m-(k+1))) [.sh false d0,.ow true (mkL m (Zr T D k)),.sh true (.int (D k)),.sh false (.int k),.sh f4 (.int k),.sh true (L (Zr T D k k)),c6,c7,c8]=some (.nx [.sh false d0,.ow true (mkL m (Zr T D (k+1))),.sh true (.int (D k)),.sh false (.int k),.sh f4 (.int k),.sh true (L (Zr T D k k)),c6',c7',c8']):=by
 have e1:mkL m (Zx T D k (k+1))=mkL m (Zr T D k):=z9V fun i hi=>by
  unfold Zx
  by_cases h:i<k+1
  · rw[if_pos h];unfold Zr;rw[Nat.min_eq_left (by omega),Nat.min_eq_left (by omega)]
  · rw[if_neg h]
 have e2:mkL m (Zx T D k (k+1+(m-(k+1))))=mkL m (Zr T D (k+1)):=z9V fun i hi=>by
  unfold Zx
  rw[if_pos (by omega)]
 obtain⟨j,q⟩:=z49 (g:=Tg.one 6) (F:=ZI) (fun j (c:Cell×Cell×Cell)=>[.sh false d0,.ow true (mkL m (Zx T D k j)),.sh true (.int (D k)),.sh false (.int k),.sh f4 (.int k),.sh true (L (Zr T D k k)),c.1,c.2.1,c.2.2]) (m-(k+1)) (k+1) (c6,c7,c8) fun j c h1 h2=>by
  obtain⟨c7',c8',q⟩:=zm4 s (show k<j by omega) (show j<m by omega) d0 f4 c.1 c.2.1 c.2.2
  exact⟨(.sh false (.int j),c7',c8'),q⟩
 refine⟨j.1,j.2.1,j.2.2,?_⟩
 rw[e1,e2]at q
 have er:z1T ((k+1:Nat):Int) (m-(k+1))=(List.range (m-(k+1))).map fun(i:Nat) => .int (((k+1+i:Nat):Int)):=by
  rw[z1j]
  refine List.map_congr_left fun i _=>?_
  rw[Int.natCast_add (k+1) i]
 rw[er]
 exact q
theorem zm6(s:Slant m w T D){k:Nat}(hk:k<m)(d0:Dt)(c3 c4 c5 c6 c7 c8:Cell):
  ∃ c3' c4' c5' c6' c7' c8',(Tg.put (Tg.one 3) (.int k) [.sh false d0,.ow true (mkL m (Zr T D k)),.sh true (.int (D k)),c3,c4,c5,c6,c7,c8]).bind ZO=some (.nx [.sh false d0,.ow true (mkL m (Zr T D (k+1))),.sh true (.int (D (k+1))),c3',c4',c5',c6',c7',c8']):=by
 have m6:=s.m6
 obtain⟨c6',c7',c8',lp⟩:=zaW s hk d0 true c6 c7 c8
 have a1:=zj5 (Zr T D k) hk
 have st:(mkL m (Zr T D k)).set k (L (Zr T D k k))=mkL m (Zr T D k):=zgo (fun _ _ _=>rfl) rfl
 have l2:=s.zr_len (k:=k) hk
 have ak:=s.at_k hk
 have pk:=s.pos (k+1) (by omega)
 have ml:=z63 m (Zr T D k)
 have ne:St.at0 (Zr T D k k) k≠0:=by rw[ak];omega
 have av:=z1H (r:=Zr T D k k) (k:=k) (by omega)
 rw[ak]at av
 refine⟨.sh false (.int k),.sh true (.int k),.sh true (L (Zr T D k k)),c6',c7',c8',?_⟩
 show ZO [.sh false d0,.ow true (mkL m (Zr T D k)),.sh true (.int (D k)),.sh false (.int k),c4,c5,c6,c7,c8]=_
 generalize mkL m (Zr T D k)=E at *
 generalize mkL m (Zr T D (k+1))=E2 at *
 generalize Zr T D k k=kp at *
 generalize D k=dk at *
 generalize D (k+1)=dn at *
 have ix:ixN E.length (k:Int)=some k:=zgj (by omega)
 have zr:=z7B (k:=k) (E:=E) (by omega) (by omega) (.sh false d0) (.sh true (.int dk)) (.sh true (.int k)) (.sh true (L kp)) c6 c7 c8
 rw[ml]at zr
 refine run (ρ':=[.sh false d0,.ow true E,.sh true (.int dk),.sh false (.int k),.sh true (.int k),c5,c6,c7,c8]) (by simp[cOf]) ?_
 refine run (zm5 (by omega) (by omega) a1 ne _ _ _ _ _ _ _ _) ?_
 have nk:¬(k:Int)=E.length:=by omega
 refine run (ρ':=[.sh false d0,.ow true E,.sh true (.int dk),.sh false (.int k),.sh true (.int k),c5,c6,c7,c8]) (by simp[cOf,nk,z0N]) ?_
 refine run (ρ':=[.sh false d0,.ow true E,.sh true (.int dk),.sh false (.int k),.sh true (.int k),.sh true (L kp),c6,c7,c8]) (by unfold z5F z6h z35;simp[cOf,a1]) ?_
 refine run (ρ':=[.sh false d0,.ow true E,.sh true (.int dk),.sh false (.int k),.sh true (.int k),.sh true (L kp),c6,c7,c8]) (by unfold zg7 z6h z35;simp[cOf,a1,ix,st,setD]) ?_
 refine run (ρ':=[.sh false d0,.ow true E,.sh true (.int dk),.sh false (.int k),.sh true (.int k),.sh true (L kp),c6,c7,c8]) (by simp[cOf,ix,st]) ?_
 refine run (ρ':=[.sh false d0,.ow true E2,.sh true (.int dk),.sh false (.int k),.sh true (.int k),.sh true (L kp),c6',c7',c8']) (by rw[ziq,zr,z0x];exact lp) ?_
 simp[cOf,av]
theorem zho(s:Slant m w T D):z4r [LL ((List.range m).map T)]=some (.int (D m)):=by
 have m6:=s.m6
 obtain⟨j,q⟩:=zd1 (g:=Tg.one 3) (F:=ZO) (fun k (c:Cell×Cell×Cell×Cell×Cell×Cell)=>[.sh false (LL ((List.range m).map T)),.ow true (mkL m (Zr T D k)),.sh true (.int (D k)),c.1,c.2.1,c.2.2.1,c.2.2.2.1,c.2.2.2.2.1,c.2.2.2.2.2]) m (.no,.no,.no,.no,.no,.no) fun k c h=>by
  obtain⟨c3',c4',c5',c6',c7',c8',q⟩:=zm6 s h (LL ((List.range m).map T)) c.1 c.2.1 c.2.2.1 c.2.2.2.1 c.2.2.2.2.1 c.2.2.2.2.2
  exact⟨(c3',c4',c5',c6',c7',c8'),q⟩
 have e0:mkL m (Zr T D 0)=((List.range m).map T).map L:=by
  rw[List.map_map]
  refine List.map_congr_left fun i _=>?_
  show L (Zr T D 0 i)=L (T i)
  unfold Zr sclR
  rw[Nat.min_eq_right (by omega),s.d0]
  simp
 rw[e0,s.d0]at q
 have ml:(((List.range m).map T).map L).length=m:=by simp
 have pm:=s.pos m (Nat.le_refl _)
 generalize (List.range m).map T=R at *
 have cp:=zj0 R [.sh false (LL R),.no,.no,.no,.no,.no,.no,.no,.no] (fN 0) .sh (by simp[cOf])
 unfold z4r z8s
 have e:(sSeq (sOwn 1 (z0k 1 [] (iSeq (fN 0)) (Tg.one 0) fYes (fBlt bLst (z02 (fN 0) fNil)))) (sSeq (sSet [] 2 (fC (.int 1))) (sSeq (z9v (z0s (fBlt bLen (z02 (fN 1) fNil))) (Tg.one 3) ZO) (sRet (fBlt bAbs (z02 (fN 2) fNil)))))) [.sh false (LL R),.no,.no,.no,.no,.no,.no,.no,.no]=some (.rt .nw (.int (D m))):=by
  refine run (ρ':=[.sh false (LL R),.ow true (R.map L),.no,.no,.no,.no,.no,.no,.no]) (by simp[cOf,cp]) ?_
  refine run (ρ':=[.sh false (LL R),.ow true (R.map L),.sh true (.int 1),.no,.no,.no,.no,.no,.no]) (by simp[cOf]) ?_
  have it:z0s (fBlt bLen (z02 (fN 1) fNil)) [.sh false (LL R),.ow true (R.map L),.sh true (.int 1),.no,.no,.no,.no,.no,.no]=some (z1T 0 m):=by
   have ok2:z20 (m:Int)=true:=z84 (by omega)
   have ml:R.length=m:=by rw[←ml];simp
   simp[cOf,ml,ok2]
  refine run (by rw[ziq,it,z0x];exact q) ?_
  generalize D m=d at *
  have ab:bAbs [.int d]=some (.nw,.int d):=by
   unfold bAbs
   simp only[]
   rw[if_neg (by omega)]
  simp[cOf,ab]
 have r0:rho0 9 [LL R]=[.sh false (LL R),.no,.no,.no,.no,.no,.no,.no,.no]:=rfl
 unfold cOf
 simp only[r0]
 first
 | rw[e];rfl
 | simp[e]
end
theorem zhp{ds:List Nat}:∀{k:Nat},k<ds.length→Lat.prod (ds.take (k+1))=Lat.prod (ds.take k)*ds.getD k 0:=by
 induction ds with
 | nil=>intro k h;exact absurd h (by simp)
 | cons d ds ih =>
  intro k h
  cases k with
  | zero=>show d*1=1*d;omega
  | succ k =>
   have:=ih (k:=k) (by simpa using h)
   show d*Lat.prod (ds.take (k+1))=d*Lat.prod (ds.take k)*ds.getD k 0
   rw[this,Nat.mul_assoc]
theorem z2y:∀{ds:List Nat} (k:Nat),(∀ d∈ds,0<d)→0<Lat.prod (ds.take k)∧Lat.prod (ds.take k)≤Lat.prod ds
 | [],k,_=>by rw[List.take_nil];exact⟨by show 0<1;decide,Nat.le_refl _⟩
 | d::ds,0,h=>by
  have:=(z2y (ds:=ds) 0 fun x hx=>h x (List.mem_cons_of_mem _ hx))
  refine⟨by show 0<1;decide,?_⟩
  show 1≤d*Lat.prod ds
  have h0:=h d List.mem_cons_self
  exact Nat.mul_pos h0 (Nat.lt_of_lt_of_le this.1 this.2)
 | d::ds,k+1,h=>by
  have i:=(z2y (ds:=ds) k fun x hx=>h x (List.mem_cons_of_mem _ hx))
  exact⟨Nat.mul_pos (h d List.mem_cons_self) i.1,Nat.mul_le_mul_left _ i.2⟩
theorem zj6{n s e:Nat}{X A Y B:List (List Int)}{ds:List Nat}(q:Side n s X A)(p:Side n e Y B)(r:St.Rel A B ds):(Lat.prod ds:Int)<2 ^ 6001:=by
 have pp:=z62 r
 have p0:=z6C p.asc
 have lt:=q.prod_lt
 have r0:=St.z5S r
 have:(Lat.prod ds:Int)*1≤(Lat.prod ds:Int)*z1y (B.map St.hd):=Int.mul_le_mul_of_nonneg_left (by omega) (by omega)
 omega
theorem lt69{x:Int}(h:x<2 ^ 6001):x<2 ^ 9000:=Int.lt_of_lt_of_le h (by
 have:(2 ^ 6001:Nat)≤2 ^ 9000:=Nat.pow_le_pow_right (by decide) (by decide)
 have c1:((2 ^ 6001:Nat):Int)=(2:Int) ^ 6001:=by norm_cast
 have c2:((2 ^ 9000:Nat):Int)=(2:Int) ^ 9000:=by norm_cast
 omega)
theorem nat69{x:Int}(h0:0≤x)(h:x<2 ^ 6001):x.natAbs<2 ^ 6001:=by
 have c1:((2 ^ 6001:Nat):Int)=(2:Int) ^ 6001:=by norm_cast
 omega
theorem zj7{n s e:Nat}{X A Y B:List (List Int)}{ds:List Nat}(q:Side n s X A)(p:Side n e Y B)(r:St.Rel A B ds):Slant A.length (s+20*(e+1)) (fun i=>St.z0B (A.getD i []) B) (fun k=>(Lat.prod (ds.take k):Int)):=by
 obtain⟨l1,l2⟩:=St.zaI r
 have cr:=St.z8g q.asc p.asc r
 have ds0:=St.ziJ r
 have rl:=zj6 q p r
 have mem:∀ i,i<A.length→A.getD i []∈A:=fun i hi=>by rw[List.getD,List.getElem?_eq_getElem hi];exact List.getElem_mem hi
 have s2:=q.s2
 have e2:=p.s2
 refine⟨q.len,by omega,fun i hi=>by show(St.z0B _ B).length=_;rw[St.z87,l1],fun i hi j hj=>(cr i hi).1 j hj,rfl,fun k hk=>?_,fun k _=>?_,fun k _=>lt69 ?_,fun i hi k=>?_⟩
 · show((Lat.prod (ds.take (k+1)):Nat):Int)=(Lat.prod (ds.take k):Int)*St.at0 (St.z0B (A.getD k []) B) k
   rw[(cr k hk).2,zhp (by omega),Int.natCast_mul]
 · have:=(z2y k ds0).1
   show(0:Int)<(Lat.prod (ds.take k):Int)
   omega
 · have:=(z2y k ds0).2
   show(Lat.prod (ds.take k):Int)<_
   omega
 · obtain⟨_,l2,_⟩:=zde (e:=e) p.asc p.bS (by omega) (q.asc.mem (mem i hi)).1 (q.bS _ (mem i hi)) (by have:=p.len;omega) (by omega)
   have cs:=St.z6Y l2
   show(St.at0 (St.z0B (A.getD i []) B) k).natAbs<_
   generalize St.z0B (A.getD i []) B=zs at *
   by_cases hk:k<zs.length
   · refine cs _ ?_
     unfold St.at0
     rw[List.getD,List.getElem?_eq_getElem hk]
     exact List.getElem_mem hk
   · rw[St.z0O (by omega)];exact Nat.two_pow_pos _
theorem zj8{n s e:Nat}{X A Y B:List (List Int)}{ds:List Nat}(q:Side n s X A)(p:Side n e Y B)(r:St.Rel A B ds):z4r [LL (A.map fun a=>St.z0B a B)]=some (.int (Lat.prod ds)):=by
 have z:=zho (zj7 q p r)
 have e1:(List.range A.length).map (fun i=>St.z0B (A.getD i []) B)=A.map fun a=>St.z0B a B:=by
  refine List.ext_getElem (by simp) fun i h1 h2=>?_
  have h2:i<A.length:=by simpa using h2
  simp[List.getD,List.getElem?_eq_getElem h2]
 have e2:ds.take A.length=ds:=List.take_of_length_le (by rw[(St.zaI r).2];omega)
 rw[e1]at z
 rw[z,e2]
theorem z2z{n s e:Nat}{X A Y B:List (List Int)}{ds:List Nat}(q:Side n s X A)(p:Side n e Y B)(h:∀ x∈X,Lat.Span (St.vecs B) (St.vec x))(hr:A.length=B.length→St.Rel A B ds)(hle:A.length≤B.length):z0Z [z0w n X,z0w n Y]=some (if A.length<B.length then .non else .int (Lat.prod ds)):=by
 have w:=z8z q p h
 have ii:=zaV q p h hr hle
 have e1:=q.es
 have e2:=p.es
 have nb:zaC (.bl true) (.bl true)=some (.nw,.bl false):=rfl
 have n1:z9n .non .non=some (.nw,.bl true):=rfl
 have n2:bInt [.bl true]=some (.nw,.int 1):=rfl
 have n3:∀ i,z7O (.int i) .non=some (.nw,.bl true):=fun _=>rfl
 have n4:z7O .non .non=some (.nw,.bl false):=rfl
 have n5:∀ i,z9n (.int i) .non=some (.nw,.bl false):=fun _=>rfl
 have n6:∀ i,opNe (.int i) (.int i)=some (.nw,.bl false):=fun i=>by rw[z1z];simp
 have n7:atI [Dt.int 0,Dt.non] 1=some .non:=rfl
 unfold z0Z z4s
 by_cases hl:A.length<B.length
 · rw[if_pos hl]at ii
   have hi:(A.length:Int)<B.length:=by omega
   simp[cOf,w,nb,n1,n2,n3,n4,n5,n6,n7,ii,e1,e2,hl]
 · have r:=hr (by omega)
   rw[if_neg hl]at ii
   have h1:=z61 q
   have h2:=z61 p
   have pp:=z62 r
   have p0:=z6C p.asc
   have lB:=p.prod_lt
   have lP:=zj6 q p r
   have sz:=zj8 q p r
   have tm:z0k 1 [4] (iSeq (fN 3)) (Tg.one 0) fYes (z09 true z3o (z02 (fN 1) (z02 (fN 0) fNil))) [.sh false (z0w n X),.sh false (z0w n Y),.sh true (.int (Lat.prod ds)),.sh true (LL A),.sh true (LL B),.no,.no]=some (.nw,LL (A.map fun a=>St.z0B a B)):=by
     rw[z0u (e:=L) (h:=fun a=>L (St.z0B a B)) (xs:=A) (by simp[cOf]) (fun a ha=>by
      have t:=zdg p (q.asc.mem ha).1 (q.bS a ha) q.s2
      simp[cOf,t])]
     simp[LL]
   have mo:z12 (z1y (B.map St.hd)) (Lat.prod ds:Int)=true:=z1g (nat69 (by omega) lB) (nat69 (by omega) lP) (by decide)
   have wh:=zdc (.int (Lat.prod ds))
   have pc:z1y (A.map St.hd)=z1y (B.map St.hd)*(Lat.prod ds:Int):=by rw[pp,Int.mul_comm]
   rw[pc,show A.length=B.length by omega]at h1
   rw[if_neg hl]
   generalize (Lat.prod ds:Int)=P at *
   generalize A.map (fun a=>St.z0B a B)=R at *
   generalize z1y (B.map St.hd)=b at *
   have nl:¬(A.length:Int)<B.length:=by omega
   by_cases hn:B.length<n
   · rw[if_pos hn]at h1 h2
     simp[cOf,w,nb,n1,n2,n3,n4,n5,n6,n7,ii,e1,e2,hl,tm,sz,wh,isWh,h1,h2]
   · rw[if_neg hn]at h1 h2
     simp[cOf,w,nb,n1,n2,n3,n4,n5,n6,n7,ii,e1,e2,hl,tm,sz,wh,isWh,h1,h2,mo]
theorem zgp{n s e s' e':Nat}{Xm M Xo SO Xt ST Xj J:List (List Int)}(q:St.Mj n M SO ST J)(sm:Side n s Xm M)(so:Side n e Xo SO)(st:Side n s' Xt ST)(sj:Side n e' Xj J):
   ∃ d,(d = .non∨∃ k:Nat,0<k∧d = .int k)∧z0Z [z0w n Xm,z0w n Xo]=some d∧z0Z [z0w n Xt,z0w n Xj]=some d:=by
 have h1:∀ x∈Xm,Lat.Span (St.vecs SO) (St.vec x):=fun x hx=>((q.met _).mp ((sm.span.iff).mpr (St.z0F hx))).1
 have h2:∀ x∈Xt,Lat.Span (St.vecs J) (St.vec x):=fun x hx=>q.inT ((st.span.iff).mpr (St.z0F hx))
 have g1:∀ a∈M,Lat.Span (St.vecs SO) (St.vec a):=fun a ha=>((q.met _).mp (St.z0F ha)).1
 have g2:∀ a∈ST,Lat.Span (St.vecs J) (St.vec a):=fun a ha=>q.inT (St.z0F ha)
 have l1:=St.z2t q.aM q.aO g1
 have l2:=St.z2t q.aT q.aJ g2
 by_cases z:M.length<SO.length
 · have z2:=q.len.mp z
   have i1:=z2z (ds:=[]) sm so h1 (fun h=>by omega) l1
   have i2:=z2z (ds:=[]) st sj h2 (fun h=>by omega) l2
   rw[if_pos z]at i1
   rw[if_pos z2]at i2
   exact⟨_,.inl rfl,i1,i2⟩
 · have z2:¬ST.length<J.length:=fun h=>z (q.len.mpr h)
   obtain⟨ds,r1⟩:=St.z8d q.aM q.aO g1 (by omega)
   obtain⟨es,r2⟩:=St.z8d q.aT q.aJ g2 (by omega)
   have i1:=z2z sm so h1 (fun _=>r1) l1
   have i2:=z2z st sj h2 (fun _=>r2) l2
   rw[if_neg z]at i1
   rw[if_neg z2]at i2
   rw[←q.prod r1 r2]at i2
   exact⟨_,.inr ⟨_,St.z5S r1,rfl⟩,i1,i2⟩
theorem z71(R:List (List Int)):z2X [LL R]=some (LL R):=by
 have cp:=zj0 R [.sh false (LL R)] (fN 0) .sh (by simp[cOf])
 unfold z2X z5k
 simp[cOf,cp]
theorem z9W{d:Dt}(h:d = .non∨∃ k:Nat,0<k∧d = .int k):opEq d (.int 0)=some (.nw,.bl false)∧opNe d (.int 0)=some (.nw,.bl true)∧opEq d d=some (.nw,.bl true)∧opNe d d=some (.nw,.bl false):=by
 rcases h with rfl|⟨k,k0,rfl⟩
 · exact⟨rfl,rfl,rfl,rfl⟩
 · have:¬(k:Int)=0:=by omega
   simp[z0N,z1z,this];omega
theorem zj9(ns:List Int)(h:ns.length≤63):zbY [.scr ns]=some (.bl true):=by
 obtain⟨n,O,T,e0,HO,HT,lO,lT⟩:=zj1 ns
 obtain⟨SO,sO,GO,l3O⟩:=z8B HO lO
 obtain⟨ST,sT,GT,l3T⟩:=z8B HT lT
 obtain⟨M,em,aM,fM,bM,spM⟩:=met_eq HO.n1 HO.n6 sO.es sT.es sO.asc sT.asc sO.bS sT.bS l3O l3T
 obtain⟨J,ej,GJ,bJ⟩:=zhm HO HT lO lT
 have lM:M.length≤3:=Nat.le_trans (St.z2t aM sO.asc fun a ha=>((spM _).mp (St.z0F ha)).1) l3O
 have lJ:J.length≤6:=by have:=GJ.len;rw[List.length_append]at this;omega
 have sM:=z8C (s:=2000) (j:=3) (e:=6100) HO.n6 aM fM bM lM (by decide) (by decide) (by decide) (by decide) (by decide) (by decide) (by decide)
 have sJ:=z8C (s:=660) (j:=6) (e:=4100) HO.n6 GJ.asc GJ.form bJ lJ (by decide) (by decide) (by decide) (by decide) (by decide) (by decide) (by decide)
 have join:∀ v,Lat.Span (St.vecs J) v↔∃ x y:Lat.Vec,Lat.Span (St.vecs SO) x∧Lat.Span (St.vecs ST) y∧∀ k,v k=x k+y k:=fun v=>by
  rw[GJ.span.iff,St.zhb]
  constructor
  · rintro⟨x,y,a,b,e⟩;exact⟨x,y,GO.span.iff.mpr a,GT.span.iff.mpr b,e⟩
  · rintro⟨x,y,a,b,e⟩;exact⟨x,y,GO.span.iff.mp a,GT.span.iff.mp b,e⟩
 have q1:St.Mj n M SO ST J:=⟨aM,sO.asc,sT.asc,GJ.asc,spM,join⟩
 have q2:St.Mj n M ST SO J:=⟨aM,sT.asc,sO.asc,GJ.asc,fun v=>(spM v).trans ⟨fun h=>⟨h.2,h.1⟩,fun h=>⟨h.2,h.1⟩⟩,fun v=>(join v).trans
  ⟨fun⟨x,y,a,b,e⟩=>⟨y,x,b,a,fun k=>by rw[e k,Int.add_comm]⟩,fun⟨x,y,a,b,e⟩=>⟨y,x,b,a,fun k=>by rw[e k,Int.add_comm]⟩⟩⟩
 obtain⟨d1,f1,i1,i2⟩:=zgp q1 sM sO sT sJ
 obtain⟨d2,f2,i3,i4⟩:=zgp q2 sM sT sO sJ
 obtain⟨a1,a2,a3,a4⟩:=z9W f1
 obtain⟨b1,b2,b3,b4⟩:=z9W f2
 have hO:=HO.made
 have hT:=HT.made
 have cO:=z71 O
 have cT:=z71 T
 unfold zbY ziV
 generalize z0w n O=xo at *
 generalize z0w n T=xt at *
 generalize z0w n M=xm at *
 generalize z0w n J=xj at *
 have sn:∀(f:Fl) (d:Dt),(nrm f d).2=d:=fun _ _=>rfl
 simp[cOf,e0,hO,hT,cO,cT,em,ej,i1,i2,i3,i4,a1,a2,a3,a4,b1,b2,b3,b4,sn]
end
def top(i:Nat):Stmt:=PySem.Challenge.pw_changehall_k24_whole_indexes.main.body.getD i (.Pass ⟨0,0,0,0⟩)
abbrev z5o:Stmt:=top 6
theorem zcc:FnScope ["value"] ["value"] (z06 z5o):=scm
abbrev z64:Stmt:=top 7
theorem zhq:FnScope ["value", "length"] ["value", "length"] (z06 z64):=scm
abbrev z4W:Stmt:=top 8
theorem zdh:FnScope ["length"] ["length"] (z06 z4W):=scm
abbrev z7C:Stmt:=top 9
theorem zja:FnScope ["one", "other"] ["one", "other"] (z06 z7C):=scm
abbrev z7D:Stmt:=top 10
theorem zjb:FnScope ["one", "other"] ["one", "other"] (z06 z7D):=scm
abbrev z65:Stmt:=top 11
theorem zhr:FnScope ["row", "often"] ["row", "often"] (z06 z65):=scm
abbrev z6D:Stmt:=top 12
theorem z5p:FnScope ["row", "spot", "number"] ["row"] (z06 z6D):=scm
abbrev z4t:Stmt:=top 16
theorem zaX:FnScope ["value"] ["value"] (z06 z4t):=scm
abbrev z4X:Stmt:=top 17
theorem zdi:FnScope ["value", "kinds"] ["value", "kinds"] (z06 z4X):=scm
abbrev z3Q:Stmt:=top 18
theorem z94:FnScope ["kinds"] ["kinds"] (z06 z3Q):=scm
abbrev z4u:Stmt:=top 19
theorem zaY:FnScope ["bill", "kinds"] ["bill", "kinds"] (z06 z4u):=scm
abbrev z4Y:Stmt:=top 21
theorem zdj:FnScope ["kinds", "rows"] ["kinds", "rows"] (z06 z4Y):=scm
abbrev z6E:Stmt:=top 20
theorem z8D:FnScope ["kinds", "bills", "bill"] ["kinds", "bills"] (z06 z6E):=scm
abbrev z4v:Stmt:=top 23
theorem z1P:FnScope ["a", "b", "upper", "lower", "often", "left"] ["a", "b"] (z06 z4v):=scm
abbrev z6F:Stmt:=top 24
theorem z3R:FnScope ["numbers", "found", "number"] ["numbers"] (z06 z6F):=scm
abbrev z5q:Stmt:=top 26
theorem z1m:FnScope ["row", "rungs", "left", "counts", "rung", "spot", "often"] ["row", "rungs"] (z06 z5q):=scm
abbrev z6G:Stmt:=top 27
theorem zdk:FnScope ["row", "rungs"] ["row", "rungs"] (z06 z6G):=scm
abbrev z6H:Stmt:=top 28
theorem z2Y:FnScope ["rung", "row", "spot", "found", "upper", "lower"] ["rung", "row"] (z06 z6H):=scm
abbrev z4w:Stmt:=top 29
theorem zaZ:FnScope ["row"] ["row"] (z06 z4w):=scm
abbrev z3S:Stmt:=top 30
theorem z1Q:FnScope ["rungs", "row", "found", "left", "places", "pair"] ["rungs", "row"] (z06 z3S):=scm
abbrev z8E:Stmt:=top 31
theorem z6I:FnScope ["rungs", "found", "rung"] ["rungs"] (z06 z8E):=scm
abbrev z6J:Stmt:=top 32
theorem z3T:FnScope ["rows", "rungs", "row"] ["rows"] (z06 z6J):=scm
abbrev z1X:Stmt:=top 33
theorem z7n:FnScope ["rows", "tags"] ["rows", "tags"] (z06 z1X):=scm
abbrev z1u:Stmt:=top 34
theorem z66:FnScope ["rungs", "width"] ["rungs", "width"] (z06 z1u):=scm
abbrev z1E:Stmt:=top 35
theorem z6K:FnScope ["rungs"] ["rungs"] (z06 z1E):=scm
abbrev zb0:Stmt:=top 36
theorem zjc:FnScope ["hall"] ["hall"] (z06 zb0):=scm
abbrev z4x:Stmt:=top 38
theorem zb1:FnScope ["one", "other"] ["one", "other"] (z06 z4x):=scm
abbrev z8F:Stmt:=top 39
theorem zhs:FnScope ["one", "other"] ["one", "other"] (z06 z8F):=scm
abbrev zgq:Stmt:=top 40
theorem zb2:FnScope ["one", "other", "ours", "theirs", "both"] ["one", "other"] (z06 zgq):=scm
abbrev z67:Stmt:=top 41
theorem z9X:FnScope ["one", "other", "rungs"] ["one", "other"] (z06 z67):=scm
abbrev z5r:Stmt:=top 42
theorem z4y:FnScope ["one", "other", "ours", "theirs"] ["one", "other"] (z06 z5r):=scm
abbrev z5s:Stmt:=top 44
theorem z72:FnScope ["hall", "rungs"] ["hall"] (z06 z5s):=scm
abbrev z4z:Stmt:=top 46
theorem zb3:FnScope ["_law_script", "_law_k"] ["_law_script", "_law_k"] (z06 z4z):=scm
abbrev z6L:Stmt:=top 47
theorem zdl:FnScope ["_law_found"] ["_law_found"] (z06 z6L):=scm
abbrev z5t:Stmt:=top 48
theorem z38:FnScope ["_law_cell", "_law_mode", "_law_number_here", "_law_wide"] ["_law_cell", "_law_mode"] (z06 z5t):=scm
abbrev z7E:Stmt:=top 49
theorem zjd:FnScope ["_law_script", "_law_at", "_law_size_here", "_law_mode"] ["_law_script", "_law_at", "_law_size_here", "_law_mode"] (z06 z7E):=scm
abbrev z68:Stmt:=top 50
theorem z1e:FnScope ["_law_script", "_law_mode", "_law_kinds", "_law_many", "_law_others", "_law_one", "_law_other"] ["_law_script"] (z06 z68):=scm
abbrev z3U:Stmt:=top 51
theorem zcd:FnScope ["_law_rows"] ["_law_rows"] (z06 z3U):=scm
abbrev z8G:Stmt:=top 52
theorem z6M:FnScope ["_law_row_here", "_law_k"] ["_law_row_here"] (z06 z8G):=scm
abbrev z4Z:Stmt:=top 53
theorem z1I:FnScope ["_law_rows", "_law_row_here", "_law_left", "_law_made", "_law_one", "_law_at", "_law_many"] ["_law_rows", "_law_row_here"] (z06 z4Z):=scm
abbrev z3p:Stmt:=top 54
theorem z17:FnScope ["_law_rows", "_law_made", "_law_before", "_law_k", "_law_at", "_law_kept", "_law_j", "_law_row_here", "_law_some"] ["_law_rows"] (z06 z3p):=scm
abbrev z39:Stmt:=top 55
theorem z1v:FnScope ["_law_one", "_law_other", "_law_found", "_law_ours", "_law_theirs", "_law_inner", "_law_outer"] ["_law_one", "_law_other"] (z06 z39):=scm
abbrev zje:Stmt:=top 56
theorem z3f:FnScope ["_law_script", "_law_drawn", "_law_one", "_law_other", "_law_inner", "_law_outer", "_law_left", "_law_right"] ["_law_script"] (z06 zje):=scm
set_option genInjectivity false in
structure Adr where
 z8J:Addr
 z8K:FuncData
 zck:Addr
 zcl:FuncData
 z9Z:Addr
 za:FuncData
 zgr:Addr
 zgs:FuncData
 zgt:Addr
 zgu:FuncData
 zcm:Addr
 zcn:FuncData
 za0:Addr
 za1:FuncData
 z76:Addr
 z77:FuncData
 za2:Addr
 za3:FuncData
 z6a:Addr
 z6b:FuncData
 z78:Addr
 z79:FuncData
 za4:Addr
 za5:FuncData
 za6:Addr
 za7:FuncData
 zco:Addr
 zcp:FuncData
 za8:Addr
 za9:FuncData
 z8L:Addr
 z8M:FuncData
 zaa:Addr
 zab:FuncData
 zac:Addr
 zad:FuncData
 z7a:Addr
 z7b:FuncData
 z8N:Addr
 z8O:FuncData
 zcq:Addr
 zcr:FuncData
 zae:Addr
 zaf:FuncData
 z4A:Addr
 z4B:FuncData
 z3q:Addr
 z3r:FuncData
 z41:Addr
 z42:FuncData
 zgv:Addr
 zgw:FuncData
 z7c:Addr
 z7d:FuncData
 zcs:Addr
 zct:FuncData
 a_met:Addr
 d_met:FuncData
 zcu:Addr
 zcv:FuncData
 z8P:Addr
 z8Q:FuncData
 z8R:Addr
 z8S:FuncData
 z7e:Addr
 z7f:FuncData
 zag:Addr
 zah:FuncData
 z8T:Addr
 z8U:FuncData
 zgx:Addr
 zgy:FuncData
 zgz:Addr
 zgA:FuncData
 z8V:Addr
 z8W:FuncData
 zcw:Addr
 zcx:FuncData
 zai:Addr
 zaj:FuncData
 zcy:Addr
 zcz:FuncData
 z7g:Addr
 z7h:FuncData
 a_law:Addr
 zgB:FuncData
 z2B:Tok
 z2C:Tok
structure Facts(K:PySem.W.Frag)(mg:Str→Option Value)(A:Adr):Prop where
 n_abs:mg "abs" = none
 zld:mg "all" = none
 zle:mg "bool" = none
 z7i:mg "enumerate" = none
 zlf:mg "int" = none
 z1x:mg "isinstance" = none
 z1Y:mg "len" = none
 z3g:mg "list" = none
 z2D:mg "range" = none
 zfR:mg "reversed" = none
 zlg:mg "sorted" = none
 zb7:mg "tuple" = none
 zlh:mg "zip" = none
 zb8:mg "MOST_BILLS" = some (.int 8 A.z2B)
 zb9:mg "MOST_KINDS" = some (.int 6 A.z2C)
 z5w:Df K mg "is_whole" z5o ["value"] A.z8J A.z8K
 zcA:Df K mg "is_row" z64 ["value", "length"] A.zck A.zcl
 z6N:Df K mg "noughts" z4W ["length"] A.z9Z A.za
 zgC:Df K mg "added" z7C ["one", "other"] A.zgr A.zgs
 zba:Df K mg "taken" z7D ["one", "other"] A.zgt A.zgu
 z2Z:Df K mg "scaled" z65 ["row", "often"] A.zcm A.zcn
 z18:Df K mg "head_at" z6D ["row"] A.za0 A.za1
 z7j:Df K mg "are_kinds" z4t ["value"] A.z76 A.z77
 zak:Df K mg "is_bill" z4X ["value", "kinds"] A.za2 A.za3
 z6c:Df K mg "need_kinds" z3Q ["kinds"] A.z6a A.z6b
 z7k:Df K mg "need_bill" z4u ["bill", "kinds"] A.z78 A.z79
 z50:Df K mg "hall_by" z4Y ["kinds", "rows"] A.za4 A.za5
 z6O:Df K mg "hall_of" z6E ["kinds", "bills"] A.za6 A.za7
 zcB:Df K mg "bridge" z4v ["a", "b"] A.zco A.zcp
 zal:Df K mg "product" z6F ["numbers"] A.za8 A.za9
 z8X:Df K mg "lowering" z5q ["row", "rungs"] A.z8L A.z8M
 z3s:Df K mg "lowered" z6G ["row", "rungs"] A.zaa A.zab
 zam:Df K mg "crossed" z6H ["rung", "row"] A.zac A.zad
 z7l:Df K mg "turned_up" z4w ["row"] A.z7a A.z7b
 z8Y:Df K mg "with_row" z3S ["rungs", "row"] A.z8N A.z8O
 zcC:Df K mg "evened" z8E ["rungs"] A.zcq A.zcr
 z51:Df K mg "climbed" z6J ["rows"] A.zae A.zaf
 z4C:Df K mg "tagged_stair" z1X ["rows", "tags"] A.z4A A.z4B
 z3t:Df K mg "tags_at_nought" z1u ["rungs", "width"] A.z3q A.z3r
 z1F:Df K mg "heads_product" z1E ["rungs"] A.z41 A.z42
 z2E:Df K mg "stair" zb0 ["hall"] A.zgv A.zgw
 z3a:Df K mg "need_like" z4x ["one", "other"] A.z7c A.z7d
 zcD:Df K mg "joined" z8F ["one", "other"] A.zcs A.zct
 f_met:Df K mg "met" zgq ["one", "other"] A.a_met A.d_met
 z8Z:Df K mg "within" z67 ["one", "other"] A.zcu A.zcv
 z9:Df K mg "index_in" z5r ["one", "other"] A.z8P A.z8Q
 z5x:Df K mg "how_many" z5s ["hall"] A.z8R A.z8S
 z1n:Df K mg "_law_cell_at" z4z ["_law_script", "_law_k"] A.z7e A.z7f
 zan:Df K mg "_law_whole" z6L ["_law_found"] A.zag A.zah
 z90:Df K mg "_law_number" z5t ["_law_cell", "_law_mode"] A.z8T A.z8U
 zbb:Df K mg "_law_row" z7E ["_law_script", "_law_at", "_law_size_here", "_law_mode"] A.zgx A.zgy
 zgD:Df K mg "_law_two" z68 ["_law_script"] A.zgz A.zgA
 z5y:Df K mg "_law_copied" z3U ["_law_rows"] A.z8V A.z8W
 zcE:Df K mg "_law_head" z8G ["_law_row_here"] A.zcw A.zcx
 zao:Df K mg "_law_times" z4Z ["_law_rows", "_law_row_here"] A.zai A.zaj
 zcF:Df K mg "_law_size" z3p ["_law_rows"] A.zcy A.zcz
 z2m:Df K mg "_law_indexed" z39 ["_law_one", "_law_other"] A.z7g A.z7h
 f_law:Df K mg "law" zje ["_law_script"] A.a_law A.zgB
section
variable {K:PySem.W.Frag}{mg:Str→Option Value}{P:Program}{w:World}{base:Heap}{A:Adr}
theorem z73(T:Facts K mg A):FnOk P w K mg base CX0 1 A.z8J A.z8K ["value"] (spc K true z27) :=
 Fun.dat (k:=0) (F:=z5g) T.z5w.fn zcc rfl rfl (fun cdv A outer s H E hr=>have hu:=hr.units
  (z0a (z0m (z9m (z9p (T := "int") rfl rfl T.z1x rfl T.zlf (by decide +kernel) (z01 0)) (zbq (p_not (z9p (T := "bool") rfl rfl T.z1x rfl T.zle (by decide +kernel) (z01 0))))))))
theorem zht(T:Facts K mg A):FnOk P w K mg base CX0 2 A.zck A.zcl ["value", "length"] (spc K true z5W) :=
 Fun.dat (k:=1) (F:=z8k) T.zcA.fn zhq rfl rfl (fun cdv A outer s H E hr=>have hu:=hr.units
  (z05 (s_if (PFW.pt (w_or (z9l (z9k (z9p (T := "list") rfl rfl T.z1x rfl T.z3g (by decide +kernel) (z01 0)) (fun _=>rfl))) (zbp (z0I (o_ne hu) (z0A z1S rfl T.z1Y (by decide +kernel) (z03 (z01 0) z07)) (z01 1) (z0o _))))) (z0a (z0m p_bl)) z0K)
   (z0a (z0m (z0A (zi4 rfl) rfl T.zld (by decide +kernel) (z03 (z1h (g:=(Tg.one 0)) (z0h (N:=["number"]) (nt:=1) (js:=[]) ["value", "length"] (z06 z64).names rfl rfl rfl (by decide +kernel)) rfl (z1Z (z01 0)) (fun _ _ _ _ _=>z13 (ndp ["number"]) rfl (Or.inl rfl) (Or.inr rfl)) (show 0<1 by decide) (fun _ _ _ _ _=>z0Q) (fun _ _ _ _ _=>(z0c (z73 T) T.z5w hr rfl (z03 (z01 0) z07))) (jlt [] 2)) z07))))))
theorem z8H(T:Facts K mg A):FnOk P w K mg base CX0 1 A.z9Z A.za ["length"] (spc K true z28) :=
 Fun.dat (k:=0) (F:=z6q) T.z6N.fn zdh rfl rfl (fun cdv A outer s H E hr=>have hu:=hr.units
  (z0a (z0m (z1h (g:=(Tg.one 0)) (z0h (N:=["spot"]) (nt:=1) (js:=[]) ["length"] (z06 z4W).names rfl rfl rfl (by decide +kernel)) rfl (z2P rfl T.z2D (z01 0)) (fun _ _ _ _ _=>z13 (ndp ["spot"]) rfl (Or.inl rfl) (Or.inr rfl)) (show 0<1 by decide) (fun _ _ _ _ _=>z0Q) (fun _ _ _ _ _=>z0b) (jlt [] 1)))))
theorem zjf(T:Facts K mg A):FnOk P w K mg base CX0 1 A.zgr A.zgs ["one", "other"] (spc K true z7y) :=
 Fun.dat (k:=0) (F:=zaN) T.zgC.fn zja rfl rfl (fun cdv A outer s H E hr=>have hu:=hr.units
  (z0a (z0m (z1h (g:=(Tg.many [0,1])) (z0h (N:=["a", "b"]) (nt:=2) (js:=[]) ["one", "other"] (z06 z7C).names rfl rfl rfl (by decide +kernel)) rfl (zii rfl T.zlh (z01 0) (z01 1)) (fun _ _ _ _ _=>z7T rfl (z2g (z1R (ndp ["a", "b"]) rfl (Or.inl rfl) (Or.inr rfl)) (z2g (z1R (ndp ["a", "b"]) rfl (Or.inl rfl) (Or.inr rfl)) z7S))) (jlt [0,1] 2) (fun _ _ _ _ _=>z0Q) (fun _ _ _ _ _=>(p_op z31 (z01 0) (z01 1))) (jlt [] 2)))))
theorem zce(T:Facts K mg A):FnOk P w K mg base CX0 1 A.zgt A.zgu ["one", "other"] (spc K true z4S) :=
 Fun.dat (k:=0) (F:=zaO) T.zba.fn zjb rfl rfl (fun cdv A outer s H E hr=>have hu:=hr.units
  (z0a (z0m (z1h (g:=(Tg.many [0,1])) (z0h (N:=["a", "b"]) (nt:=2) (js:=[]) ["one", "other"] (z06 z7D).names rfl rfl rfl (by decide +kernel)) rfl (zii rfl T.zlh (z01 0) (z01 1)) (fun _ _ _ _ _=>z7T rfl (z2g (z1R (ndp ["a", "b"]) rfl (Or.inl rfl) (Or.inr rfl)) (z2g (z1R (ndp ["a", "b"]) rfl (Or.inl rfl) (Or.inr rfl)) z7S))) (jlt [0,1] 2) (fun _ _ _ _ _=>z0Q) (fun _ _ _ _ _=>(p_op zbo (z01 0) (z01 1))) (jlt [] 2)))))
theorem z2L(T:Facts K mg A):FnOk P w K mg base CX0 1 A.zcm A.zcn ["row", "often"] (spc K true z1C) :=
 Fun.dat (k:=0) (F:=z8l) T.z2Z.fn zhr rfl rfl (fun cdv A outer s H E hr=>have hu:=hr.units
  (z0a (z0m (z1h (g:=(Tg.one 0)) (z0h (N:=["number", "often"]) (nt:=1) (js:=[1]) ["row", "often"] (z06 z65).names rfl rfl rfl (by decide +kernel)) rfl (z1Z (z01 0)) (fun _ _ _ _ _=>z13 (ndp ["number", "often"]) rfl (Or.inl rfl) (Or.inr rfl)) (show 0<1 by decide) (fun _ _ _ _ _=>z0Q) (fun _ _ _ _ _=>(p_op z53 (z01 1) (z01 0))) (jlt [1] 2)))))
theorem z1b(T:Facts K mg A):FnOk P w K mg base CX0 1 A.za0 A.za1 ["row"] (spc K true z0g) :=
 Fun.dat (k:=0) (F:=z6r) T.z18.fn z5p rfl rfl (fun cdv A outer s H E hr=>have hu:=hr.units
  (z05 (z7W (rels:=[]) (g:=(Tg.many [1,2])) PassesOwn.never rfl (zik rfl T.z7i (z01 0)) (z7T rfl (z2g (z1R (i:=1) z5p.nd rfl (Or.inl rfl) (Or.inl rfl)) (z2g (z1R (i:=2) z5p.nd rfl (Or.inl rfl) (Or.inl rfl)) z7S))) (z0a (s_if (z0I (o_ne hu) (z01 2) z0b (z0o _)) (z0a (z0m (z01 1))) z0K)))
   (z0a (z0m (z0A z1S rfl T.z1Y (by decide +kernel) (z03 (z01 0) z07))))))
theorem zb4(T:Facts K mg A):FnOk P w K mg base CX0 2 A.z76 A.z77 ["value"] (spc K true z37) :=
 Fun.dat (k:=1) (F:=z4j) T.z7j.fn zaX rfl rfl (fun cdv A outer s H E hr=>have hu:=hr.units
  (z0a (z0m (z9m (z0c (z73 T) T.z5w hr rfl (z03 (z01 0) z07)) (zbq (zlI o_le o_le z0b (z01 0) (zhY rfl T.zb9)))))))
theorem zdm(T:Facts K mg A):FnOk P w K mg base CX0 3 A.za2 A.za3 ["value", "kinds"] (spc K true z4T) :=
 Fun.dat (k:=2) (F:=z6s) T.zak.fn zdi rfl rfl (fun cdv A outer s H E hr=>have hu:=hr.units
  (z0a (z0m (z9m (z0c (zht T) T.zcA hr rfl (z03 (z01 0) (z03 (z01 1) z07))) (zbq (z0A (zi4 rfl) rfl T.zld (by decide +kernel) (z03 (z1h (g:=(Tg.one 0)) (z0h (N:=["number"]) (nt:=1) (js:=[]) ["value", "kinds"] (z06 z4X).names rfl rfl rfl (by decide +kernel)) rfl (z1Z (z01 0)) (fun _ _ _ _ _=>z13 (ndp ["number"]) rfl (Or.inl rfl) (Or.inr rfl)) (show 0<1 by decide) (fun _ _ _ _ _=>z0Q) (fun _ _ _ _ _=>(z9i o_lt (z0A c_abs rfl T.n_abs (by decide +kernel) (z03 (z01 0) z07)) (p_op zi z0b z0b) (z0o _))) (jlt [] 2)) z07)))))))
theorem z95(T:Facts K mg A):FnOk P w K mg base CX0 3 A.z6a A.z6b ["kinds"] (spc K true z2w) :=
 Fun.dat (k:=2) (F:=z3L) T.z6c.fn z94 rfl rfl (fun cdv A outer s H E hr=>have hu:=hr.units
  (z0a (s_if (z9l (z9k (z0c (zb4 T) T.z7j hr rfl (z03 (z01 0) z07)) (fun _=>rfl))) (z0a z5C) z0K)))
theorem zb5(T:Facts K mg A):FnOk P w K mg base CX0 4 A.z78 A.z79 ["bill", "kinds"] (spc K true z1N) :=
 Fun.dat (k:=3) (F:=z4k) T.z7k.fn zaY rfl rfl (fun cdv A outer s H E hr=>have hu:=hr.units
  (z0a (s_if (z9l (z9k (z0c (zdm T) T.zak hr rfl (z03 (z01 0) (z03 (z01 1) z07))) (fun _=>rfl))) (z0a z5C) z0K)))
theorem z5u(T:Facts K mg A):FnOk P w K mg base CX0 1 A.za4 A.za5 ["kinds", "rows"] (spc K true z2G) :=
 Fun.dat (k:=0) (F:=z6t) T.z50.fn zdj rfl rfl (fun cdv A outer s H E hr=>have hu:=hr.units
  (z0a (z0m (@zfZ _ _ _ _ _ (@z03 _ _ _ _ _ (z01 0) (@z03 _ _ _ _ _ (z1c zi3 rfl T.zb7 (by decide +kernel) (z03 (z1h (g:=(Tg.one 0)) (z0h (N:=["row"]) (nt:=1) (js:=[]) ["kinds", "rows"] (z06 z4Y).names rfl rfl rfl (by decide +kernel)) rfl (z1Z (z01 1)) (fun _ _ _ _ _=>z13 (ndp ["row"]) rfl (Or.inl rfl) (Or.inr rfl)) (show 0<1 by decide) (fun _ _ _ _ _=>z0Q) (fun _ _ _ _ _=>(z1c zi3 rfl T.zb7 (by decide +kernel) (z03 (z01 0) z07))) (jlt [] 2)) z07)) z07 rfl) rfl)))))
theorem z8I(T:Facts K mg A):FnOk P w K mg base CX0 5 A.za6 A.za7 ["kinds", "bills"] (spc K true z2H) :=
 Fun.dat (k:=4) (F:=z6u) T.z6O.fn z8D rfl rfl (fun cdv A outer s H E hr=>have hu:=hr.units
  (z05 (z7V (z0c (z95 T) T.z6c hr rfl (z03 (z01 0) z07)))
   (z05 (s_if (PFW.pt (w_or (z9l (z9k (z9p (T := "list") rfl rfl T.z1x rfl T.z3g (by decide +kernel) (z01 1)) (fun _=>rfl))) (zbp (z0I o_gt (z0A z1S rfl T.z1Y (by decide +kernel) (z03 (z01 1) z07)) (zhY rfl T.zb8) (z0o _))))) (z0a z5C) z0K)
   (z05 (z7W (rels:=[]) (g:=(Tg.one 2)) PassesOwn.never rfl (z1Z (z01 1)) (z13 z8D.nd rfl (Or.inl rfl) (Or.inl rfl)) (z0a (z7V (z0c (zb5 T) T.z7k hr rfl (z03 (z01 2) (z03 (z01 0) z07))))))
   (z0a (z0m (z0c (z5u T) T.z50 hr rfl (z03 (z01 0) (z03 (z01 1) z07)))))))))
theorem zhu(T:Facts K mg A):FnOk P w K mg base CX0 1 A.zco A.zcp ["a", "b"] (spc K true z8n) :=
 Fun.dat (k:=0) (F:=z8m) T.zcB.fn z1P rfl rfl (fun cdv A outer s H E hr=>have hu:=hr.units
  (z05 (z0i (rels:=[]) (z08 (i:=2) (z46 (z03 (z01 0) (z03 z0b (z03 z0b z07)))) z1P.nd rfl (Or.inr rfl) rfl (Or.inl rfl)))
   (z05 (z0i (rels:=[]) (z08 (i:=3) (z46 (z03 (z01 1) (z03 z0b (z03 z0b z07)))) z1P.nd rfl (Or.inr rfl) rfl (Or.inl rfl)))
   (z05 (z7s PassesOwn.never (z0I (o_ne hu) (p_ix (z01 3) z0b (fun _ _=>rfl)) z0b (z0o _)) (z05 (z0i (rels:=[]) (z08 (i:=4) (p_op z3B (p_ix (z01 2) z0b (fun _ _=>rfl)) (p_ix (z01 3) z0b (fun _ _=>rfl))) z1P.nd rfl (Or.inr rfl) rfl (Or.inl rfl)))
   (z05 (z0i (rels:=[]) (z3k (i:=5) (g:=(Tg.one 0)) z1P.nd rfl rfl rfl (z0h (N:=["k", "upper", "often", "lower"]) (nt:=1) (js:=[2,4,3]) ["a", "b", "upper", "lower", "often", "left"] (z06 z4v).names rfl rfl rfl (by decide +kernel)) rfl (z2P rfl T.z2D z0b) (fun _ _ _ _ _=>z13 (ndp ["k", "upper", "often", "lower"]) rfl (Or.inl rfl) (Or.inr rfl)) (show 0<1 by decide) (fun _ _ _ _ _=>z0Q) (fun _ _ _ _ _=>(p_op zbo (p_ix (z01 1) (z01 0) (fun _ _=>rfl)) (p_op z53 (z01 2) (p_ix (z01 3) (z01 0) (fun _ _=>rfl))))) (jlt [2,4,3] 6)))
   (z05 (z0i (rels:=[]) (z08 (i:=2) (z01 3) z1P.nd rfl (Or.inr rfl) rfl (Or.inl rfl)))
   (z0a (z0i (rels:=[]) (z08 (i:=3) (z01 5) z1P.nd rfl (Or.inr rfl) rfl (Or.inl rfl))))))))
   (z05 (s_if (z0I o_lt (p_ix (z01 2) z0b (fun _ _=>rfl)) z0b (z0o _)) (z0a (z0i (rels:=[]) (z08 (i:=2) (z1h (g:=(Tg.one 0)) (z0h (N:=["number"]) (nt:=1) (js:=[]) ["a", "b", "upper", "lower", "often", "left"] (z06 z4v).names rfl rfl rfl (by decide +kernel)) rfl (z1Z (z01 2)) (fun _ _ _ _ _=>z13 (ndp ["number"]) rfl (Or.inl rfl) (Or.inr rfl)) (show 0<1 by decide) (fun _ _ _ _ _=>z0Q) (fun _ _ _ _ _=>(zi1 (z01 0))) (jlt [] 6)) z1P.nd rfl (Or.inr rfl) rfl (Or.inl rfl)))) z0K)
   (z0a (z0m (z1c zi3 rfl T.zb7 (by decide +kernel) (z03 (z01 2) z07)))))))))
theorem zdn(T:Facts K mg A):FnOk P w K mg base CX0 1 A.za8 A.za9 ["numbers"] (spc K true z4U) :=
 Fun.dat (k:=0) (F:=z6v) T.zal.fn z3R rfl rfl (fun cdv A outer s H E hr=>have hu:=hr.units
  (z05 (z0i (rels:=[]) (z08 (i:=1) z0b z3R.nd rfl (Or.inl rfl) rfl (Or.inl rfl)))
   (z05 (z7W (rels:=[]) (g:=(Tg.one 2)) PassesOwn.never rfl (z1Z (z01 0)) (z13 z3R.nd rfl (Or.inl rfl) (Or.inl rfl)) (z0a (z0i (rels:=[]) (z08 (i:=1) (p_op z53 (z01 1) (z01 2)) z3R.nd rfl (Or.inl rfl) rfl (Or.inl rfl)))))
   (z0a (z0m (z01 1))))))
theorem zcf(T:Facts K mg A):FnOk P w K mg base CX0 2 A.z8L A.z8M ["row", "rungs"] (spc K true z3M) :=
 Fun.dat (k:=1) (F:=z5h) T.z8X.fn z1m rfl rfl (fun cdv A outer s H E hr=>have hu:=hr.units
  (z05 (z0i (rels:=[]) (z08 (i:=2) (z1c z6R rfl T.z3g (by decide +kernel) (z03 (z01 0) z07)) z1m.nd rfl (Or.inl rfl) rfl (Or.inl rfl)))
   (z05 (zbs (z08 (i:=3) (z46 z07) z1m.nd rfl (Or.inl rfl) rfl (Or.inl rfl)))
   (z05 (z7W (rels:=[]) (g:=(Tg.one 4)) PassesOwn.never rfl (z1Z (z01 1)) (z13 z1m.nd rfl (Or.inl rfl) (Or.inl rfl)) (z05 (z0i (rels:=[]) (z08 (i:=5) (z0c (z1b T) T.z18 hr rfl (z03 (z01 4) z07)) z1m.nd rfl (Or.inl rfl) rfl (Or.inl rfl)))
   (z05 (z0i (rels:=[]) (z08 (i:=6) (p_op z3B (p_ix (z01 2) (z01 5) (fun _ _=>rfl)) (p_ix (z01 4) (z01 5) (fun _ _=>rfl))) z1m.nd rfl (Or.inl rfl) rfl (Or.inl rfl)))
   (z05 (s_if (z0I (o_ne hu) (z01 6) z0b (z0o _)) (z0a (z0i (rels:=[]) (z08 (i:=2) (z0c (zce T) T.zba hr rfl (z03 (z01 2) (z03 (z0c (z2L T) T.z2Z hr rfl (z03 (z01 4) (z03 (z01 6) z07))) z07))) z1m.nd rfl (Or.inl rfl) rfl (Or.inl rfl)))) z0K)
   (z0a (s_wr1 (i:=3) zim F.slot_list_append F.type_list_append rfl (Or.inl rfl) (z01 6)))))))
   (z0a (z0m (zfZ (z03 (z01 3) (z03 (z01 2) z07)))))))))
theorem z3V(T:Facts K mg A):FnOk P w K mg base CX0 3 A.zaa A.zab ["row", "rungs"] (spc K true z0G) :=
 Fun.dat (k:=2) (F:=z6w) T.z3s.fn zdk rfl rfl (fun cdv A outer s H E hr=>have hu:=hr.units
  (z0a (z0m (p_ix (z0c (zcf T) T.z8X hr rfl (z03 (z01 0) (z03 (z01 1) z07))) z0b (fun _ _=>rfl)))))
theorem zdo(T:Facts K mg A):FnOk P w K mg base CX0 2 A.zac A.zad ["rung", "row"] (spc K true z2I) :=
 Fun.dat (k:=1) (F:=z6x) T.zam.fn z2Y rfl rfl (fun cdv A outer s H E hr=>have hu:=hr.units
  (z05 (z0i (rels:=[]) (z08 (i:=2) (z0c (z1b T) T.z18 hr rfl (z03 (z01 0) z07)) z2Y.nd rfl (Or.inl rfl) rfl (Or.inl rfl)))
   (z05 (z0i (rels:=[]) (z08 (i:=3) (z0c (zhu T) T.zcB hr rfl (z03 (p_ix (z01 0) (z01 2) (fun _ _=>rfl)) (z03 (p_ix (z01 1) (z01 2) (fun _ _=>rfl)) z07))) z2Y.nd rfl (Or.inl rfl) rfl (Or.inl rfl)))
   (z05 (z0i (rels:=[]) (z08 (i:=4) (z0c (zjf T) T.zgC hr rfl (z03 (z0c (z2L T) T.z2Z hr rfl (z03 (z01 0) (z03 (p_ix (z01 3) z0b (fun _ _=>rfl)) z07))) (z03 (z0c (z2L T) T.z2Z hr rfl (z03 (z01 1) (z03 (p_ix (z01 3) z0b (fun _ _=>rfl)) z07))) z07))) z2Y.nd rfl (Or.inl rfl) rfl (Or.inl rfl)))
   (z05 (z0i (rels:=[]) (z08 (i:=5) (z0c (zce T) T.zba hr rfl (z03 (z0c (z2L T) T.z2Z hr rfl (z03 (z01 1) (z03 (p_op z3B (p_ix (z01 0) (z01 2) (fun _ _=>rfl)) (p_ix (z01 3) z0b (fun _ _=>rfl))) z07))) (z03 (z0c (z2L T) T.z2Z hr rfl (z03 (z01 0) (z03 (p_op z3B (p_ix (z01 1) (z01 2) (fun _ _=>rfl)) (p_ix (z01 3) z0b (fun _ _=>rfl))) z07))) z07))) z2Y.nd rfl (Or.inl rfl) rfl (Or.inl rfl)))
   (z0a (z0m (zfZ (z03 (z01 4) (z03 (z01 5) z07))))))))))
theorem zb6(T:Facts K mg A):FnOk P w K mg base CX0 2 A.z7a A.z7b ["row"] (spc K true z0Y) :=
 Fun.dat (k:=1) (F:=z4l) T.z7l.fn zaZ rfl rfl (fun cdv A outer s H E hr=>have hu:=hr.units
  (z0a (z0m (p_if (z0I o_lt (p_ix (z01 0) (z0c (z1b T) T.z18 hr rfl (z03 (z01 0) z07)) (fun _ _=>rfl)) z0b (z0o _)) (z0c (z2L T) T.z2Z hr rfl (z03 (z01 0) (z03 (zi1 z0b) z07))) (z1c z6R rfl T.z3g (by decide +kernel) (z03 (z01 0) z07))))))
theorem zcg(T:Facts K mg A):FnOk P w K mg base CX0 4 A.z8N A.z8O ["rungs", "row"] (spc K false z29) :=
 Fun.dat (k:=3) (F:=z2T) T.z8Y.fn z1Q rfl rfl (fun cdv A outer s H E hr=>have hu:=hr.units
  (z05 (zbs (z08 (i:=2) (z1c z6R rfl T.z3g (by decide +kernel) (z03 (z01 0) z07)) z1Q.nd rfl (Or.inl rfl) rfl (Or.inl rfl)))
   (z05 (zaB (z08 (i:=3) (z0c (z3V T) T.z3s hr rfl (z03 (z01 1) (z03 (z01 2) z07))) z1Q.nd rfl (Or.inr rfl) rfl (Or.inl rfl)))
   (z05 (z7s PassesOwn.never (z0I o_lt (z0c (z1b T) T.z18 hr rfl (z03 (z01 3) z07)) (z0A z1S rfl T.z1Y (by decide +kernel) (z03 (z01 3) z07)) (z0o _)) (z05 (zaB (z3k (i:=4) (g:=(Tg.many [0,1])) z1Q.nd rfl rfl rfl (z0h (N:=["place", "rung", "left"]) (nt:=2) (js:=[3]) ["rungs", "row", "found", "left", "places", "pair"] (z06 z3S).names rfl rfl rfl (by decide +kernel)) rfl (zik rfl T.z7i (z01 2)) (fun _ _ _ _ _=>z7T rfl (z2g (z1R (ndp ["place", "rung", "left"]) rfl (Or.inl rfl) (Or.inr rfl)) (z2g (z1R (ndp ["place", "rung", "left"]) rfl (Or.inl rfl) (Or.inr rfl)) z7S))) (jlt [0,1] 2) (fun _ _ _ _ _=>(zi6 (z0I (o_eq hu) (z0c (z1b T) T.z18 hr rfl (z03 (z01 1) z07)) (z0c (z1b T) T.z18 hr rfl (z03 (z01 2) z07)) (z0o _)))) (fun _ _ _ _ _=>(z01 0)) (jlt [3] 6)))
   (z05 (s_if (z0I (o_eq hu) (z0A z1S rfl T.z1Y (by decide +kernel) (z03 (z01 4) z07)) z0b (z0o _)) (z0a (z0m (zlV (z1b T) (hr.mono (by decide)) rfl T.zlg T.z18.mg rfl T.z18.bd (p_op z31 (z01 2) (@z46 _ _ _ _ (@z03 _ _ _ _ _ (z0c (zb6 T) T.z7l hr rfl (z03 (z01 3) z07)) z07 rfl)))))) z0K)
   (z05 (zaB (z08 (i:=5) (z0c (zdo T) T.zam hr rfl (z03 (p_ix (z01 2) (p_ix (z01 4) z0b (fun _ _=>rfl)) (fun _ _=>rfl)) (z03 (z01 3) z07))) z1Q.nd rfl (Or.inl rfl) rfl (Or.inl rfl)))
   (z05 (zin (i:=2) rfl (Or.inl rfl) (p_ix (z01 4) z0b (fun _ _=>rfl)) (p_ix (z01 5) z0b (fun _ _=>rfl)))
   (z0a (zaB (z08 (i:=3) (z0c (z3V T) T.z3s hr rfl (z03 (p_ix (z01 5) z0b (fun _ _=>rfl)) (z03 (z01 2) z07))) z1Q.nd rfl (Or.inr rfl) rfl (Or.inl rfl)))))))))
   (z0a (z0m (z01 2)))))))
theorem zhv(T:Facts K mg A):FnOk P w K mg base CX0 4 A.zcq A.zcr ["rungs"] (spc K true z4m) :=
 Fun.dat (k:=3) (F:=z8o) T.zcC.fn z6I rfl rfl (fun cdv A outer s H E hr=>have hu:=hr.units
  (z05 (zbs (z08 (i:=1) (z46 z07) z6I.nd rfl (Or.inl rfl) rfl (Or.inl rfl)))
   (z05 (z7W (rels:=[]) (g:=(Tg.one 2)) PassesOwn.never rfl (i_rev rfl T.zfR (z01 0)) (z13 z6I.nd rfl (Or.inl rfl) (Or.inl rfl)) (z0a (s_insA (i:=1) rfl (Or.inl rfl) (z0c (z3V T) T.z3s hr rfl (z03 (z01 2) (z03 (z01 1) z07))))))
   (z0a (z0m (z01 1))))))
theorem z5v(T:Facts K mg A):FnOk P w K mg base CX0 5 A.zae A.zaf ["rows"] (spc K true z2a) :=
 Fun.dat (k:=4) (F:=z6y) T.z51.fn z3T rfl rfl (fun cdv A outer s H E hr=>have hu:=hr.units
  (z05 (z0i (rels:=[]) (z08 (i:=1) (z46 z07) z3T.nd rfl (Or.inl rfl) rfl (Or.inl rfl)))
   (z05 (z7W (rels:=[]) (g:=(Tg.one 2)) PassesOwn.never rfl (z1Z (z01 0)) (z13 z3T.nd rfl (Or.inl rfl) (Or.inl rfl)) (z0a (z0i (rels:=[]) (z08 (i:=1) (z0c (zhv T) T.zcC hr rfl (z03 (z0c (zcg T) T.z8Y hr rfl (z03 (z01 1) (z03 (z01 2) z07))) z07)) z3T.nd rfl (Or.inl rfl) rfl (Or.inl rfl)))))
   (z0a (z0m (z01 1))))))
theorem z7o(T:Facts K mg A):FnOk P w K mg base CX0 6 A.z4A A.z4B ["rows", "tags"] (spc K true z1V) :=
 Fun.dat (k:=5) (F:=z2U) T.z4C.fn z7n rfl rfl (fun cdv A outer s H E hr=>have hu:=hr.units
  (z0a (z0m (z0c (z5v T) T.z51 hr rfl (z03 (z1h (g:=(Tg.many [0,1])) (z0h (N:=["row", "tag"]) (nt:=2) (js:=[]) ["rows", "tags"] (z06 z1X).names rfl rfl rfl (by decide +kernel)) rfl (zii rfl T.zlh (z01 0) (z01 1)) (fun _ _ _ _ _=>z7T rfl (z2g (z1R (ndp ["row", "tag"]) rfl (Or.inl rfl) (Or.inr rfl)) (z2g (z1R (ndp ["row", "tag"]) rfl (Or.inl rfl) (Or.inr rfl)) z7S))) (jlt [0,1] 2) (fun _ _ _ _ _=>z0Q) (fun _ _ _ _ _=>(p_op z31 (z1c z6R rfl T.z3g (by decide +kernel) (z03 (z01 0) z07)) (z1c z6R rfl T.z3g (by decide +kernel) (z03 (z01 1) z07)))) (jlt [] 2)) z07)))))
theorem z69(T:Facts K mg A):FnOk P w K mg base CX0 2 A.z3q A.z3r ["rungs", "width"] (spc K true z1r) :=
 Fun.dat (k:=1) (F:=z2b) T.z3t.fn z66 rfl rfl (fun cdv A outer s H E hr=>have hu:=hr.units
  (z0a (z0m (z1h (g:=(Tg.one 0)) (z0h (N:=["rung", "width"]) (nt:=1) (js:=[1]) ["rungs", "width"] (z06 z1u).names rfl rfl rfl (by decide +kernel)) rfl (z1Z (z01 0)) (fun _ _ _ _ _=>z13 (ndp ["rung", "width"]) rfl (Or.inl rfl) (Or.inr rfl)) (show 0<1 by decide) (fun _ _ _ _ _=>(zi6 (z0I o_ge (z0c (z1b T) T.z18 hr rfl (z03 (z01 0) z07)) (z01 1) (z0o _)))) (fun _ _ _ _ _=>(zlM (z01 0) (s_some (z01 1)) s_none)) (jlt [1] 2)))))
theorem z2d(T:Facts K mg A):FnOk P w K mg base CX0 2 A.z41 A.z42 ["rungs"] (spc K true z0S) :=
 Fun.dat (k:=1) (F:=z2o) T.z1F.fn z6K rfl rfl (fun cdv A outer s H E hr=>have hu:=hr.units
  (z0a (z0m (z0c (zdn T) T.zal hr rfl (z03 (z1h (g:=(Tg.one 0)) (z0h (N:=["rung"]) (nt:=1) (js:=[]) ["rungs"] (z06 z1E).names rfl rfl rfl (by decide +kernel)) rfl (z1Z (z01 0)) (fun _ _ _ _ _=>z13 (ndp ["rung"]) rfl (Or.inl rfl) (Or.inr rfl)) (show 0<1 by decide) (fun _ _ _ _ _=>z0Q) (fun _ _ _ _ _=>(p_ix (z01 0) (z0c (z1b T) T.z18 hr rfl (z03 (z01 0) z07)) (fun _ _=>rfl))) (jlt [] 1)) z07)))))
theorem z2l(T:Facts K mg A):FnOk P w K mg base CX0 6 A.zgv A.zgw ["hall"] (spc K true z15) :=
 Fun.dat (k:=5) (F:=zaP) T.z2E.fn zjc rfl rfl (fun cdv A outer s H E hr=>have hu:=hr.units
  (z0a (z0m (z0c (z5v T) T.z51 hr rfl (z03 (p_ix (z01 0) z0b (fun _ _=>rfl)) z07)))))
theorem z3W(T:Facts K mg A):FnOk P w K mg base CX0 1 A.z7c A.z7d ["one", "other"] (spc K true z1O) :=
 Fun.dat (k:=0) (F:=z4n) T.z3a.fn zb1 rfl rfl (fun cdv A outer s H E hr=>have hu:=hr.units
  (z0a (s_if (z0I (o_ne hu) (p_ix (z01 0) z0b (fun _ _=>rfl)) (p_ix (z01 1) z0b (fun _ _=>rfl)) (z0o _)) (z0a z5C) z0K)))
theorem zhw(T:Facts K mg A):FnOk P w K mg base CX0 6 A.zcs A.zct ["one", "other"] (spc K true z5X) :=
 Fun.dat (k:=5) (F:=z8p) T.zcD.fn zhs rfl rfl (fun cdv A outer s H E hr=>have hu:=hr.units
  (z05 (z7V (z0c (z3W T) T.z3a hr rfl (z03 (z01 0) (z03 (z01 1) z07))))
   (z0a (z0m (z0c (z5u T) T.z50 hr rfl (z03 (p_ix (z01 0) z0b (fun _ _=>rfl)) (z03 (z0c (z5v T) T.z51 hr rfl (z03 (p_op o_catT (p_ix (z01 0) z0b (fun _ _=>rfl)) (p_ix (z01 1) z0b (fun _ _=>rfl))) z07)) z07)))))))
theorem ok_met(T:Facts K mg A):FnOk P w K mg base CX0 7 A.a_met A.d_met ["one", "other"] (spc K true ziU) :=
 Fun.dat (k:=6) (F:=ziT) T.f_met.fn zb2 rfl rfl (fun cdv A outer s H E hr=>have hu:=hr.units
  (z05 (z7V (z0c (z3W T) T.z3a hr rfl (z03 (z01 0) (z03 (z01 1) z07))))
   (z05 (z0i (rels:=[]) (z08 (i:=2) (z0c (z2l T) T.z2E hr rfl (z03 (z01 0) z07)) zb2.nd rfl (Or.inl rfl) rfl (Or.inl rfl)))
   (z05 (z0i (rels:=[]) (z08 (i:=3) (z0c (z2l T) T.z2E hr rfl (z03 (z01 1) z07)) zb2.nd rfl (Or.inl rfl) rfl (Or.inl rfl)))
   (z05 (z0i (rels:=[]) (z08 (i:=4) (z0c (z7o T) T.z4C hr rfl (z03 (p_op z31 (z01 2) (z01 3)) (z03 (p_op z31 (z01 2) (z1h (g:=(Tg.one 0)) (z0h (N:=["rung", "one"]) (nt:=1) (js:=[0]) ["one", "other", "ours", "theirs", "both"] (z06 zgq).names rfl rfl rfl (by decide +kernel)) rfl (z1Z (z01 3)) (fun _ _ _ _ _=>z13 (ndp ["rung", "one"]) rfl (Or.inl rfl) (Or.inr rfl)) (show 0<1 by decide) (fun _ _ _ _ _=>z0Q) (fun _ _ _ _ _=>(z0c (z8H T) T.z6N hr rfl (z03 (p_ix (z01 1) z0b (fun _ _=>rfl)) z07))) (jlt [0] 5))) z07))) zb2.nd rfl (Or.inl rfl) rfl (Or.inl rfl)))
   (z0a (z0m (z0c (z5u T) T.z50 hr rfl (z03 (p_ix (z01 0) z0b (fun _ _=>rfl)) (z03 (z0c (z69 T) T.z3t hr rfl (z03 (z01 4) (z03 (p_ix (z01 0) z0b (fun _ _=>rfl)) z07))) z07))))))))))
theorem z9Y(T:Facts K mg A):FnOk P w K mg base CX0 7 A.zcu A.zcv ["one", "other"] (spc K true z4o) :=
 Fun.dat (k:=6) (F:=z8q) T.z8Z.fn z9X rfl rfl (fun cdv A outer s H E hr=>have hu:=hr.units
  (z05 (z7V (z0c (z3W T) T.z3a hr rfl (z03 (z01 0) (z03 (z01 1) z07))))
   (z05 (z0i (rels:=[]) (z08 (i:=2) (z0c (z2l T) T.z2E hr rfl (z03 (z01 1) z07)) z9X.nd rfl (Or.inr rfl) rfl (Or.inl rfl)))
   (z0a (z0m (z0A (zi4 rfl) rfl T.zld (by decide +kernel) (z03 (z1h (g:=(Tg.one 0)) (z0h (N:=["bill", "rungs", "one"]) (nt:=1) (js:=[2,0]) ["one", "other", "rungs"] (z06 z67).names rfl rfl rfl (by decide +kernel)) rfl (z1Z (p_ix (z01 0) z0b (fun _ _=>rfl))) (fun _ _ _ _ _=>z13 (ndp ["bill", "rungs", "one"]) rfl (Or.inl rfl) (Or.inr rfl)) (show 0<1 by decide) (fun _ _ _ _ _=>z0Q) (fun _ _ _ _ _=>(z9i (o_eq hu) (z0c (z3V T) T.z3s hr rfl (z03 (z01 0) (z03 (z01 1) z07))) (z0c (z8H T) T.z6N hr rfl (z03 (p_ix (z01 2) z0b (fun _ _=>rfl)) z07)) (z0o _))) (jlt [2,0] 3)) z07)))))))
theorem zch(T:Facts K mg A):FnOk P w K mg base CX0 8 A.z8P A.z8Q ["one", "other"] (spc K true z3N) :=
 Fun.dat (k:=7) (F:=z5i) T.z9.fn z4y rfl rfl (fun cdv A outer s H E hr=>have hu:=hr.units
  (z05 (s_if (z9l (z9k (z0c (z9Y T) T.z8Z hr rfl (z03 (z01 0) (z03 (z01 1) z07))) (fun _=>rfl))) (z0a z5C) z0K)
   (z05 (z0i (rels:=[]) (z08 (i:=2) (z0c (z2l T) T.z2E hr rfl (z03 (z01 0) z07)) z4y.nd rfl (Or.inl rfl) rfl (Or.inl rfl)))
   (z05 (z0i (rels:=[]) (z08 (i:=3) (z0c (z2l T) T.z2E hr rfl (z03 (z01 1) z07)) z4y.nd rfl (Or.inl rfl) rfl (Or.inl rfl)))
   (z05 (s_if (z0I o_lt (z0A z1S rfl T.z1Y (by decide +kernel) (z03 (z01 2) z07)) (z0A z1S rfl T.z1Y (by decide +kernel) (z03 (z01 3) z07)) (z0o _)) (z0a (z0m z9h)) z0K)
   (z0a (z0m (p_op z3B (z0c (z2d T) T.z1F hr rfl (z03 (z01 2) z07)) (z0c (z2d T) T.z1F hr rfl (z03 (z01 3) z07))))))))))
theorem z74(T:Facts K mg A):FnOk P w K mg base CX0 7 A.z8R A.z8S ["hall"] (spc K true z2V) :=
 Fun.dat (k:=6) (F:=z5j) T.z5x.fn z72 rfl rfl (fun cdv A outer s H E hr=>have hu:=hr.units
  (z05 (z0i (rels:=[]) (z08 (i:=1) (z0c (z2l T) T.z2E hr rfl (z03 (z01 0) z07)) z72.nd rfl (Or.inl rfl) rfl (Or.inl rfl)))
   (z05 (s_if (z0I o_lt (z0A z1S rfl T.z1Y (by decide +kernel) (z03 (z01 1) z07)) (p_ix (z01 0) z0b (fun _ _=>rfl)) (z0o _)) (z0a (z0m z9h)) z0K)
   (z0a (z0m (z0c (z2d T) T.z1F hr rfl (z03 (z01 1) z07)))))))
theorem z1w(T:Facts K mg A):FnOk P w K mg base CX0 1 A.z7e A.z7f ["_law_script", "_law_k"] (spc K true z0J) :=
 Fun.dat (k:=0) (F:=z4p) T.z1n.fn zb3 rfl rfl (fun cdv A outer s H E hr=>have hu:=hr.units
  (z05 (s_if (z0I o_lt (z01 1) (z0A z1S rfl T.z1Y (by decide +kernel) (z03 (z01 0) z07)) (z0o _)) (z0a (z0m (p_ix (z01 0) (z01 1) (fun _ _=>rfl)))) z0K)
   (z05 (s_if (z0I (o_eq hu) (z01 0) (z46 z07) (z0o _)) (z0a (z0m z0b)) z0K)
   (z0a (z0m (p_op z31 (p_op z53 (p_ix (z01 0) (p_op z3X (z01 1) (z0A z1S rfl T.z1Y (by decide +kernel) (z03 (z01 0) z07))) (fun _ _=>rfl)) z0b) (z01 1)))))))
theorem zdp(T:Facts K mg A):FnOk P w K mg base CX0 1 A.zag A.zah ["_law_found"] (spc K true z4V) :=
 Fun.dat (k:=0) (F:=z6z) T.zan.fn zdl rfl rfl (fun cdv A outer s H E hr=>have hu:=hr.units
  (z0a (z0m (z9m (z9p (T := "int") rfl rfl T.z1x rfl T.zlf (by decide +kernel) (z01 0)) (zbq (p_not (z9p (T := "bool") rfl rfl T.z1x rfl T.zle (by decide +kernel) (z01 0))))))))
theorem zci(T:Facts K mg A):FnOk P w K mg base CX0 1 A.z8T A.z8U ["_law_cell", "_law_mode"] (spc K true z2c) :=
 Fun.dat (k:=0) (F:=z2W) T.z90.fn z38 rfl rfl (fun cdv A outer s H E hr=>have hu:=hr.units
  (z05 (s_if (z0I (o_eq hu) (z01 1) z0b (z0o _)) (z05 (z0i (rels:=[]) (z08 (i:=2) (p_op z3X (z01 0) (p_op zi z0b z0b)) z38.nd rfl (Or.inl rfl) rfl (Or.inl rfl)))
   (z05 (s_if (z0I (o_eq hu) (p_op z3X (p_op z3B (z01 0) (p_op zi z0b z0b)) z0b) z0b (z0o _)) (z0a (z0m (zi1 (z01 2)))) z0K)
   (z0a (z0m (z01 2))))) z0K)
   (z05 (z0i (rels:=[]) (z08 (i:=3) (p_ix (z46 (z03 z0b (z03 z0b z07))) (z01 1) (fun _ _=>rfl)) z38.nd rfl (Or.inl rfl) rfl (Or.inl rfl)))
   (z05 (z0i (rels:=[]) (z08 (i:=2) (p_op z3X (z01 0) (z01 3)) z38.nd rfl (Or.inl rfl) rfl (Or.inl rfl)))
   (z05 (s_if (z0I o_gt (z01 2) (p_op z3B (z01 3) z0b) (z0o _)) (z0a (z0m (p_op zbo (z01 2) (z01 3)))) z0K)
   (z0a (z0m (z01 2))))))))
theorem zcj(T:Facts K mg A):FnOk P w K mg base CX0 2 A.zgx A.zgy ["_law_script", "_law_at", "_law_size_here", "_law_mode"] (spc K true z2x) :=
 Fun.dat (k:=1) (F:=zaQ) T.zbb.fn zjd rfl rfl (fun cdv A outer s H E hr=>have hu:=hr.units
  (z0a (z0m (z1h (g:=(Tg.one 0)) (z0h (N:=["_law_k", "_law_script", "_law_at", "_law_mode"]) (nt:=1) (js:=[0,1,3]) ["_law_script", "_law_at", "_law_size_here", "_law_mode"] (z06 z7E).names rfl rfl rfl (by decide +kernel)) rfl (z2P rfl T.z2D (z01 2)) (fun _ _ _ _ _=>z13 (ndp ["_law_k", "_law_script", "_law_at", "_law_mode"]) rfl (Or.inl rfl) (Or.inr rfl)) (show 0<1 by decide) (fun _ _ _ _ _=>z0Q) (fun _ _ _ _ _=>(z0c (zci T) T.z90 hr rfl (z03 (z0c (z1w T) T.z1n hr rfl (z03 (z01 1) (z03 (p_op z31 (z01 2) (z01 0)) z07))) (z03 (z01 3) z07)))) (jlt [0,1,3] 4)))))
theorem zjg(T:Facts K mg A):FnOk P w K mg base CX0 3 A.zgz A.zgA ["_law_script"] (spc K true zaR) :=
 Fun.dat (k:=2) (F:=z7z) T.zgD.fn z1e rfl rfl (fun cdv A outer s H E hr=>have hu:=hr.units
  (z05 (z0i (rels:=[]) (z08 (i:=1) (p_ix (z46 (z03 z0b (z03 z0b (z03 z0b (z03 z0b (z03 z0b z07)))))) (p_op z3X (z0c (z1w T) T.z1n hr rfl (z03 (z01 0) (z03 z0b z07))) z0b) (fun _ _=>rfl)) z1e.nd rfl (Or.inr rfl) rfl (Or.inl rfl)))
   (z05 (z0i (rels:=[]) (z08 (i:=2) (p_op z31 z0b (p_op z3X (z0c (z1w T) T.z1n hr rfl (z03 (z01 0) (z03 z0b z07))) z0b)) z1e.nd rfl (Or.inr rfl) rfl (Or.inl rfl)))
   (z05 (z0i (rels:=[]) (z08 (i:=3) (p_op z3X (z0c (z1w T) T.z1n hr rfl (z03 (z01 0) (z03 z0b z07))) z0b) z1e.nd rfl (Or.inl rfl) rfl (Or.inl rfl)))
   (z05 (z0i (rels:=[]) (z08 (i:=4) (p_op z3X (z0c (z1w T) T.z1n hr rfl (z03 (z01 0) (z03 z0b z07))) z0b) z1e.nd rfl (Or.inl rfl) rfl (Or.inl rfl)))
   (z05 (s_if (z0I (o_eq hu) (p_op z3X (z0c (z1w T) T.z1n hr rfl (z03 (z01 0) (z03 z0b z07))) z0b) z0b (z0o _)) (z05 (z0i (rels:=[]) (z08 (i:=2) z0b z1e.nd rfl (Or.inr rfl) rfl (Or.inl rfl)))
   (z0a (z0i (rels:=[]) (z08 (i:=1) z0b z1e.nd rfl (Or.inr rfl) rfl (Or.inl rfl))))) z0K)
   (z05 (s_if (z0I (o_eq hu) (z01 1) z0b (z0o _)) (z05 (z0i (rels:=[]) (z08 (i:=2) (p_op z31 z0b (p_op z3X (z01 2) z0b)) z1e.nd rfl (Or.inr rfl) rfl (Or.inl rfl)))
   (z05 (z0i (rels:=[]) (z08 (i:=3) (p_op z3X (z01 3) z0b) z1e.nd rfl (Or.inl rfl) rfl (Or.inl rfl)))
   (z0a (z0i (rels:=[]) (z08 (i:=4) (p_op z3X (z01 4) z0b) z1e.nd rfl (Or.inl rfl) rfl (Or.inl rfl)))))) z0K)
   (z05 (z0i (rels:=[]) (z3k (i:=5) (g:=(Tg.one 0)) z1e.nd rfl rfl rfl (z0h (N:=["_law_k", "_law_script", "_law_kinds", "_law_mode"]) (nt:=1) (js:=[0,2,1]) ["_law_script", "_law_mode", "_law_kinds", "_law_many", "_law_others", "_law_one", "_law_other"] (z06 z68).names rfl rfl rfl (by decide +kernel)) rfl (z2P rfl T.z2D (z01 3)) (fun _ _ _ _ _=>z13 (ndp ["_law_k", "_law_script", "_law_kinds", "_law_mode"]) rfl (Or.inl rfl) (Or.inr rfl)) (show 0<1 by decide) (fun _ _ _ _ _=>z0Q) (fun _ _ _ _ _=>(z0c (zcj T) T.zbb hr rfl (z03 (z01 1) (z03 (p_op z31 z0b (p_op z53 (z01 2) (z01 0))) (z03 (z01 2) (z03 (z01 3) z07)))))) (jlt [0,2,1] 7)))
   (z05 (z0i (rels:=[]) (z3k (i:=6) (g:=(Tg.one 0)) z1e.nd rfl rfl rfl (z0h (N:=["_law_k", "_law_script", "_law_kinds", "_law_mode"]) (nt:=1) (js:=[0,2,1]) ["_law_script", "_law_mode", "_law_kinds", "_law_many", "_law_others", "_law_one", "_law_other"] (z06 z68).names rfl rfl rfl (by decide +kernel)) rfl (z2P rfl T.z2D (z01 4)) (fun _ _ _ _ _=>z13 (ndp ["_law_k", "_law_script", "_law_kinds", "_law_mode"]) rfl (Or.inl rfl) (Or.inr rfl)) (show 0<1 by decide) (fun _ _ _ _ _=>z0Q) (fun _ _ _ _ _=>(z0c (zcj T) T.zbb hr rfl (z03 (z01 1) (z03 (p_op z31 z0b (p_op z53 (z01 2) (z01 0))) (z03 (z01 2) (z03 (z01 3) z07)))))) (jlt [0,2,1] 7)))
   (z0a (z0m (zfZ (z03 (z01 2) (z03 (z01 5) (z03 (z01 6) z07)))))))))))))))
theorem z75(T:Facts K mg A):FnOk P w K mg base CX0 1 A.z8V A.z8W ["_law_rows"] (spc K true z2X) :=
 Fun.dat (k:=0) (F:=z5k) T.z5y.fn zcd rfl rfl (fun cdv A outer s H E hr=>have hu:=hr.units
  (z0a (z0m (z1h (g:=(Tg.one 0)) (z0h (N:=["_law_row_here"]) (nt:=1) (js:=[]) ["_law_rows"] (z06 z3U).names rfl rfl rfl (by decide +kernel)) rfl (z1Z (z01 0)) (fun _ _ _ _ _=>z13 (ndp ["_law_row_here"]) rfl (Or.inl rfl) (Or.inr rfl)) (show 0<1 by decide) (fun _ _ _ _ _=>z0Q) (fun _ _ _ _ _=>(z1c z6R rfl T.z3g (by decide +kernel) (z03 (z01 0) z07))) (jlt [] 1)))))
theorem zhx(T:Facts K mg A):FnOk P w K mg base CX0 1 A.zcw A.zcx ["_law_row_here"] (spc K true z4q) :=
 Fun.dat (k:=0) (F:=z8r) T.zcE.fn z6M rfl rfl (fun cdv A outer s H E hr=>have hu:=hr.units
  (z05 (z0i (rels:=[]) (z08 (i:=1) z0b z6M.nd rfl (Or.inl rfl) rfl (Or.inl rfl)))
   (z05 (z7s PassesOwn.never (PFW.pt (zi0 (z0I o_lt (z01 1) (z0A z1S rfl T.z1Y (by decide +kernel) (z03 (z01 0) z07)) (z0o _)) (zcQ (z0I (o_eq hu) (p_ix (z01 0) (z01 1) (fun _ _=>rfl)) z0b (z0o _))))) (z0a (z0i (rels:=[]) (z08 (i:=1) (p_op z31 (z01 1) z0b) z6M.nd rfl (Or.inl rfl) rfl (Or.inl rfl)))))
   (z0a (z0m (z01 1))))))
theorem zdq(T:Facts K mg A):FnOk P w K mg base CX0 2 A.zai A.zaj ["_law_rows", "_law_row_here"] (spc K true z3o) :=
 Fun.dat (k:=1) (F:=z6A) T.zao.fn z1I rfl rfl (fun cdv A outer s H E hr=>have hu:=hr.units
  (z05 (z0i (rels:=[]) (z08 (i:=2) (z1c z6R rfl T.z3g (by decide +kernel) (z03 (z01 1) z07)) z1I.nd rfl (Or.inr rfl) rfl (Or.inl rfl)))
   (z05 (zbs (z08 (i:=3) (z46 z07) z1I.nd rfl (Or.inl rfl) rfl (Or.inl rfl)))
   (z05 (z7W (rels:=[]) (g:=(Tg.one 4)) PassesOwn.never rfl (z1Z (z01 0)) (z13 z1I.nd rfl (Or.inr rfl) (Or.inl rfl)) (z05 (z0i (rels:=[]) (z08 (i:=5) (z0c (zhx T) T.zcE hr rfl (z03 (z01 4) z07)) z1I.nd rfl (Or.inl rfl) rfl (Or.inl rfl)))
   (z05 (z0i (rels:=[]) (z08 (i:=6) (p_op z3B (p_ix (z01 2) (z01 5) (fun _ _=>rfl)) (p_ix (z01 4) (z01 5) (fun _ _=>rfl))) z1I.nd rfl (Or.inr rfl) rfl (Or.inl rfl)))
   (z05 (z0i (rels:=[]) (z08 (i:=2) (z1h (g:=(Tg.one 0)) (z0h (N:=["_law_k", "_law_left", "_law_many", "_law_one"]) (nt:=1) (js:=[2,6,4]) ["_law_rows", "_law_row_here", "_law_left", "_law_made", "_law_one", "_law_at", "_law_many"] (z06 z4Z).names rfl rfl rfl (by decide +kernel)) rfl (z2P rfl T.z2D (z0A z1S rfl T.z1Y (by decide +kernel) (z03 (z01 2) z07))) (fun _ _ _ _ _=>z13 (ndp ["_law_k", "_law_left", "_law_many", "_law_one"]) rfl (Or.inl rfl) (Or.inr rfl)) (show 0<1 by decide) (fun _ _ _ _ _=>z0Q) (fun _ _ _ _ _=>(p_op zbo (p_ix (z01 1) (z01 0) (fun _ _=>rfl)) (p_op z53 (z01 2) (p_ix (z01 3) (z01 0) (fun _ _=>rfl))))) (jlt [2,6,4] 7)) z1I.nd rfl (Or.inr rfl) rfl (Or.inl rfl)))
   (z0a (s_wr1 (i:=3) zim F.slot_list_append F.type_list_append rfl (Or.inl rfl) (z01 6)))))))
   (z0a (z0m (z01 3)))))))
theorem zhy(T:Facts K mg A):FnOk P w K mg base CX0 1 A.zcy A.zcz ["_law_rows"] (spc K true z4r) :=
 Fun.dat (k:=0) (F:=z8s) T.zcF.fn z17 rfl rfl (fun cdv A outer s H E hr=>have hu:=hr.units
  (z05 (zbs (z3k (i:=1) (g:=(Tg.one 0)) z17.nd rfl rfl rfl (z0h (N:=["_law_row_here"]) (nt:=1) (js:=[]) ["_law_rows", "_law_made", "_law_before", "_law_k", "_law_at", "_law_kept", "_law_j", "_law_row_here", "_law_some"] (z06 z3p).names rfl rfl rfl (by decide +kernel)) rfl (z1Z (z01 0)) (fun _ _ _ _ _=>z13 (ndp ["_law_row_here"]) rfl (Or.inl rfl) (Or.inr rfl)) (show 0<1 by decide) (fun _ _ _ _ _=>z0Q) (fun _ _ _ _ _=>(z1c z6R rfl T.z3g (by decide +kernel) (z03 (z01 0) z07))) (jlt [] 9)))
   (z05 (z0i (rels:=[]) (z08 (i:=2) z0b z17.nd rfl (Or.inr rfl) rfl (Or.inl rfl)))
   (z05 (zio (g:=(Tg.one 3)) PassesOwn.never rfl (zgZ rfl T.z2D (z0A z1S rfl T.z1Y (by decide +kernel) (z03 (z01 1) z07))) (z13 z17.nd rfl (Or.inr rfl) (Or.inl rfl)) (z05 (z0i (rels:=[]) (z08 (i:=4) (z01 3) z17.nd rfl (Or.inl rfl) rfl (Or.inl rfl)))
   (z05 (z7s PassesOwn.never (PFW.pt (zi0 (z0I o_lt (z01 4) (z0A z1S rfl T.z1Y (by decide +kernel) (z03 (z01 1) z07)) (z0o _)) (zcQ (z0I (o_eq hu) (p_ix (p_ix (z01 1) (z01 4) (fun _ _=>rfl)) (z01 3) (fun _ _=>rfl)) z0b (z0o _))))) (z0a (z0i (rels:=[]) (z08 (i:=4) (p_op z31 (z01 4) z0b) z17.nd rfl (Or.inl rfl) rfl (Or.inl rfl)))))
   (z05 (s_if (z0I (o_eq hu) (z01 4) (z0A z1S rfl T.z1Y (by decide +kernel) (z03 (z01 1) z07)) (z0o _)) (z0a (z0m z0b)) z0K)
   (z05 (zir (i:=1) (iy:=5) rfl (Or.inl rfl) (z01 4) (fun _ _=>rfl) z17.nd rfl (Or.inr rfl))
   (z05 (s_move (i:=1) rfl (Or.inl rfl) (z01 4) (z01 3) (fun _ _=>rfl))
   (z05 (zin (i:=1) rfl (Or.inl rfl) (z01 3) (z01 5))
   (z05 (zio (g:=(Tg.one 6)) PassesOwn.never rfl (zh rfl T.z2D (p_op z31 (z01 3) z0b) (z0A z1S rfl T.z1Y (by decide +kernel) (z03 (z01 1) z07))) (z13 z17.nd rfl (Or.inl rfl) (Or.inl rfl)) (z05 (zir (i:=1) (iy:=7) rfl (Or.inl rfl) (z01 6) (fun _ _=>rfl) z17.nd rfl (Or.inr rfl))
   (z05 (z0i (rels:=[]) (z3k (i:=8) (g:=(Tg.one 0)) z17.nd rfl rfl rfl (z0h (N:=["_law_i", "_law_row_here", "_law_kept", "_law_k"]) (nt:=1) (js:=[7,5,3]) ["_law_rows", "_law_made", "_law_before", "_law_k", "_law_at", "_law_kept", "_law_j", "_law_row_here", "_law_some"] (z06 z3p).names rfl rfl rfl (by decide +kernel)) rfl (z2P rfl T.z2D (z0A z1S rfl T.z1Y (by decide +kernel) (z03 (z01 7) z07))) (fun _ _ _ _ _=>z13 (ndp ["_law_i", "_law_row_here", "_law_kept", "_law_k"]) rfl (Or.inl rfl) (Or.inr rfl)) (show 0<1 by decide) (fun _ _ _ _ _=>z0Q) (fun _ _ _ _ _=>(p_op zbo (p_op z53 (p_ix (z01 1) (z01 0) (fun _ _=>rfl)) (p_ix (z01 2) (z01 3) (fun _ _=>rfl))) (p_op z53 (p_ix (z01 1) (z01 3) (fun _ _=>rfl)) (p_ix (z01 2) (z01 0) (fun _ _=>rfl))))) (jlt [7,5,3] 9)))
   (z0a (zin (i:=1) rfl (Or.inl rfl) (z01 6) (z1h (g:=(Tg.one 0)) (z0h (N:=["_law_number_here", "_law_before"]) (nt:=1) (js:=[2]) ["_law_rows", "_law_made", "_law_before", "_law_k", "_law_at", "_law_kept", "_law_j", "_law_row_here", "_law_some"] (z06 z3p).names rfl rfl rfl (by decide +kernel)) rfl (z1Z (z01 8)) (fun _ _ _ _ _=>z13 (ndp ["_law_number_here", "_law_before"]) rfl (Or.inl rfl) (Or.inr rfl)) (show 0<1 by decide) (fun _ _ _ _ _=>z0Q) (fun _ _ _ _ _=>(p_op z3B (z01 0) (z01 1))) (jlt [2] 9)))))))
   (z0a (z0i (rels:=[]) (z08 (i:=2) (p_ix (z01 5) (z01 3) (fun _ _=>rfl)) z17.nd rfl (Or.inr rfl) rfl (Or.inl rfl))))))))))))
   (z0a (z0m (z0A c_abs rfl T.n_abs (by decide +kernel) (z03 (z01 2) z07))))))))
theorem z2A(T:Facts K mg A):FnOk P w K mg base CX0 9 A.z7g A.z7h ["_law_one", "_law_other"] (spc K true z0Z) :=
 Fun.dat (k:=8) (F:=z4s) T.z2m.fn z1v rfl rfl (fun cdv A outer s H E hr=>have hu:=hr.units
  (z05 (s_if (z0I o_notB (z0c (z9Y T) T.z8Z hr rfl (z03 (z01 0) (z03 (z01 1) z07))) p_bl (z0o _)) (z0a (z0m z0b)) z0K)
   (z05 (z0i (rels:=[]) (z08 (i:=2) (z0c (zch T) T.z9 hr rfl (z03 (z01 0) (z03 (z01 1) z07))) z1v.nd rfl (Or.inl rfl) rfl (Or.inl rfl)))
   (z05 (z0i (rels:=[]) (z08 (i:=3) (z0c (z2l T) T.z2E hr rfl (z03 (z01 0) z07)) z1v.nd rfl (Or.inl rfl) rfl (Or.inl rfl)))
   (z05 (z0i (rels:=[]) (z08 (i:=4) (z0c (z2l T) T.z2E hr rfl (z03 (z01 1) z07)) z1v.nd rfl (Or.inr rfl) rfl (Or.inl rfl)))
   (z05 (s_if (z0I o_lt (z0A z1S rfl T.z1Y (by decide +kernel) (z03 (z01 3) z07)) (z0A z1S rfl T.z1Y (by decide +kernel) (z03 (z01 4) z07)) (z0o _)) (z0a (z0m (p_ix (z46 (z03 z0b (z03 z9h z07))) (z1c c_int rfl T.zlf (by decide +kernel) (z03 (z9i o_isN (z01 2) z9h (z0o _)) z07)) (fun _ _=>rfl)))) z0K)
   (z05 (s_if (PFW.pt (w_or (z9l (z9k (z0c (zdp T) T.zan hr rfl (z03 (z01 2) z07)) (fun _=>rfl))) (zbp (z0I (o_ne hu) (z01 2) (z0c (zhy T) T.zcF hr rfl (z03 (z1h (g:=(Tg.one 0)) (z0h (N:=["_law_row_here", "_law_theirs"]) (nt:=1) (js:=[4]) ["_law_one", "_law_other", "_law_found", "_law_ours", "_law_theirs", "_law_inner", "_law_outer"] (z06 z39).names rfl rfl rfl (by decide +kernel)) rfl (z1Z (z01 3)) (fun _ _ _ _ _=>z13 (ndp ["_law_row_here", "_law_theirs"]) rfl (Or.inl rfl) (Or.inr rfl)) (show 0<1 by decide) (fun _ _ _ _ _=>z0Q) (fun _ _ _ _ _=>(z0c (zdq T) T.zao hr rfl (z03 (z01 1) (z03 (z01 0) z07)))) (jlt [4] 7)) z07)) (z0o _))))) (z0a (z0m z0b)) z0K)
   (z05 (z0i (rels:=[]) (z08 (i:=5) (z0c (z74 T) T.z5x hr rfl (z03 (z01 0) z07)) z1v.nd rfl (Or.inl rfl) rfl (Or.inl rfl)))
   (z05 (z0i (rels:=[]) (z08 (i:=6) (z0c (z74 T) T.z5x hr rfl (z03 (z01 1) z07)) z1v.nd rfl (Or.inl rfl) rfl (Or.inl rfl)))
   (z05 (s_if (PFW.pt (zi0 (z0I o_notN (z01 5) z9h (z0o _)) (zcQ (PFW.pt (w_or (z0I o_isN (z01 6) z9h (z0o _)) (zbp (z0I (o_ne hu) (z01 5) (p_op z53 (z01 6) (z01 2)) (z0o _)))))))) (z0a (z0m z0b)) z0K)
   (z0a (z0m (z01 2)))))))))))))
theorem ok_law(T:Facts K mg A):FnOk P w K mg base CX0 10 A.a_law A.zgB ["_law_script"] (spc K true zbY) :=
 Fun.dat (k:=9) (F:=ziV) T.f_law.fn z3f rfl rfl (fun cdv A outer s H E hr=>have hu:=hr.units
  (z05 (z0i (rels:=[]) (z08 (i:=1) (z0c (zjg T) T.zgD hr rfl (z03 (z01 0) z07)) z3f.nd rfl (Or.inl rfl) rfl (Or.inl rfl)))
   (z05 (z0i (rels:=[]) (z08 (i:=2) (z0c (z8I T) T.z6O hr rfl (z03 (p_ix (z01 1) z0b (fun _ _=>rfl)) (z03 (z0c (z75 T) T.z5y hr rfl (z03 (p_ix (z01 1) z0b (fun _ _=>rfl)) z07)) z07))) z3f.nd rfl (Or.inl rfl) rfl (Or.inl rfl)))
   (z05 (z0i (rels:=[]) (z08 (i:=3) (z0c (z8I T) T.z6O hr rfl (z03 (p_ix (z01 1) z0b (fun _ _=>rfl)) (z03 (z0c (z75 T) T.z5y hr rfl (z03 (p_ix (z01 1) z0b (fun _ _=>rfl)) z07)) z07))) z3f.nd rfl (Or.inl rfl) rfl (Or.inl rfl)))
   (z05 (z0i (rels:=[]) (z08 (i:=4) (z0c (ok_met T) T.f_met hr rfl (z03 (z01 2) (z03 (z01 3) z07))) z3f.nd rfl (Or.inl rfl) rfl (Or.inl rfl)))
   (z05 (z0i (rels:=[]) (z08 (i:=5) (z0c (zhw T) T.zcD hr rfl (z03 (z01 2) (z03 (z01 3) z07))) z3f.nd rfl (Or.inl rfl) rfl (Or.inl rfl)))
   (z05 (z0i (rels:=[]) (z08 (i:=6) (z0c (z2A T) T.z2m hr rfl (z03 (z01 4) (z03 (z01 2) z07))) z3f.nd rfl (Or.inl rfl) rfl (Or.inl rfl)))
   (z05 (z0i (rels:=[]) (z08 (i:=7) (z0c (z2A T) T.z2m hr rfl (z03 (z01 3) (z03 (z01 5) z07))) z3f.nd rfl (Or.inl rfl) rfl (Or.inl rfl)))
   (z05 (s_if (PFW.pt (w_or (z0I (o_eq hu) (z01 6) z0b (z0o _)) (w_or (z0I (o_eq hu) (z01 7) z0b (z0o _)) (zbp (z0I (o_ne hu) (z01 6) (z01 7) (z0o _)))))) (z0a (z0m p_bl)) z0K)
   (z05 (z0i (rels:=[]) (z08 (i:=6) (z0c (z2A T) T.z2m hr rfl (z03 (z01 4) (z03 (z01 3) z07))) z3f.nd rfl (Or.inl rfl) rfl (Or.inl rfl)))
   (z05 (z0i (rels:=[]) (z08 (i:=7) (z0c (z2A T) T.z2m hr rfl (z03 (z01 2) (z03 (z01 5) z07))) z3f.nd rfl (Or.inl rfl) rfl (Or.inl rfl)))
   (z0a (z0m (z9m (z9i (o_ne hu) (z01 6) z0b (z0o _)) (z9m (z9i (o_ne hu) (z01 7) z0b (z0o _)) (zbq (z9i (o_eq hu) (z01 6) (z01 7) (z0o _))))))))))))))))))
end
theorem zjh{l:PySem.W.OpenLaw}{w:World}{K:PySem.W.Frag}{h:Heap}{mg:Str→Option Value}{fa:Addr}(X:K.In h)(G:h.Ns mainGlobals mg)(hfa:mg "law" = some (.ref fa))
  {a0:Addr} (h0:Dh K "is_whole" z5o a0)
  {a1:Addr} (h1:Dh K "is_row" z64 a1)
  {a2:Addr} (h2:Dh K "noughts" z4W a2)
  {a3:Addr} (h3:Dh K "added" z7C a3)
  {a4:Addr} (h4:Dh K "taken" z7D a4)
  {a5:Addr} (h5:Dh K "scaled" z65 a5)
  {a6:Addr} (h6:Dh K "head_at" z6D a6)
  {a7:Addr} (h7:Dh K "are_kinds" z4t a7)
  {a8:Addr} (h8:Dh K "is_bill" z4X a8)
  {a9:Addr} (h9:Dh K "need_kinds" z3Q a9)
  {a10:Addr} (h10:Dh K "need_bill" z4u a10)
  {a11:Addr} (h11:Dh K "hall_by" z4Y a11)
  {a12:Addr} (h12:Dh K "hall_of" z6E a12)
  {a13:Addr} (h13:Dh K "bridge" z4v a13)
  {a14:Addr} (h14:Dh K "product" z6F a14)
  {a15:Addr} (h15:Dh K "lowering" z5q a15)
  {a16:Addr} (h16:Dh K "lowered" z6G a16)
  {a17:Addr} (h17:Dh K "crossed" z6H a17)
  {a18:Addr} (h18:Dh K "turned_up" z4w a18)
  {a19:Addr} (h19:Dh K "with_row" z3S a19)
  {a20:Addr} (h20:Dh K "evened" z8E a20)
  {a21:Addr} (h21:Dh K "climbed" z6J a21)
  {a22:Addr} (h22:Dh K "tagged_stair" z1X a22)
  {a23:Addr} (h23:Dh K "tags_at_nought" z1u a23)
  {a24:Addr} (h24:Dh K "heads_product" z1E a24)
  {a25:Addr} (h25:Dh K "stair" zb0 a25)
  {a26:Addr} (h26:Dh K "need_like" z4x a26)
  {a27:Addr} (h27:Dh K "joined" z8F a27)
  {a28:Addr} (h28:Dh K "met" zgq a28)
  {a29:Addr} (h29:Dh K "within" z67 a29)
  {a30:Addr} (h30:Dh K "index_in" z5r a30)
  {a31:Addr} (h31:Dh K "how_many" z5s a31)
  {a32:Addr} (h32:Dh K "_law_cell_at" z4z a32)
  {a33:Addr} (h33:Dh K "_law_whole" z6L a33)
  {a34:Addr} (h34:Dh K "_law_number" z5t a34)
  {a35:Addr} (h35:Dh K "_law_row" z7E a35)
  {a36:Addr} (h36:Dh K "_law_two" z68 a36)
  {a37:Addr} (h37:Dh K "_law_copied" z3U a37)
  {a38:Addr} (h38:Dh K "_law_head" z8G a38)
  {a39:Addr} (h39:Dh K "_law_times" z4Z a39)
  {a40:Addr} (h40:Dh K "_law_size" z3p a40)
  {a41:Addr} (h41:Dh K "_law_indexed" z39 a41)
  {a42:Addr} (h42:Dh K "law" zje a42)
  (z_abs:PySem.W.nsIn K mainGlobals "abs" = some none)
  (z_all:PySem.W.nsIn K mainGlobals "all" = some none)
  (z_bool:PySem.W.nsIn K mainGlobals "bool" = some none)
  (z_enumerate:PySem.W.nsIn K mainGlobals "enumerate" = some none)
  (z_int:PySem.W.nsIn K mainGlobals "int" = some none)
  (z_isinstance:PySem.W.nsIn K mainGlobals "isinstance" = some none)
  (z_len:PySem.W.nsIn K mainGlobals "len" = some none)
  (z_list:PySem.W.nsIn K mainGlobals "list" = some none)
  (z7B:PySem.W.nsIn K mainGlobals "range" = some none)
  (z_reversed:PySem.W.nsIn K mainGlobals "reversed" = some none)
  (z_sorted:PySem.W.nsIn K mainGlobals "sorted" = some none)
  (z_tuple:PySem.W.nsIn K mainGlobals "tuple" = some none)
  (z_zip:PySem.W.nsIn K mainGlobals "zip" = some none)
  {z2B:Tok} (y_MOST_BILLS:PySem.W.nsIn K mainGlobals "MOST_BILLS" = some (some (.int 8 z2B)))
  {z2C:Tok} (y_MOST_KINDS:PySem.W.nsIn K mainGlobals "MOST_KINDS" = some (some (.int 6 z2C)))
  : ∃ fd:FuncData,(∀(s:Shared) (u:Value),BindsTo s fd ⟨[u],[]⟩ [("_law_script",u)])∧∀ base:Heap,K.In base→base.Ns mainGlobals mg→FnOk l.prog w K mg base CX0 10 fa fd ["_law_script"] (spc K true zbY):=by
 obtain⟨d0,q0,b0⟩:=h0.df (ps:=["value"]) X G (fun _ _ _ _ _ _=>us1 (fun _=>rfl))
 obtain⟨d1,q1,b1⟩:=h1.df (ps:=["value", "length"]) X G (fun _ _ _ _ _ _=>us2 (fun _ _=>rfl))
 obtain⟨d2,q2,b2⟩:=h2.df (ps:=["length"]) X G (fun _ _ _ _ _ _=>us1 (fun _=>rfl))
 obtain⟨d3,q3,b3⟩:=h3.df (ps:=["one", "other"]) X G (fun _ _ _ _ _ _=>us2 (fun _ _=>rfl))
 obtain⟨d4,q4,b4⟩:=h4.df (ps:=["one", "other"]) X G (fun _ _ _ _ _ _=>us2 (fun _ _=>rfl))
 obtain⟨d5,q5,b5⟩:=h5.df (ps:=["row", "often"]) X G (fun _ _ _ _ _ _=>us2 (fun _ _=>rfl))
 obtain⟨d6,q6,b6⟩:=h6.df (ps:=["row"]) X G (fun _ _ _ _ _ _=>us1 (fun _=>rfl))
 obtain⟨d7,q7,b7⟩:=h7.df (ps:=["value"]) X G (fun _ _ _ _ _ _=>us1 (fun _=>rfl))
 obtain⟨d8,q8,b8⟩:=h8.df (ps:=["value", "kinds"]) X G (fun _ _ _ _ _ _=>us2 (fun _ _=>rfl))
 obtain⟨d9,q9,b9⟩:=h9.df (ps:=["kinds"]) X G (fun _ _ _ _ _ _=>us1 (fun _=>rfl))
 obtain⟨d10,q10,b10⟩:=h10.df (ps:=["bill", "kinds"]) X G (fun _ _ _ _ _ _=>us2 (fun _ _=>rfl))
 obtain⟨d11,q11,b11⟩:=h11.df (ps:=["kinds", "rows"]) X G (fun _ _ _ _ _ _=>us2 (fun _ _=>rfl))
 obtain⟨d12,q12,b12⟩:=h12.df (ps:=["kinds", "bills"]) X G (fun _ _ _ _ _ _=>us2 (fun _ _=>rfl))
 obtain⟨d13,q13,b13⟩:=h13.df (ps:=["a", "b"]) X G (fun _ _ _ _ _ _=>us2 (fun _ _=>rfl))
 obtain⟨d14,q14,b14⟩:=h14.df (ps:=["numbers"]) X G (fun _ _ _ _ _ _=>us1 (fun _=>rfl))
 obtain⟨d15,q15,b15⟩:=h15.df (ps:=["row", "rungs"]) X G (fun _ _ _ _ _ _=>us2 (fun _ _=>rfl))
 obtain⟨d16,q16,b16⟩:=h16.df (ps:=["row", "rungs"]) X G (fun _ _ _ _ _ _=>us2 (fun _ _=>rfl))
 obtain⟨d17,q17,b17⟩:=h17.df (ps:=["rung", "row"]) X G (fun _ _ _ _ _ _=>us2 (fun _ _=>rfl))
 obtain⟨d18,q18,b18⟩:=h18.df (ps:=["row"]) X G (fun _ _ _ _ _ _=>us1 (fun _=>rfl))
 obtain⟨d19,q19,b19⟩:=h19.df (ps:=["rungs", "row"]) X G (fun _ _ _ _ _ _=>us2 (fun _ _=>rfl))
 obtain⟨d20,q20,b20⟩:=h20.df (ps:=["rungs"]) X G (fun _ _ _ _ _ _=>us1 (fun _=>rfl))
 obtain⟨d21,q21,b21⟩:=h21.df (ps:=["rows"]) X G (fun _ _ _ _ _ _=>us1 (fun _=>rfl))
 obtain⟨d22,q22,b22⟩:=h22.df (ps:=["rows", "tags"]) X G (fun _ _ _ _ _ _=>us2 (fun _ _=>rfl))
 obtain⟨d23,q23,b23⟩:=h23.df (ps:=["rungs", "width"]) X G (fun _ _ _ _ _ _=>us2 (fun _ _=>rfl))
 obtain⟨d24,q24,b24⟩:=h24.df (ps:=["rungs"]) X G (fun _ _ _ _ _ _=>us1 (fun _=>rfl))
 obtain⟨d25,q25,b25⟩:=h25.df (ps:=["hall"]) X G (fun _ _ _ _ _ _=>us1 (fun _=>rfl))
 obtain⟨d26,q26,b26⟩:=h26.df (ps:=["one", "other"]) X G (fun _ _ _ _ _ _=>us2 (fun _ _=>rfl))
 obtain⟨d27,q27,b27⟩:=h27.df (ps:=["one", "other"]) X G (fun _ _ _ _ _ _=>us2 (fun _ _=>rfl))
 obtain⟨d28,q28,b28⟩:=h28.df (ps:=["one", "other"]) X G (fun _ _ _ _ _ _=>us2 (fun _ _=>rfl))
 obtain⟨d29,q29,b29⟩:=h29.df (ps:=["one", "other"]) X G (fun _ _ _ _ _ _=>us2 (fun _ _=>rfl))
 obtain⟨d30,q30,b30⟩:=h30.df (ps:=["one", "other"]) X G (fun _ _ _ _ _ _=>us2 (fun _ _=>rfl))
 obtain⟨d31,q31,b31⟩:=h31.df (ps:=["hall"]) X G (fun _ _ _ _ _ _=>us1 (fun _=>rfl))
 obtain⟨d32,q32,b32⟩:=h32.df (ps:=["_law_script", "_law_k"]) X G (fun _ _ _ _ _ _=>us2 (fun _ _=>rfl))
 obtain⟨d33,q33,b33⟩:=h33.df (ps:=["_law_found"]) X G (fun _ _ _ _ _ _=>us1 (fun _=>rfl))
 obtain⟨d34,q34,b34⟩:=h34.df (ps:=["_law_cell", "_law_mode"]) X G (fun _ _ _ _ _ _=>us2 (fun _ _=>rfl))
 obtain⟨d35,q35,b35⟩:=h35.df (ps:=["_law_script", "_law_at", "_law_size_here", "_law_mode"]) X G (fun _ _ _ _ _ _=>us4 (fun _ _ _ _=>rfl))
 obtain⟨d36,q36,b36⟩:=h36.df (ps:=["_law_script"]) X G (fun _ _ _ _ _ _=>us1 (fun _=>rfl))
 obtain⟨d37,q37,b37⟩:=h37.df (ps:=["_law_rows"]) X G (fun _ _ _ _ _ _=>us1 (fun _=>rfl))
 obtain⟨d38,q38,b38⟩:=h38.df (ps:=["_law_row_here"]) X G (fun _ _ _ _ _ _=>us1 (fun _=>rfl))
 obtain⟨d39,q39,b39⟩:=h39.df (ps:=["_law_rows", "_law_row_here"]) X G (fun _ _ _ _ _ _=>us2 (fun _ _=>rfl))
 obtain⟨d40,q40,b40⟩:=h40.df (ps:=["_law_rows"]) X G (fun _ _ _ _ _ _=>us1 (fun _=>rfl))
 obtain⟨d41,q41,b41⟩:=h41.df (ps:=["_law_one", "_law_other"]) X G (fun _ _ _ _ _ _=>us2 (fun _ _=>rfl))
 obtain⟨d42,q42,b42⟩:=h42.df (ps:=["_law_script"]) X G (fun _ _ _ _ _ _=>us1 (fun _=>rfl))
 have key:∃ A:Adr,Facts K mg A∧∀(s:Shared) (u:Value),BindsTo s A.zgB ⟨[u],[]⟩ [("_law_script",u)]:=⟨⟨a0,d0,a1,d1,a2,d2,a3,d3,a4,d4,a5,d5,a6,d6,a7,d7,a8,d8,a9,d9,a10,d10,a11,d11,a12,d12,a13,d13,a14,d14,a15,d15,a16,d16,a17,d17,a18,d18,a19,d19,a20,d20,a21,d21,a22,d22,a23,d23,a24,d24,a25,d25,a26,d26,a27,d27,a28,d28,a29,d29,a30,d30,a31,d31,a32,d32,a33,d33,a34,d34,a35,d35,a36,d36,a37,d37,a38,d38,a39,d39,a40,d40,a41,d41,a42,d42,z2B,z2C⟩,⟨PySem.W.mg_none_of X G z_abs,PySem.W.mg_none_of X G z_all,PySem.W.mg_none_of X G z_bool,PySem.W.mg_none_of X G z_enumerate,PySem.W.mg_none_of X G z_int,PySem.W.mg_none_of X G z_isinstance,PySem.W.mg_none_of X G z_len,PySem.W.mg_none_of X G z_list,PySem.W.mg_none_of X G z7B,PySem.W.mg_none_of X G z_reversed,PySem.W.mg_none_of X G z_sorted,PySem.W.mg_none_of X G z_tuple,PySem.W.mg_none_of X G z_zip,PySem.W.mg_of X G y_MOST_BILLS,PySem.W.mg_of X G y_MOST_KINDS,q0,q1,q2,q3,q4,q5,q6,q7,q8,q9,q10,q11,q12,q13,q14,q15,q16,q17,q18,q19,q20,q21,q22,q23,q24,q25,q26,q27,q28,q29,q30,q31,q32,q33,q34,q35,q36,q37,q38,q39,q40,q41,q42⟩,fun s u => .of_eq (b42 [u] rfl)⟩
 obtain⟨A,FF,hb⟩:=key
 have e:=hfa.symm.trans FF.f_law.mg
 cases e
 exact⟨A.zgB,hb,fun base _ _=>ok_law FF⟩
namespace H
noncomputable section
open PySem PySem.W PySem.Calls PyProof.Rows
abbrev pw:Program:=PySem.Challenge.pw_changehall_k24_whole_indexes
abbrev vs(s:String)(t:Nat):Value := .str (Str.ofString s) t
abbrev de(P:Params)(s:String)(t:Nat)(v:Value):DictEntry:=⟨PyData.keyHash P (Str.ofString s),.str (Str.ofString s) t,v⟩
abbrev N:=BT.node
abbrev E:=BT.nil
abbrev ins(t:BT)(l:List (Nat×Obj)):BT:=l.foldl (fun t x=>t.ins x.1 x.2) t
def fdT(s:Stmt)(g:Addr)(md cd:Value):FuncData:=match s with
 | .FunctionDef name args body _ _ _ scope _ _ _=>{ name:=name,qualname:=name,params:=args,body := .stmts body,scope:=scope,globals:=g,closure:=[],defaults := .none,kwdefaults := .none,pyModule:=md,code:=cd }
 | _=>default
abbrev tu(l:List Value):Obj:=⟨.type "tuple",none,.seq l.toArray 0,#[]⟩
abbrev fi(l:List Value):Obj:=⟨.none,none,.fields l.toArray,#[]⟩
abbrev fo(c:Value)(i:Nat)(g:Addr)(md cd:Value):Obj:=⟨c,none,.func (fdT (top i) g md cd),#[]⟩
abbrev co(a f:String)(t0 t1 t2:Nat)(l n z:Int)(r:Addr)(u:Bool)(v:Int)(s:Addr)(p q1 q2 q3:Value)(w:Int)(t3:Nat):Obj:=⟨.type "code",none,.fields #[vs a t0,vs a t1,vs f t2,.int l 0,.int n 0,.int 0 0,.int 0 0,.int z 0,.ref r,.bool u,.int v 0,.ref s,p,q1,q2,q3,.int w 0,.int l 0,vs f t3],#[]⟩
theorem te_go:@topGo=Fast.tw15667345088766844465:=Fast.te15667345088766844465
theorem te_sr:@segRun=Fast.tw14374325043358763698:=Fast.te14374325043358763698
theorem te_sT:@segRunT=Fast.tw10110043849684766642:=Fast.te10110043849684766642
theorem te_tr:@topRun=Fast.tw14082659384304107361:=Fast.te14082659384304107361
theorem te_tb:treeTable=Fast.tw14364793385576792824:=Fast.te14364793385576792824
theorem te_im:@importedModules=Fast.tw5923862056798008813:=Fast.te5923862056798008813
theorem te_seen:@seen=Fast.tw5160383126252970620:=Fast.te5160383126252970620
theorem te_recs:@recsOf=Fast.tw3399658132070893891:=Fast.te3399658132070893891
theorem te_owns:@ownsOf=Fast.tw5991557255702980513:=Fast.te5991557255702980513
theorem te_keys:@Heap.keysOk=Fast.tw10880121769531294198:=Fast.te10880121769531294198
theorem te_loose:@looseW=Fast.tw821141287760084731:=Fast.te821141287760084731
theorem te_lits:@litsOf=Fast.tw7409074990110511671:=Fast.te7409074990110511671
theorem te_clss:@clssOf=Fast.tw13664370479719496447:=Fast.te13664370479719496447
theorem te_acc:@Heap.accountedOkI=Fast.tw14722251495701143533:=Fast.te14722251495701143533
theorem te_tabl:@tablesOk=Fast.tw10994771534591457954:=Fast.te10994771534591457954
theorem te_tabs:@tabsOk=Fast.tw479339242167458305:=Fast.te479339242167458305
theorem te_pin:@pinSeenD=Fast.tw16090120013241838585:=Fast.te16090120013241838585
theorem te_drecs:@drecsOf=Fast.tw3247288618530077131:=Fast.te3247288618530077131
theorem te_pE:@plainSeenE=Fast.tw2386780881361962483:=Fast.te2386780881361962483
theorem te_pD:@plainSeenD=Fast.tw11698064438423848299:=Fast.te11698064438423848299
theorem te_wide:@wideSeen=Fast.tw7317090234206586261:=Fast.te7317090234206586261
theorem te_cls:@clsSeenW=Fast.tw7369524293546568484:=Fast.te7369524293546568484
theorem te_den:@denote=Fast.tw11892475500146522536:=Fast.te11892475500146522536
theorem te_ns:@Heap.nsMap=Fast.tw8920871248978507458:=Fast.te8920871248978507458
abbrev env:Env:={ scope:=pw.main.scope,locals:=mainNs,globals:=mainNs,cells:=[],code := .ref 13,frame:=some 14 }
abbrev cE:Code := .body (behindTheImports pw) env
abbrev fB:List Frame:=[topFrame ⟨0,0,0,0⟩]
abbrev ann:Option Value:=some (.ref 6)
abbrev o11a:=tu []
abbrev o12aL:List Value:=[]
abbrev o12a:=fi o12aL
abbrev o13a:=co "<module>" "/claim/cut.py" 182 183 184 1 0 0 11 false 181 12 .none .none .none .none 185 186
abbrev o14a:Obj:=⟨.type "frame",none,.plain,#[Option.some (PySem.Value.ref 13),Option.some (PySem.Value.ref 3),Option.some (PySem.Value.ref 3),Option.none,Option.some (PySem.Value.str (PySem.Str.ofString "__main__") 164),Option.none,Option.some (PySem.Value.ref 0)]⟩
abbrev ha(P:Params):Heap:=⟨⟨[boot_o_0 P,boot_o_1 P,boot_o_2 P,boot_o_3 P,boot_o_4 P,boot_o_5 P,boot_o_6 P,boot_o_7 P,boot_o_8 P,boot_o_9 P,boot_o_10 P,o11a,o12a,o13a,o14a]⟩,{ }⟩
theorem run_a(w:World)(os:OsState):topGo treeTable pw w 11 ann 12 ⟨boot_heap w.params,#[],boot_drawn,boot_toks,os⟩ (topStub pw)=some (⟨ha w.params,#[],{ },187,os⟩,⟨denote treeTable cE,cE,⟨0,0,0,0⟩,fB⟩):=by
 rewrite[te_go,te_den,te_tb];kernel_rfl
abbrev t0(P:Params):BT:=(N (boot_o_0 P) (N (boot_o_1 P) (N (boot_o_3 P) (N (boot_o_7 P) E E) (N (o11a) E E)) (N (boot_o_5 P) (N (boot_o_9 P) E E) (N (o13a) E E))) (N (boot_o_2 P) (N (boot_o_4 P) (N (boot_o_8 P) E E) (N (o12a) E E)) (N (boot_o_6 P) (N (boot_o_10 P) E E) (N (o14a) E E))))
abbrev s0(w:World)(os:OsState):SharedT:=⟨t0 w.params,15,{ },#[],{ },187,os⟩
theorem run_b(w:World)(os:OsState):segRun treeTable pw w 11 ann 1 1 ⟨ha w.params,#[],{ },187,os⟩ (blockOf (behindTheImports pw) env cE ⟨0,0,0,0⟩ fB)=some (.next,(s0 w os).abs,cE,⟨0,0,0,0⟩):=by
 rewrite[te_sr,te_tb];kernel_rfl
abbrev o3_1L(P:Params):List DictEntry:=[de P "__name__" 165 (vs "changehall.errors" 187),de P "__doc__" 166 .none,de P "__package__" 167 .none,de P "__loader__" 168 (.builtin "__main__.__loader__#opaque"),de P "__spec__" 169 .none,de P "__annotations__" 170 (.ref 6),de P "__builtins__" 171 (.ref 4),de P "__file__" 173 (vs "/claim/cut.py" 172),de P "__cached__" 174 .none,de P "HallError" 206 (.ref 24)]
abbrev o3_1(P:Params):Obj:=⟨.type "dict",none,.dict (o3_1L P).toArray 10,#[]⟩
abbrev zji:List Value:=o12aL++[.int 2 0,.int 0 0,.ref 20]
abbrev o12_1:=fi zji
abbrev zjj:=tu [.type "ValueError"]
abbrev o16_1:Obj:=⟨.type "builtin_function_or_method",none,.fields #[.builtin "type.__prepare__",.type "type"],#[]⟩
abbrev o17_1L(P:Params):List DictEntry:=[de P "__module__" 196 (vs "changehall.errors" 187),de P "__qualname__" 198 (vs "HallError" 197),de P "__firstlineno__" 200 (.int 2 199),de P "__static_attributes__" 201 (.ref 22)]
abbrev o17_1(P:Params):Obj:=⟨.type "dict",none,.dict (o17_1L P).toArray 4,#[]⟩
abbrev o18_1:=tu []
abbrev o19_1:=fi []
abbrev o20_1:=co "HallError" "/claim/cut.py" 191 192 193 2 0 0 18 false 181 19 .none .none .none .none 194 195
abbrev o21_1:Obj:=⟨.type "frame",none,.plain,#[Option.some (PySem.Value.ref 20),Option.some (PySem.Value.ref 3),Option.some (PySem.Value.ref 17),Option.none,Option.some (PySem.Value.str (PySem.Str.ofString "changehall.errors") 187),Option.none,Option.some (PySem.Value.ref 0)]⟩
abbrev zjk:=tu []
abbrev o23_1L(P:Params):List DictEntry:=[de P "__module__" 196 (vs "changehall.errors" 187),de P "__firstlineno__" 200 (.int 2 199),de P "__static_attributes__" 201 (.ref 22),de P "__weakref__" 203 (.ref 25),de P "__doc__" 204 .none]
abbrev zjl(P:Params):Obj:=⟨.type "dict",none,.dict (o23_1L P).toArray 3,#[]⟩
abbrev o24_1:Obj:=⟨.type "type",none,.cls ({ name:=PySem.Str.ofString "HallError",bases:=[PySem.Value.type "ValueError"],mro:=[PySem.Value.ref 24,PySem.Value.type "ValueError",PySem.Value.type "Exception",PySem.Value.type "BaseException",PySem.Value.type "object"],ns:=23,qualname:=PySem.Str.ofString "HallError" }),#[Option.some (PySem.Value.ref 15),Option.none,Option.some (PySem.Value.str (PySem.Str.ofString "HallError") 189),Option.some (PySem.Value.str (PySem.Str.ofString "HallError") 197),Option.some (PySem.Value.builtin "ValueError.__new__"),Option.some (PySem.Value.bool Bool.true)]⟩
abbrev zjm:Obj:=⟨.type "getset_descriptor",none,.fields #[vs "__weakref__" 202,.ref 24,.builtin "ExceptionGroup.__weakref__",.none],#[]⟩
abbrev o26_1:Obj:=⟨.type "super",none,.fields #[.ref 24,.ref 24,.ref 24],#[]⟩
abbrev o27_1:Obj:=⟨.type "builtin_function_or_method",none,.fields #[.builtin "object.__init_subclass__",.ref 24],#[]⟩
abbrev t1(P:Params):BT:=ins (t0 P) [(3,o3_1 P),(12,o12_1),(15,zjj),(16,o16_1),(17,o17_1 P),(18,o18_1),(19,o19_1),(20,o20_1),(21,o21_1),(22,zjk),(23,zjl P),(24,o24_1),(25,zjm),(26,o26_1),(27,o27_1)]
abbrev s1(w:World)(os:OsState):SharedT:=⟨t1 w.params,28,{ },#[],{ },207,os⟩
abbrev l0:List Stmt:=[top 0,top 1]
theorem run_0(w:World)(os:OsState):segRunT treeTable pw w 11 ann 1 196 (s0 w os) (piecesOf l0 env cE ⟨0,0,0,0⟩ fB)=some (.next,s1 w os,cE,⟨2,0,3,8⟩):=by
 rewrite[te_sT,te_tb];kernel_rfl
abbrev o3_2L(P:Params):List DictEntry:=de P "__name__" 165 (vs "changehall.errors" 187)::(o3_1L P).tail++[de P "NoHall" 222 (.ref 37)]
abbrev o3_2(P:Params):Obj:=⟨.type "dict",none,.dict (o3_2L P).toArray 11,#[]⟩
abbrev zjn:List Value:=zji++[.int 4 0,.int 0 0,.ref 33]
abbrev o12_2:=fi zjn
abbrev o24_2:Obj:=⟨.type "type",none,.cls ({ name:=PySem.Str.ofString "HallError",bases:=[PySem.Value.type "ValueError"],mro:=[PySem.Value.ref 24,PySem.Value.type "ValueError",PySem.Value.type "Exception",PySem.Value.type "BaseException",PySem.Value.type "object"],ns:=23,qualname:=PySem.Str.ofString "HallError",subclasses:=[PySem.Value.ref 37] }),#[Option.some (PySem.Value.ref 15),Option.none,Option.some (PySem.Value.str (PySem.Str.ofString "HallError") 189),Option.some (PySem.Value.str (PySem.Str.ofString "HallError") 197),Option.some (PySem.Value.builtin "ValueError.__new__"),Option.some (PySem.Value.bool Bool.true)]⟩
abbrev zjo:=tu [.ref 24]
abbrev o29_2:Obj:=⟨.type "builtin_function_or_method",none,.fields #[.builtin "type.__prepare__",.type "type"],#[]⟩
abbrev o30_2L(P:Params):List DictEntry:=[de P "__module__" 214 (vs "changehall.errors" 187),de P "__qualname__" 216 (vs "NoHall" 215),de P "__firstlineno__" 218 (.int 4 217),de P "__static_attributes__" 219 (.ref 35)]
abbrev o30_2(P:Params):Obj:=⟨.type "dict",none,.dict (o30_2L P).toArray 4,#[]⟩
abbrev o31_2:=tu []
abbrev o32_2:=fi []
abbrev o33_2:=co "NoHall" "/claim/cut.py" 209 210 211 4 0 0 31 false 181 32 .none .none .none .none 212 213
abbrev o34_2:Obj:=⟨.type "frame",none,.plain,#[Option.some (PySem.Value.ref 33),Option.some (PySem.Value.ref 3),Option.some (PySem.Value.ref 30),Option.none,Option.some (PySem.Value.str (PySem.Str.ofString "changehall.errors") 187),Option.none,Option.some (PySem.Value.ref 0)]⟩
abbrev zjp:=tu []
abbrev o36_2L(P:Params):List DictEntry:=[de P "__module__" 214 (vs "changehall.errors" 187),de P "__firstlineno__" 218 (.int 4 217),de P "__static_attributes__" 219 (.ref 35),de P "__doc__" 220 .none]
abbrev zjq(P:Params):Obj:=⟨.type "dict",none,.dict (o36_2L P).toArray 2,#[]⟩
abbrev zjr:Obj:=⟨.type "type",none,.cls ({ name:=PySem.Str.ofString "NoHall",bases:=[PySem.Value.ref 24],mro:=[PySem.Value.ref 37,PySem.Value.ref 24,PySem.Value.type "ValueError",PySem.Value.type "Exception",PySem.Value.type "BaseException",PySem.Value.type "object"],ns:=36,qualname:=PySem.Str.ofString "NoHall" }),#[Option.some (PySem.Value.ref 28),Option.none,Option.some (PySem.Value.str (PySem.Str.ofString "NoHall") 207),Option.some (PySem.Value.str (PySem.Str.ofString "NoHall") 215),Option.some (PySem.Value.builtin "ValueError.__new__"),Option.some (PySem.Value.bool Bool.true)]⟩
abbrev o38_2:Obj:=⟨.type "super",none,.fields #[.ref 37,.ref 37,.ref 37],#[]⟩
abbrev o39_2:Obj:=⟨.type "builtin_function_or_method",none,.fields #[.builtin "object.__init_subclass__",.ref 37],#[]⟩
abbrev t2(P:Params):BT:=ins (t1 P) [(3,o3_2 P),(12,o12_2),(24,o24_2),(28,zjo),(29,o29_2),(30,o30_2 P),(31,o31_2),(32,o32_2),(33,o33_2),(34,o34_2),(35,zjp),(36,zjq P),(37,zjr),(38,o38_2),(39,o39_2)]
abbrev s2(w:World)(os:OsState):SharedT:=⟨t2 w.params,40,{ },#[],{ },223,os⟩
abbrev l1:List Stmt:=[top 2]
theorem run_1(w:World)(os:OsState):segRunT treeTable pw w 11 ann 1 214 (s1 w os) (piecesOf l1 env cE ⟨2,0,3,8⟩ fB)=some (.next,s2 w os,cE,⟨4,0,5,8⟩):=by
 rewrite[te_sT,te_tb];kernel_rfl
abbrev o3_3L(P:Params):List DictEntry:=de P "__name__" 165 (vs "changehall.errors" 187)::(o3_2L P).tail++[de P "Unlike" 238 (.ref 49)]
abbrev o3_3(P:Params):Obj:=⟨.type "dict",none,.dict (o3_3L P).toArray 12,#[]⟩
abbrev zjs:List Value:=zjn++[.int 6 0,.int 0 0,.ref 45]
abbrev o12_3:=fi zjs
abbrev o24_3:Obj:=⟨.type "type",none,.cls ({ name:=PySem.Str.ofString "HallError",bases:=[PySem.Value.type "ValueError"],mro:=[PySem.Value.ref 24,PySem.Value.type "ValueError",PySem.Value.type "Exception",PySem.Value.type "BaseException",PySem.Value.type "object"],ns:=23,qualname:=PySem.Str.ofString "HallError",subclasses:=[PySem.Value.ref 37,PySem.Value.ref 49] }),#[Option.some (PySem.Value.ref 15),Option.none,Option.some (PySem.Value.str (PySem.Str.ofString "HallError") 189),Option.some (PySem.Value.str (PySem.Str.ofString "HallError") 197),Option.some (PySem.Value.builtin "ValueError.__new__"),Option.some (PySem.Value.bool Bool.true)]⟩
abbrev zjt:=tu [.ref 24]
abbrev o41_3:Obj:=⟨.type "builtin_function_or_method",none,.fields #[.builtin "type.__prepare__",.type "type"],#[]⟩
abbrev o42_3L(P:Params):List DictEntry:=[de P "__module__" 230 (vs "changehall.errors" 187),de P "__qualname__" 232 (vs "Unlike" 231),de P "__firstlineno__" 234 (.int 6 233),de P "__static_attributes__" 235 (.ref 47)]
abbrev o42_3(P:Params):Obj:=⟨.type "dict",none,.dict (o42_3L P).toArray 4,#[]⟩
abbrev o43_3:=tu []
abbrev o44_3:=fi []
abbrev o45_3:=co "Unlike" "/claim/cut.py" 225 226 227 6 0 0 43 false 181 44 .none .none .none .none 228 229
abbrev o46_3:Obj:=⟨.type "frame",none,.plain,#[Option.some (PySem.Value.ref 45),Option.some (PySem.Value.ref 3),Option.some (PySem.Value.ref 42),Option.none,Option.some (PySem.Value.str (PySem.Str.ofString "changehall.errors") 187),Option.none,Option.some (PySem.Value.ref 0)]⟩
abbrev zju:=tu []
abbrev o48_3L(P:Params):List DictEntry:=[de P "__module__" 230 (vs "changehall.errors" 187),de P "__firstlineno__" 234 (.int 6 233),de P "__static_attributes__" 235 (.ref 47),de P "__doc__" 236 .none]
abbrev zjv(P:Params):Obj:=⟨.type "dict",none,.dict (o48_3L P).toArray 2,#[]⟩
abbrev zjw:Obj:=⟨.type "type",none,.cls ({ name:=PySem.Str.ofString "Unlike",bases:=[PySem.Value.ref 24],mro:=[PySem.Value.ref 49,PySem.Value.ref 24,PySem.Value.type "ValueError",PySem.Value.type "Exception",PySem.Value.type "BaseException",PySem.Value.type "object"],ns:=48,qualname:=PySem.Str.ofString "Unlike" }),#[Option.some (PySem.Value.ref 40),Option.none,Option.some (PySem.Value.str (PySem.Str.ofString "Unlike") 223),Option.some (PySem.Value.str (PySem.Str.ofString "Unlike") 231),Option.some (PySem.Value.builtin "ValueError.__new__"),Option.some (PySem.Value.bool Bool.true)]⟩
abbrev o50_3:Obj:=⟨.type "super",none,.fields #[.ref 49,.ref 49,.ref 49],#[]⟩
abbrev o51_3:Obj:=⟨.type "builtin_function_or_method",none,.fields #[.builtin "object.__init_subclass__",.ref 49],#[]⟩
abbrev t3(P:Params):BT:=ins (t2 P) [(3,o3_3 P),(12,o12_3),(24,o24_3),(40,zjt),(41,o41_3),(42,o42_3 P),(43,o43_3),(44,o44_3),(45,o45_3),(46,o46_3),(47,zju),(48,zjv P),(49,zjw),(50,o50_3),(51,o51_3)]
abbrev s3(w:World)(os:OsState):SharedT:=⟨t3 w.params,52,{ },#[],{ },239,os⟩
abbrev l2:List Stmt:=[top 3]
theorem run_2(w:World)(os:OsState):segRunT treeTable pw w 11 ann 1 214 (s2 w os) (piecesOf l2 env cE ⟨4,0,5,8⟩ fB)=some (.next,s3 w os,cE,⟨6,0,7,8⟩):=by
 rewrite[te_sT,te_tb];kernel_rfl
abbrev o3_4L(P:Params):List DictEntry:=de P "__name__" 165 (vs "changehall.rows" 255)::(o3_3L P).tail++[de P "NotWithin" 254 (.ref 61),de P "is_whole" 263 (.ref 70),de P "is_row" 269 (.ref 75),de P "noughts" 275 (.ref 80),de P "added" 281 (.ref 85),de P "taken" 287 (.ref 90),de P "scaled" 293 (.ref 95)]
abbrev o3_4(P:Params):Obj:=⟨.type "dict",none,.dict (o3_4L P).toArray 19,#[]⟩
abbrev zjx:List Value:=zjs++[.int 8 0,.int 0 0,.ref 57,.int 11 0,.int 0 0,.ref 69,.int 13 0,.int 0 0,.ref 74,.int 17 0,.int 0 0,.ref 79,.int 19 0,.int 0 0,.ref 84,.int 21 0,.int 0 0,.ref 89,.int 23 0,.int 0 0,.ref 94]
abbrev o12_4:=fi zjx
abbrev zjy:Obj:=⟨.type "type",none,.cls ({ name:=PySem.Str.ofString "HallError",bases:=[PySem.Value.type "ValueError"],mro:=[PySem.Value.ref 24,PySem.Value.type "ValueError",PySem.Value.type "Exception",PySem.Value.type "BaseException",PySem.Value.type "object"],ns:=23,qualname:=PySem.Str.ofString "HallError",subclasses:=[PySem.Value.ref 37,PySem.Value.ref 49,PySem.Value.ref 61] }),#[Option.some (PySem.Value.ref 15),Option.none,Option.some (PySem.Value.str (PySem.Str.ofString "HallError") 189),Option.some (PySem.Value.str (PySem.Str.ofString "HallError") 197),Option.some (PySem.Value.builtin "ValueError.__new__"),Option.some (PySem.Value.bool Bool.true)]⟩
abbrev zjz:=tu [.ref 24]
abbrev o53_4:Obj:=⟨.type "builtin_function_or_method",none,.fields #[.builtin "type.__prepare__",.type "type"],#[]⟩
abbrev o54_4L(P:Params):List DictEntry:=[de P "__module__" 246 (vs "changehall.errors" 187),de P "__qualname__" 248 (vs "NotWithin" 247),de P "__firstlineno__" 250 (.int 8 249),de P "__static_attributes__" 251 (.ref 59)]
abbrev o54_4(P:Params):Obj:=⟨.type "dict",none,.dict (o54_4L P).toArray 4,#[]⟩
abbrev o55_4:=tu []
abbrev o56_4:=fi []
abbrev o57_4:=co "NotWithin" "/claim/cut.py" 241 242 243 8 0 0 55 false 181 56 .none .none .none .none 244 245
abbrev o58_4:Obj:=⟨.type "frame",none,.plain,#[Option.some (PySem.Value.ref 57),Option.some (PySem.Value.ref 3),Option.some (PySem.Value.ref 54),Option.none,Option.some (PySem.Value.str (PySem.Str.ofString "changehall.errors") 187),Option.none,Option.some (PySem.Value.ref 0)]⟩
abbrev zjA:=tu []
abbrev o60_4L(P:Params):List DictEntry:=[de P "__module__" 246 (vs "changehall.errors" 187),de P "__firstlineno__" 250 (.int 8 249),de P "__static_attributes__" 251 (.ref 59),de P "__doc__" 252 .none]
abbrev zjB(P:Params):Obj:=⟨.type "dict",none,.dict (o60_4L P).toArray 2,#[]⟩
abbrev zjC:Obj:=⟨.type "type",none,.cls ({ name:=PySem.Str.ofString "NotWithin",bases:=[PySem.Value.ref 24],mro:=[PySem.Value.ref 61,PySem.Value.ref 24,PySem.Value.type "ValueError",PySem.Value.type "Exception",PySem.Value.type "BaseException",PySem.Value.type "object"],ns:=60,qualname:=PySem.Str.ofString "NotWithin" }),#[Option.some (PySem.Value.ref 52),Option.none,Option.some (PySem.Value.str (PySem.Str.ofString "NotWithin") 239),Option.some (PySem.Value.str (PySem.Str.ofString "NotWithin") 247),Option.some (PySem.Value.builtin "ValueError.__new__"),Option.some (PySem.Value.bool Bool.true)]⟩
abbrev o62_4:Obj:=⟨.type "super",none,.fields #[.ref 61,.ref 61,.ref 61],#[]⟩
abbrev o63_4:Obj:=⟨.type "builtin_function_or_method",none,.fields #[.builtin "object.__init_subclass__",.ref 61],#[]⟩
abbrev zjD:=tu []
abbrev o65_4:=fi []
abbrev zjE:=tu [vs "value" 260]
abbrev zjF:=tu []
abbrev o68_4:=fo .none 6 0 .none .none
abbrev zjG:=co "is_whole" "/claim/cut.py" 257 258 259 11 1 3 64 true 181 65 .none (.ref 66) (.ref 67) (.ref 68) 261 262
abbrev zjH:=fo (.type "function") 6 3 (vs "changehall.rows" 255) (.ref 69)
abbrev zjI:=tu []
abbrev o72_4:=fi []
abbrev o73_4:=fo .none 7 0 .none .none
abbrev zjJ:=co "is_row" "/claim/cut.py" 264 265 266 13 2 3 71 true 181 72 .none .none .none (.ref 73) 267 268
abbrev zjK:=fo (.type "function") 7 3 (vs "changehall.rows" 255) (.ref 74)
abbrev zjL:=tu []
abbrev o77_4:=fi []
abbrev o78_4:=fo .none 8 0 .none .none
abbrev zjM:=co "noughts" "/claim/cut.py" 270 271 272 17 1 3 76 true 181 77 .none .none .none (.ref 78) 273 274
abbrev zjN:=fo (.type "function") 8 3 (vs "changehall.rows" 255) (.ref 79)
abbrev zjO:=tu []
abbrev o82_4:=fi []
abbrev o83_4:=fo .none 9 0 .none .none
abbrev zjP:=co "added" "/claim/cut.py" 276 277 278 19 2 3 81 true 181 82 .none .none .none (.ref 83) 279 280
abbrev zjQ:=fo (.type "function") 9 3 (vs "changehall.rows" 255) (.ref 84)
abbrev zjR:=tu []
abbrev o87_4:=fi []
abbrev o88_4:=fo .none 10 0 .none .none
abbrev zjS:=co "taken" "/claim/cut.py" 282 283 284 21 2 3 86 true 181 87 .none .none .none (.ref 88) 285 286
abbrev zjT:=fo (.type "function") 10 3 (vs "changehall.rows" 255) (.ref 89)
abbrev zjU:=tu []
abbrev o92_4:=fi []
abbrev o93_4:=fo .none 11 0 .none .none
abbrev zjV:=co "scaled" "/claim/cut.py" 288 289 290 23 2 3 91 true 181 92 .none .none .none (.ref 93) 291 292
abbrev zjW:=fo (.type "function") 11 3 (vs "changehall.rows" 255) (.ref 94)
abbrev t4(P:Params):BT:=ins (t3 P) [(3,o3_4 P),(12,o12_4),(24,zjy),(52,zjz),(53,o53_4),(54,o54_4 P),(55,o55_4),(56,o56_4),(57,o57_4),(58,o58_4),(59,zjA),(60,zjB P),(61,zjC),(62,o62_4),(63,o63_4),(64,zjD),(65,o65_4),(66,zjE),(67,zjF),(68,o68_4),(69,zjG),(70,zjH),(71,zjI),(72,o72_4),(73,o73_4),(74,zjJ),(75,zjK),(76,zjL),(77,o77_4),(78,o78_4),(79,zjM),(80,zjN),(81,zjO),(82,o82_4),(83,o83_4),(84,zjP),(85,zjQ),(86,zjR),(87,o87_4),(88,o88_4),(89,zjS),(90,zjT),(91,zjU),(92,o92_4),(93,o93_4),(94,zjV),(95,zjW)]
abbrev s4(w:World)(os:OsState):SharedT:=⟨t4 w.params,96,{ },#[],{ },294,os⟩
abbrev l3:List Stmt:=[top 4,top 5,top 6,top 7,top 8,top 9,top 10,top 11]
theorem run_3(w:World)(os:OsState):segRunT treeTable pw w 11 ann 1 382 (s3 w os) (piecesOf l3 env cE ⟨6,0,7,8⟩ fB)=some (.next,s4 w os,cE,⟨23,0,24,45⟩):=by
 rewrite[te_sT,te_tb];kernel_rfl
abbrev o3_5L(P:Params):List DictEntry:=de P "__name__" 165 (vs "changehall.stairs" 369)::(o3_4L P).tail++[de P "head_at" 302 (.ref 102),de P "MOST_KINDS" 306 (.int 6 305),de P "MOST_BILLS" 308 (.int 8 307),de P "are_kinds" 315 (.ref 109),de P "is_bill" 321 (.ref 114),de P "need_kinds" 328 (.ref 121),de P "need_bill" 336 (.ref 128),de P "hall_of" 345 (.ref 135),de P "hall_by" 351 (.ref 140),de P "bridge" 359 (.ref 145),de P "product" 368 (.ref 152),de P "lowering" 383 (.ref 159),de P "lowered" 391 (.ref 166)]
abbrev o3_5(P:Params):Obj:=⟨.type "dict",none,.dict (o3_5L P).toArray 32,#[]⟩
abbrev zjX:List Value:=zjx++[.int 25 0,.int 0 0,.ref 101,.int 33 0,.int 0 0,.ref 108,.int 35 0,.int 0 0,.ref 113,.int 37 0,.int 0 0,.ref 120,.int 40 0,.int 0 0,.ref 127,.int 43 0,.int 0 0,.ref 134,.int 50 0,.int 0 0,.ref 139,.int 53 0,.int 0 0,.ref 144,.int 64 0,.int 0 0,.ref 151,.int 70 0,.int 0 0,.ref 158,.int 80 0,.int 0 0,.ref 165]
abbrev o12_5:=fi zjX
abbrev zjY:=tu []
abbrev o97_5:=fi []
abbrev zjZ:=tu [vs "row" 297,vs "spot" 298,vs "number" 299]
abbrev zk0:=tu []
abbrev zk1:=fo .none 12 0 .none .none
abbrev zdr:=co "head_at" "/claim/cut.py" 294 295 296 25 1 3 96 true 181 97 .none (.ref 98) (.ref 99) (.ref 100) 300 301
abbrev zds:=fo (.type "function") 12 3 (vs "changehall.rows" 255) (.ref 101)
abbrev zdt:=tu []
abbrev zk2:=fi []
abbrev zdu:=tu [vs "value" 312]
abbrev zdv:=tu []
abbrev zk3:=fo .none 16 0 .none .none
abbrev zdw:=co "are_kinds" "/claim/cut.py" 309 310 311 33 1 3 103 true 181 104 .none (.ref 105) (.ref 106) (.ref 107) 313 314
abbrev zdx:=fo (.type "function") 16 3 (vs "changehall.halls" 303) (.ref 108)
abbrev zdy:=tu []
abbrev zk4:=fi []
abbrev zk5:=fo .none 17 0 .none .none
abbrev zdz:=co "is_bill" "/claim/cut.py" 316 317 318 35 2 3 110 true 181 111 .none .none .none (.ref 112) 319 320
abbrev zdA:=fo (.type "function") 17 3 (vs "changehall.halls" 303) (.ref 113)
abbrev zdB:=tu []
abbrev zk6:=fi []
abbrev zdC:=tu [vs "kinds" 325]
abbrev zdD:=tu []
abbrev zk7:=fo .none 18 0 .none .none
abbrev zdE:=co "need_kinds" "/claim/cut.py" 322 323 324 37 1 3 115 true 181 116 .none (.ref 117) (.ref 118) (.ref 119) 326 327
abbrev zdF:=fo (.type "function") 18 3 (vs "changehall.halls" 303) (.ref 120)
abbrev zdG:=tu []
abbrev zk8:=fi []
abbrev zdH:=tu [vs "bill" 332,vs "kinds" 333]
abbrev zdI:=tu []
abbrev zk9:=fo .none 19 0 .none .none
abbrev zdJ:=co "need_bill" "/claim/cut.py" 329 330 331 40 2 3 122 true 181 123 .none (.ref 124) (.ref 125) (.ref 126) 334 335
abbrev zdK:=fo (.type "function") 19 3 (vs "changehall.halls" 303) (.ref 127)
abbrev zdL:=tu []
abbrev zka:=fi []
abbrev zdM:=tu [vs "kinds" 340,vs "bills" 341,vs "bill" 342]
abbrev zdN:=tu []
abbrev zkb:=fo .none 20 0 .none .none
abbrev zdO:=co "hall_of" "/claim/cut.py" 337 338 339 43 2 3 129 true 181 130 .none (.ref 131) (.ref 132) (.ref 133) 343 344
abbrev zdP:=fo (.type "function") 20 3 (vs "changehall.halls" 303) (.ref 134)
abbrev zdQ:=tu []
abbrev zkc:=fi []
abbrev zkd:=fo .none 21 0 .none .none
abbrev zdR:=co "hall_by" "/claim/cut.py" 346 347 348 50 2 3 136 true 181 137 .none .none .none (.ref 138) 349 350
abbrev zdS:=fo (.type "function") 21 3 (vs "changehall.halls" 303) (.ref 139)
abbrev zdT:=tu []
abbrev zke:=fi []
abbrev zkf:=fo .none 23 0 .none .none
abbrev zdU:=co "bridge" "/claim/cut.py" 354 355 356 53 2 3 141 true 181 142 .none .none .none (.ref 143) 357 358
abbrev zdV:=fo (.type "function") 23 3 (vs "changehall.whole" 352) (.ref 144)
abbrev zdW:=tu []
abbrev zkg:=fi []
abbrev zdX:=tu [vs "numbers" 363,vs "found" 364,vs "number" 365]
abbrev zdY:=tu []
abbrev zkh:=fo .none 24 0 .none .none
abbrev zdZ:=co "product" "/claim/cut.py" 360 361 362 64 1 3 146 true 181 147 .none (.ref 148) (.ref 149) (.ref 150) 366 367
abbrev ze:=fo (.type "function") 24 3 (vs "changehall.whole" 352) (.ref 151)
abbrev ze0:=tu []
abbrev zki:=fi []
abbrev ze1:=tu [vs "row" 374,vs "rungs" 375,vs "left" 376,vs "counts" 377,vs "rung" 378,vs "spot" 379,vs "often" 380]
abbrev ze2:=tu []
abbrev zkj:=fo .none 26 0 .none .none
abbrev ze3:=co "lowering" "/claim/cut.py" 371 372 373 70 2 3 153 true 181 154 .none (.ref 155) (.ref 156) (.ref 157) 381 382
abbrev ze4:=fo (.type "function") 26 3 (vs "changehall.stairs" 369) (.ref 158)
abbrev ze5:=tu []
abbrev zkk:=fi []
abbrev ze6:=tu [vs "row" 387,vs "rungs" 388]
abbrev ze7:=tu []
abbrev zkl:=fo .none 27 0 .none .none
abbrev ze8:=co "lowered" "/claim/cut.py" 384 385 386 80 2 3 160 true 181 161 .none (.ref 162) (.ref 163) (.ref 164) 389 390
abbrev ze9:=fo (.type "function") 27 3 (vs "changehall.stairs" 369) (.ref 165)
abbrev t5(P:Params):BT:=ins (t4 P) [(3,o3_5 P),(12,o12_5),(96,zjY),(97,o97_5),(98,zjZ),(99,zk0),(100,zk1),(101,zdr),(102,zds),(103,zdt),(104,zk2),(105,zdu),(106,zdv),(107,zk3),(108,zdw),(109,zdx),(110,zdy),(111,zk4),(112,zk5),(113,zdz),(114,zdA),(115,zdB),(116,zk6),(117,zdC),(118,zdD),(119,zk7),(120,zdE),(121,zdF),(122,zdG),(123,zk8),(124,zdH),(125,zdI),(126,zk9),(127,zdJ),(128,zdK),(129,zdL),(130,zka),(131,zdM),(132,zdN),(133,zkb),(134,zdO),(135,zdP),(136,zdQ),(137,zkc),(138,zkd),(139,zdR),(140,zdS),(141,zdT),(142,zke),(143,zkf),(144,zdU),(145,zdV),(146,zdW),(147,zkg),(148,zdX),(149,zdY),(150,zkh),(151,zdZ),(152,ze),(153,ze0),(154,zki),(155,ze1),(156,ze2),(157,zkj),(158,ze3),(159,ze4),(160,ze5),(161,zkk),(162,ze6),(163,ze7),(164,zkl),(165,ze8),(166,ze9)]
abbrev s5(w:World)(os:OsState):SharedT:=⟨t5 w.params,167,{ },#[],{ },392,os⟩
abbrev l4:List Stmt:=[top 12,top 13,top 14,top 15,top 16,top 17,top 18,top 19,top 20,top 21,top 22,top 23,top 24,top 25,top 26,top 27]
theorem run_4(w:World)(os:OsState):segRunT treeTable pw w 11 ann 1 370 (s4 w os) (piecesOf l4 env cE ⟨23,0,24,45⟩ fB)=some (.next,s5 w os,cE,⟨80,0,81,34⟩):=by
 rewrite[te_sT,te_tb];kernel_rfl
abbrev o3_6L(P:Params):List DictEntry:=de P "__name__" 165 (vs "changehall.several" 460)::(o3_5L P).tail++[de P "crossed" 403 (.ref 173),de P "turned_up" 410 (.ref 180),de P "with_row" 416 (.ref 185),de P "evened" 425 (.ref 192),de P "climbed" 434 (.ref 199),de P "tagged_stair" 440 (.ref 204),de P "tags_at_nought" 446 (.ref 209),de P "heads_product" 452 (.ref 214),de P "stair" 459 (.ref 221),de P "need_like" 469 (.ref 228),de P "joined" 477 (.ref 235),de P "met" 483 (.ref 240),de P "within" 489 (.ref 245)]
abbrev o3_6(P:Params):Obj:=⟨.type "dict",none,.dict (o3_6L P).toArray 45,#[]⟩
abbrev zkm:List Value:=zjX++[.int 82 0,.int 0 0,.ref 172,.int 88 0,.int 0 0,.ref 179,.int 90 0,.int 0 0,.ref 184,.int 101 0,.int 0 0,.ref 191,.int 106 0,.int 0 0,.ref 198,.int 111 0,.int 0 0,.ref 203,.int 113 0,.int 0 0,.ref 208,.int 115 0,.int 0 0,.ref 213,.int 117 0,.int 0 0,.ref 220,.int 120 0,.int 0 0,.ref 227,.int 123 0,.int 0 0,.ref 234,.int 126 0,.int 0 0,.ref 239,.int 132 0,.int 0 0,.ref 244]
abbrev o12_6:=fi zkm
abbrev zea:=tu []
abbrev zkn:=fi []
abbrev zeb:=tu [vs "rung" 395,vs "row" 396,vs "spot" 397,vs "found" 398,vs "upper" 399,vs "lower" 400]
abbrev zec:=tu []
abbrev zko:=fo .none 28 0 .none .none
abbrev zed:=co "crossed" "/claim/cut.py" 392 393 394 82 2 3 167 true 181 168 .none (.ref 169) (.ref 170) (.ref 171) 401 402
abbrev zee:=fo (.type "function") 28 3 (vs "changehall.stairs" 369) (.ref 172)
abbrev zef:=tu []
abbrev zkp:=fi []
abbrev zeg:=tu [vs "row" 407]
abbrev zeh:=tu []
abbrev zkq:=fo .none 29 0 .none .none
abbrev zei:=co "turned_up" "/claim/cut.py" 404 405 406 88 1 3 174 true 181 175 .none (.ref 176) (.ref 177) (.ref 178) 408 409
abbrev zej:=fo (.type "function") 29 3 (vs "changehall.stairs" 369) (.ref 179)
abbrev zek:=tu []
abbrev zkr:=fi []
abbrev zks:=fo .none 30 0 .none .none
abbrev zel:=co "with_row" "/claim/cut.py" 411 412 413 90 2 3 181 true 181 182 .none .none .none (.ref 183) 414 415
abbrev zem:=fo (.type "function") 30 3 (vs "changehall.stairs" 369) (.ref 184)
abbrev zen:=tu []
abbrev zkt:=fi []
abbrev zeo:=tu [vs "rungs" 420,vs "found" 421,vs "rung" 422]
abbrev zep:=tu []
abbrev zku:=fo .none 31 0 .none .none
abbrev zeq:=co "evened" "/claim/cut.py" 417 418 419 101 1 3 186 true 181 187 .none (.ref 188) (.ref 189) (.ref 190) 423 424
abbrev zer:=fo (.type "function") 31 3 (vs "changehall.stairs" 369) (.ref 191)
abbrev zes:=tu []
abbrev zkv:=fi []
abbrev zet:=tu [vs "rows" 429,vs "rungs" 430,vs "row" 431]
abbrev zeu:=tu []
abbrev zkw:=fo .none 32 0 .none .none
abbrev zev:=co "climbed" "/claim/cut.py" 426 427 428 106 1 3 193 true 181 194 .none (.ref 195) (.ref 196) (.ref 197) 432 433
abbrev zew:=fo (.type "function") 32 3 (vs "changehall.stairs" 369) (.ref 198)
abbrev zex:=tu []
abbrev zkx:=fi []
abbrev zky:=fo .none 33 0 .none .none
abbrev zey:=co "tagged_stair" "/claim/cut.py" 435 436 437 111 2 3 200 true 181 201 .none .none .none (.ref 202) 438 439
abbrev zez:=fo (.type "function") 33 3 (vs "changehall.stairs" 369) (.ref 203)
abbrev zeA:=tu []
abbrev zkz:=fi []
abbrev zkA:=fo .none 34 0 .none .none
abbrev zeB:=co "tags_at_nought" "/claim/cut.py" 441 442 443 113 2 3 205 true 181 206 .none .none .none (.ref 207) 444 445
abbrev zeC:=fo (.type "function") 34 3 (vs "changehall.stairs" 369) (.ref 208)
abbrev zeD:=tu []
abbrev zkB:=fi []
abbrev zkC:=fo .none 35 0 .none .none
abbrev zeE:=co "heads_product" "/claim/cut.py" 447 448 449 115 1 3 210 true 181 211 .none .none .none (.ref 212) 450 451
abbrev zeF:=fo (.type "function") 35 3 (vs "changehall.stairs" 369) (.ref 213)
abbrev zeG:=tu []
abbrev zkD:=fi []
abbrev zeH:=tu [vs "hall" 456]
abbrev zeI:=tu []
abbrev zkE:=fo .none 36 0 .none .none
abbrev zeJ:=co "stair" "/claim/cut.py" 453 454 455 117 1 3 215 true 181 216 .none (.ref 217) (.ref 218) (.ref 219) 457 458
abbrev zeK:=fo (.type "function") 36 3 (vs "changehall.stairs" 369) (.ref 220)
abbrev zeL:=tu []
abbrev zkF:=fi []
abbrev zeM:=tu [vs "one" 465,vs "other" 466]
abbrev zeN:=tu []
abbrev zkG:=fo .none 38 0 .none .none
abbrev zeO:=co "need_like" "/claim/cut.py" 462 463 464 120 2 3 222 true 181 223 .none (.ref 224) (.ref 225) (.ref 226) 467 468
abbrev zeP:=fo (.type "function") 38 3 (vs "changehall.several" 460) (.ref 227)
abbrev zeQ:=tu []
abbrev zkH:=fi []
abbrev zeR:=tu [vs "one" 473,vs "other" 474]
abbrev zeS:=tu []
abbrev zkI:=fo .none 39 0 .none .none
abbrev zeT:=co "joined" "/claim/cut.py" 470 471 472 123 2 3 229 true 181 230 .none (.ref 231) (.ref 232) (.ref 233) 475 476
abbrev zeU:=fo (.type "function") 39 3 (vs "changehall.several" 460) (.ref 234)
abbrev zeV:=tu []
abbrev zkJ:=fi []
abbrev zkK:=fo .none 40 0 .none .none
abbrev zeW:=co "met" "/claim/cut.py" 478 479 480 126 2 3 236 true 181 237 .none .none .none (.ref 238) 481 482
abbrev zeX:=fo (.type "function") 40 3 (vs "changehall.several" 460) (.ref 239)
abbrev zeY:=tu []
abbrev zkL:=fi []
abbrev zkM:=fo .none 41 0 .none .none
abbrev zeZ:=co "within" "/claim/cut.py" 484 485 486 132 2 3 241 true 181 242 .none .none .none (.ref 243) 487 488
abbrev zf:=fo (.type "function") 41 3 (vs "changehall.several" 460) (.ref 244)
abbrev t6(P:Params):BT:=ins (t5 P) [(3,o3_6 P),(12,o12_6),(167,zea),(168,zkn),(169,zeb),(170,zec),(171,zko),(172,zed),(173,zee),(174,zef),(175,zkp),(176,zeg),(177,zeh),(178,zkq),(179,zei),(180,zej),(181,zek),(182,zkr),(183,zks),(184,zel),(185,zem),(186,zen),(187,zkt),(188,zeo),(189,zep),(190,zku),(191,zeq),(192,zer),(193,zes),(194,zkv),(195,zet),(196,zeu),(197,zkw),(198,zev),(199,zew),(200,zex),(201,zkx),(202,zky),(203,zey),(204,zez),(205,zeA),(206,zkz),(207,zkA),(208,zeB),(209,zeC),(210,zeD),(211,zkB),(212,zkC),(213,zeE),(214,zeF),(215,zeG),(216,zkD),(217,zeH),(218,zeI),(219,zkE),(220,zeJ),(221,zeK),(222,zeL),(223,zkF),(224,zeM),(225,zeN),(226,zkG),(227,zeO),(228,zeP),(229,zeQ),(230,zkH),(231,zeR),(232,zeS),(233,zkI),(234,zeT),(235,zeU),(236,zeV),(237,zkJ),(238,zkK),(239,zeW),(240,zeX),(241,zeY),(242,zkL),(243,zkM),(244,zeZ),(245,zf)]
abbrev s6(w:World)(os:OsState):SharedT:=⟨t6 w.params,246,{ },#[],{ },490,os⟩
abbrev l5:List Stmt:=[top 28,top 29,top 30,top 31,top 32,top 33,top 34,top 35,top 36,top 37,top 38,top 39,top 40,top 41]
theorem run_5(w:World)(os:OsState):segRunT treeTable pw w 11 ann 1 380 (s5 w os) (piecesOf l5 env cE ⟨80,0,81,34⟩ fB)=some (.next,s6 w os,cE,⟨132,0,135,76⟩):=by
 rewrite[te_sT,te_tb];kernel_rfl
abbrev o3_7L(P:Params):List DictEntry:=de P "__name__" 165 (vs "law_changehall_k24_whole_indexes" 510)::(o3_6L P).tail++[de P "index_in" 499 (.ref 252),de P "how_many" 509 (.ref 259),de P "_law_cell_at" 519 (.ref 266),de P "_law_whole" 526 (.ref 273),de P "_law_number" 536 (.ref 280),de P "_law_row" 542 (.ref 285),de P "_law_two" 548 (.ref 290),de P "_law_copied" 554 (.ref 295),de P "_law_head" 562 (.ref 302),de P "_law_times" 568 (.ref 307),de P "_law_size" 574 (.ref 312),de P "_law_indexed" 580 (.ref 317),de P "law" 594 (.ref 324)]
abbrev o3_7(P:Params):Obj:=⟨.type "dict",none,.dict (o3_7L P).toArray 58,#[]⟩
abbrev o12_7L:List Value:=zkm++[.int 136 0,.int 0 0,.ref 251,.int 145 0,.int 0 0,.ref 258,.int 151 0,.int 0 0,.ref 265,.int 157 0,.int 0 0,.ref 272,.int 159 0,.int 0 0,.ref 279,.int 170 0,.int 0 0,.ref 284,.int 172 0,.int 0 0,.ref 289,.int 187 0,.int 0 0,.ref 294,.int 189 0,.int 0 0,.ref 301,.int 194 0,.int 0 0,.ref 306,.int 203 0,.int 0 0,.ref 311,.int 221 0,.int 0 0,.ref 316,.int 236 0,.int 0 0,.ref 323]
abbrev o12_7:=fi o12_7L
abbrev zf0:=tu []
abbrev zkN:=fi []
abbrev zf1:=tu [vs "one" 493,vs "other" 494,vs "ours" 495,vs "theirs" 496]
abbrev zf2:=tu []
abbrev zkO:=fo .none 42 0 .none .none
abbrev zf3:=co "index_in" "/claim/cut.py" 490 491 492 136 2 3 246 true 181 247 .none (.ref 248) (.ref 249) (.ref 250) 497 498
abbrev zf4:=fo (.type "function") 42 3 (vs "changehall.several" 460) (.ref 251)
abbrev zf5:=tu []
abbrev zkP:=fi []
abbrev zf6:=tu [vs "hall" 505,vs "rungs" 506]
abbrev zf7:=tu []
abbrev zkQ:=fo .none 44 0 .none .none
abbrev zf8:=co "how_many" "/claim/cut.py" 502 503 504 145 1 3 253 true 181 254 .none (.ref 255) (.ref 256) (.ref 257) 507 508
abbrev zf9:=fo (.type "function") 44 3 (vs "changehall.classes" 500) (.ref 258)
abbrev zfa:=tu []
abbrev zkR:=fi []
abbrev zfb:=tu [vs "_law_script" 515,vs "_law_k" 516]
abbrev zfc:=tu []
abbrev zkS:=fo .none 46 0 .none .none
abbrev zfd:=co "_law_cell_at" "/claim/cut.py" 512 513 514 151 2 3 260 true 181 261 .none (.ref 262) (.ref 263) (.ref 264) 517 518
abbrev zfe:=fo (.type "function") 46 3 (vs "law_changehall_k24_whole_indexes" 510) (.ref 265)
abbrev zff:=tu []
abbrev zkT:=fi []
abbrev zfg:=tu [vs "_law_found" 523]
abbrev zfh:=tu []
abbrev zkU:=fo .none 47 0 .none .none
abbrev zfi:=co "_law_whole" "/claim/cut.py" 520 521 522 157 1 3 267 true 181 268 .none (.ref 269) (.ref 270) (.ref 271) 524 525
abbrev zfj:=fo (.type "function") 47 3 (vs "law_changehall_k24_whole_indexes" 510) (.ref 272)
abbrev zfk:=tu []
abbrev zkV:=fi []
abbrev zfl:=tu [vs "_law_cell" 530,vs "_law_mode" 531,vs "_law_number_here" 532,vs "_law_wide" 533]
abbrev zfm:=tu []
abbrev zkW:=fo .none 48 0 .none .none
abbrev zfn:=co "_law_number" "/claim/cut.py" 527 528 529 159 2 3 274 true 181 275 .none (.ref 276) (.ref 277) (.ref 278) 534 535
abbrev zfo:=fo (.type "function") 48 3 (vs "law_changehall_k24_whole_indexes" 510) (.ref 279)
abbrev zfp:=tu []
abbrev zkX:=fi []
abbrev zkY:=fo .none 49 0 .none .none
abbrev zfq:=co "_law_row" "/claim/cut.py" 537 538 539 170 4 3 281 true 181 282 .none .none .none (.ref 283) 540 541
abbrev zfr:=fo (.type "function") 49 3 (vs "law_changehall_k24_whole_indexes" 510) (.ref 284)
abbrev zfs:=tu []
abbrev zkZ:=fi []
abbrev zl0:=fo .none 50 0 .none .none
abbrev zft:=co "_law_two" "/claim/cut.py" 543 544 545 172 1 3 286 true 181 287 .none .none .none (.ref 288) 546 547
abbrev zfu:=fo (.type "function") 50 3 (vs "law_changehall_k24_whole_indexes" 510) (.ref 289)
abbrev zfv:=tu []
abbrev zl1:=fi []
abbrev zl2:=fo .none 51 0 .none .none
abbrev zfw:=co "_law_copied" "/claim/cut.py" 549 550 551 187 1 3 291 true 181 292 .none .none .none (.ref 293) 552 553
abbrev zfx:=fo (.type "function") 51 3 (vs "law_changehall_k24_whole_indexes" 510) (.ref 294)
abbrev zfy:=tu []
abbrev zl3:=fi []
abbrev zfz:=tu [vs "_law_row_here" 558,vs "_law_k" 559]
abbrev zfA:=tu []
abbrev zl4:=fo .none 52 0 .none .none
abbrev zfB:=co "_law_head" "/claim/cut.py" 555 556 557 189 1 3 296 true 181 297 .none (.ref 298) (.ref 299) (.ref 300) 560 561
abbrev zfC:=fo (.type "function") 52 3 (vs "law_changehall_k24_whole_indexes" 510) (.ref 301)
abbrev zfD:=tu []
abbrev zl5:=fi []
abbrev zl6:=fo .none 53 0 .none .none
abbrev zfE:=co "_law_times" "/claim/cut.py" 563 564 565 194 2 3 303 true 181 304 .none .none .none (.ref 305) 566 567
abbrev zfF:=fo (.type "function") 53 3 (vs "law_changehall_k24_whole_indexes" 510) (.ref 306)
abbrev zfG:=tu []
abbrev zl7:=fi []
abbrev zl8:=fo .none 54 0 .none .none
abbrev zfH:=co "_law_size" "/claim/cut.py" 569 570 571 203 1 3 308 true 181 309 .none .none .none (.ref 310) 572 573
abbrev zfI:=fo (.type "function") 54 3 (vs "law_changehall_k24_whole_indexes" 510) (.ref 311)
abbrev zfJ:=tu []
abbrev zl9:=fi []
abbrev zla:=fo .none 55 0 .none .none
abbrev zfK:=co "_law_indexed" "/claim/cut.py" 575 576 577 221 2 3 313 true 181 314 .none .none .none (.ref 315) 578 579
abbrev zfL:=fo (.type "function") 55 3 (vs "law_changehall_k24_whole_indexes" 510) (.ref 316)
abbrev zfM:=tu []
abbrev zlb:=fi []
abbrev zfN:=tu [vs "_law_script" 584,vs "_law_drawn" 585,vs "_law_one" 586,vs "_law_other" 587,vs "_law_inner" 588,vs "_law_outer" 589,vs "_law_left" 590,vs "_law_right" 591]
abbrev zfO:=tu []
abbrev zlc:=fo .none 56 0 .none .none
abbrev zfP:=co "law" "/claim/cut.py" 581 582 583 236 1 3 318 true 181 319 .none (.ref 320) (.ref 321) (.ref 322) 592 593
abbrev zfQ:=fo (.type "function") 56 3 (vs "law_changehall_k24_whole_indexes" 510) (.ref 323)
abbrev t7(P:Params):BT:=ins (t6 P) [(3,o3_7 P),(12,o12_7),(246,zf0),(247,zkN),(248,zf1),(249,zf2),(250,zkO),(251,zf3),(252,zf4),(253,zf5),(254,zkP),(255,zf6),(256,zf7),(257,zkQ),(258,zf8),(259,zf9),(260,zfa),(261,zkR),(262,zfb),(263,zfc),(264,zkS),(265,zfd),(266,zfe),(267,zff),(268,zkT),(269,zfg),(270,zfh),(271,zkU),(272,zfi),(273,zfj),(274,zfk),(275,zkV),(276,zfl),(277,zfm),(278,zkW),(279,zfn),(280,zfo),(281,zfp),(282,zkX),(283,zkY),(284,zfq),(285,zfr),(286,zfs),(287,zkZ),(288,zl0),(289,zft),(290,zfu),(291,zfv),(292,zl1),(293,zl2),(294,zfw),(295,zfx),(296,zfy),(297,zl3),(298,zfz),(299,zfA),(300,zl4),(301,zfB),(302,zfC),(303,zfD),(304,zl5),(305,zl6),(306,zfE),(307,zfF),(308,zfG),(309,zl7),(310,zl8),(311,zfH),(312,zfI),(313,zfJ),(314,zl9),(315,zla),(316,zfK),(317,zfL),(318,zfM),(319,zlb),(320,zfN),(321,zfO),(322,zlc),(323,zfP),(324,zfQ)]
abbrev s7(w:World)(os:OsState):SharedT:=⟨t7 w.params,325,{ },#[],{ },595,os⟩
abbrev l6:List Stmt:=[top 42,top 43,top 44,top 45,top 46,top 47,top 48,top 49,top 50,top 51,top 52,top 53,top 54,top 55,top 56]
theorem run_6(w:World)(os:OsState):segRunT treeTable pw w 11 ann 1 394 (s6 w os) (piecesOf l6 env cE ⟨132,0,135,76⟩ fB)=some (.next,s7 w os,cE,⟨236,0,248,75⟩):=by
 rewrite[te_sT,te_tb];kernel_rfl
def h1(P:Params):Heap:=⟨⟨[boot_o_0 P,boot_o_1 P,boot_o_2 P,o3_7 P,boot_o_4 P,boot_o_5 P,boot_o_6 P,boot_o_7 P,boot_o_8 P,boot_o_9 P,boot_o_10 P,o11a,o12_7,o13a,o14a,zjj,o16_1,o17_1 P,o18_1,o19_1,o20_1,o21_1,zjk,zjl P,zjy,zjm,o26_1,o27_1,zjo,o29_2,o30_2 P,o31_2,o32_2,o33_2,o34_2,zjp,zjq P,zjr,o38_2,o39_2,zjt,o41_3,o42_3 P,o43_3,o44_3,o45_3,o46_3,zju,zjv P,zjw,o50_3,o51_3,zjz,o53_4,o54_4 P,o55_4,o56_4,o57_4,o58_4,zjA,zjB P,zjC,o62_4,o63_4,zjD,o65_4,zjE,zjF,o68_4,zjG,zjH,zjI,o72_4,o73_4,zjJ,zjK,zjL,o77_4,o78_4,zjM,zjN,zjO,o82_4,o83_4,zjP,zjQ,zjR,o87_4,o88_4,zjS,zjT,zjU,o92_4,o93_4,zjV,zjW,zjY,o97_5,zjZ,zk0,zk1,zdr,zds,zdt,zk2,zdu,zdv,zk3,zdw,zdx,zdy,zk4,zk5,zdz,zdA,zdB,zk6,zdC,zdD,zk7,zdE,zdF,zdG,zk8,zdH,zdI,zk9,zdJ,zdK,zdL,zka,zdM,zdN,zkb,zdO,zdP,zdQ,zkc,zkd,zdR,zdS,zdT,zke,zkf,zdU,zdV,zdW,zkg,zdX,zdY,zkh,zdZ,ze,ze0,zki,ze1,ze2,zkj,ze3,ze4,ze5,zkk,ze6,ze7,zkl,ze8,ze9,zea,zkn,zeb,zec,zko,zed,zee,zef,zkp,zeg,zeh,zkq,zei,zej,zek,zkr,zks,zel,zem,zen,zkt,zeo,zep,zku,zeq,zer,zes,zkv,zet,zeu,zkw,zev,zew,zex,zkx,zky,zey,zez,zeA,zkz,zkA,zeB,zeC,zeD,zkB,zkC,zeE,zeF,zeG,zkD,zeH,zeI,zkE,zeJ,zeK,zeL,zkF,zeM,zeN,zkG,zeO,zeP,zeQ,zkH,zeR,zeS,zkI,zeT,zeU,zeV,zkJ,zkK,zeW,zeX,zeY,zkL,zkM,zeZ,zf,zf0,zkN,zf1,zf2,zkO,zf3,zf4,zf5,zkP,zf6,zf7,zkQ,zf8,zf9,zfa,zkR,zfb,zfc,zkS,zfd,zfe,zff,zkT,zfg,zfh,zkU,zfi,zfj,zfk,zkV,zfl,zfm,zkW,zfn,zfo,zfp,zkX,zkY,zfq,zfr,zfs,zkZ,zl0,zft,zfu,zfv,zl1,zl2,zfw,zfx,zfy,zl3,zfz,zfA,zl4,zfB,zfC,zfD,zl5,zl6,zfE,zfF,zfG,zl7,zl8,zfH,zfI,zfJ,zl9,zla,zfK,zfL,zfM,zlb,zfN,zfO,zlc,zfP,zfQ]⟩,{ }⟩
abbrev z0p:Drawn:={ }
theorem run_z(w:World)(os:OsState):topRun treeTable pw w 11 ann 2 (s7 w os).abs ⟨doneF .next,cE,⟨236,0,248,75⟩,fB⟩=some ⟨h1 w.params,#[],z0p,595,os⟩:=by
 rewrite[te_tr,te_tb];kernel_rfl
theorem zm7:behindTheImports pw=(l0++(l1++(l2++(l3++(l4++(l5++(l6++[]))))))):=by kernel_rfl
theorem run_all(w:World)(os:OsState):topRun treeTable pw w 11 ann (12+(1+(196+(214+(214+(382+(370+(380+(394+2))))))))) ⟨boot_heap w.params,#[],boot_drawn,boot_toks,os⟩ (topStub pw)=some ⟨h1 w.params,#[],z0p,595,os⟩ :=
 go_top (run_a w os) (piece_block (env:=env) (run_b w os) (by rw[zm7];exact(piece_app (segRun_of (run_0 w os)) (piece_app (segRun_of (run_1 w os)) (piece_app (segRun_of (run_2 w os)) (piece_app (segRun_of (run_3 w os)) (piece_app (segRun_of (run_4 w os)) (piece_app (segRun_of (run_5 w os)) (piece_app (segRun_of (run_6 w os)) (run_z w os))))))))))
abbrev keep:List Nat:=[1,2,3,4,6,7,8,9,10,11,12,14,15,16,17,18,19,20,21,23,24,26,27,28,29,30,31,32,33,34,35,36,38,39,40,41,42,44,46,47,48,49,50,51,52,53,54,55,56]
def K:Params→PySem.W.Frag:=fun P=>(nat_lit 2,boot_o_2 P)::(nat_lit 3,o3_7 P)::(nat_lit 15,zjj)::(nat_lit 22,zjk)::(nat_lit 23,zjl P)::(nat_lit 24,zjy)::(nat_lit 25,zjm)::(nat_lit 28,zjo)::(nat_lit 35,zjp)::(nat_lit 36,zjq P)::(nat_lit 37,zjr)::(nat_lit 40,zjt)::(nat_lit 47,zju)::(nat_lit 48,zjv P)::(nat_lit 49,zjw)::(nat_lit 52,zjz)::(nat_lit 59,zjA)::(nat_lit 60,zjB P)::(nat_lit 61,zjC)::(nat_lit 64,zjD)::(nat_lit 66,zjE)::(nat_lit 67,zjF)::(nat_lit 69,zjG)::(nat_lit 70,zjH)::(nat_lit 71,zjI)::(nat_lit 74,zjJ)::(nat_lit 75,zjK)::(nat_lit 76,zjL)::(nat_lit 79,zjM)::(nat_lit 80,zjN)::(nat_lit 81,zjO)::(nat_lit 84,zjP)::(nat_lit 85,zjQ)::(nat_lit 86,zjR)::(nat_lit 89,zjS)::(nat_lit 90,zjT)::(nat_lit 91,zjU)::(nat_lit 94,zjV)::(nat_lit 95,zjW)::(nat_lit 96,zjY)::(nat_lit 98,zjZ)::(nat_lit 99,zk0)::(nat_lit 101,zdr)::(nat_lit 102,zds)::(nat_lit 103,zdt)::(nat_lit 105,zdu)::(nat_lit 106,zdv)::(nat_lit 108,zdw)::(nat_lit 109,zdx)::(nat_lit 110,zdy)::(nat_lit 113,zdz)::(nat_lit 114,zdA)::(nat_lit 115,zdB)::(nat_lit 117,zdC)::(nat_lit 118,zdD)::(nat_lit 120,zdE)::(nat_lit 121,zdF)::(nat_lit 122,zdG)::(nat_lit 124,zdH)::(nat_lit 125,zdI)::(nat_lit 127,zdJ)::(nat_lit 128,zdK)::(nat_lit 129,zdL)::(nat_lit 131,zdM)::(nat_lit 132,zdN)::(nat_lit 134,zdO)::(nat_lit 135,zdP)::(nat_lit 136,zdQ)::(nat_lit 139,zdR)::(nat_lit 140,zdS)::(nat_lit 141,zdT)::(nat_lit 144,zdU)::(nat_lit 145,zdV)::(nat_lit 146,zdW)::(nat_lit 148,zdX)::(nat_lit 149,zdY)::(nat_lit 151,zdZ)::(nat_lit 152,ze)::(nat_lit 153,ze0)::(nat_lit 155,ze1)::(nat_lit 156,ze2)::(nat_lit 158,ze3)::(nat_lit 159,ze4)::(nat_lit 160,ze5)::(nat_lit 162,ze6)::(nat_lit 163,ze7)::(nat_lit 165,ze8)::(nat_lit 166,ze9)::(nat_lit 167,zea)::(nat_lit 169,zeb)::(nat_lit 170,zec)::(nat_lit 172,zed)::(nat_lit 173,zee)::(nat_lit 174,zef)::(nat_lit 176,zeg)::(nat_lit 177,zeh)::(nat_lit 179,zei)::(nat_lit 180,zej)::(nat_lit 181,zek)::(nat_lit 184,zel)::(nat_lit 185,zem)::(nat_lit 186,zen)::(nat_lit 188,zeo)::(nat_lit 189,zep)::(nat_lit 191,zeq)::(nat_lit 192,zer)::(nat_lit 193,zes)::(nat_lit 195,zet)::(nat_lit 196,zeu)::(nat_lit 198,zev)::(nat_lit 199,zew)::(nat_lit 200,zex)::(nat_lit 203,zey)::(nat_lit 204,zez)::(nat_lit 205,zeA)::(nat_lit 208,zeB)::(nat_lit 209,zeC)::(nat_lit 210,zeD)::(nat_lit 213,zeE)::(nat_lit 214,zeF)::(nat_lit 215,zeG)::(nat_lit 217,zeH)::(nat_lit 218,zeI)::(nat_lit 220,zeJ)::(nat_lit 221,zeK)::(nat_lit 222,zeL)::(nat_lit 224,zeM)::(nat_lit 225,zeN)::(nat_lit 227,zeO)::(nat_lit 228,zeP)::(nat_lit 229,zeQ)::(nat_lit 231,zeR)::(nat_lit 232,zeS)::(nat_lit 234,zeT)::(nat_lit 235,zeU)::(nat_lit 236,zeV)::(nat_lit 239,zeW)::(nat_lit 240,zeX)::(nat_lit 241,zeY)::(nat_lit 244,zeZ)::(nat_lit 245,zf)::(nat_lit 246,zf0)::(nat_lit 248,zf1)::(nat_lit 249,zf2)::(nat_lit 251,zf3)::(nat_lit 252,zf4)::(nat_lit 253,zf5)::(nat_lit 255,zf6)::(nat_lit 256,zf7)::(nat_lit 258,zf8)::(nat_lit 259,zf9)::(nat_lit 260,zfa)::(nat_lit 262,zfb)::(nat_lit 263,zfc)::(nat_lit 265,zfd)::(nat_lit 266,zfe)::(nat_lit 267,zff)::(nat_lit 269,zfg)::(nat_lit 270,zfh)::(nat_lit 272,zfi)::(nat_lit 273,zfj)::(nat_lit 274,zfk)::(nat_lit 276,zfl)::(nat_lit 277,zfm)::(nat_lit 279,zfn)::(nat_lit 280,zfo)::(nat_lit 281,zfp)::(nat_lit 284,zfq)::(nat_lit 285,zfr)::(nat_lit 286,zfs)::(nat_lit 289,zft)::(nat_lit 290,zfu)::(nat_lit 291,zfv)::(nat_lit 294,zfw)::(nat_lit 295,zfx)::(nat_lit 296,zfy)::(nat_lit 298,zfz)::(nat_lit 299,zfA)::(nat_lit 301,zfB)::(nat_lit 302,zfC)::(nat_lit 303,zfD)::(nat_lit 306,zfE)::(nat_lit 307,zfF)::(nat_lit 308,zfG)::(nat_lit 311,zfH)::(nat_lit 312,zfI)::(nat_lit 313,zfJ)::(nat_lit 316,zfK)::(nat_lit 317,zfL)::(nat_lit 318,zfM)::(nat_lit 320,zfN)::(nat_lit 321,zfO)::(nat_lit 323,zfP)::(nat_lit 324,zfQ)::[]
abbrev Ka:List Addr:=[2,3,15,22,23,24,25,28,35,36,37,40,47,48,49,52,59,60,61,64,66,67,69,70,71,74,75,76,79,80,81,84,85,86,89,90,91,94,95,96,98,99,101,102,103,105,106,108,109,110,113,114,115,117,118,120,121,122,124,125,127,128,129,131,132,134,135,136,139,140,141,144,145,146,148,149,151,152,153,155,156,158,159,160,162,163,165,166,167,169,170,172,173,174,176,177,179,180,181,184,185,186,188,189,191,192,193,195,196,198,199,200,203,204,205,208,209,210,213,214,215,217,218,220,221,222,224,225,227,228,229,231,232,234,235,236,239,240,241,244,245,246,248,249,251,252,253,255,256,258,259,260,262,263,265,266,267,269,270,272,273,274,276,277,279,280,281,284,285,286,289,290,291,294,295,296,298,299,301,302,303,306,307,308,311,312,313,316,317,318,320,321,323,324]
theorem Ke(P:Params):Ka=(K P).map (·.1):=by kernel_rfl
abbrev qv:Program:=view pw keep
abbrev Xt:Shared→Bool:=fun s=>xlAt qv [] s&&recOk [] s
theorem opened:∀ w:World,(fencedOpening treeTable pw w 4412).map (fun s=>(s.heap,s.gens,s.drawn,s.toks))=some (boot_heap w.params,Array.mk [],boot_drawn,boot_toks):=boot_open (by kernel_rfl) (by kernel_rfl) (fun s=>by kernel_rfl)
theorem sized(w:World):((boot_heap w.params).isNs mainGlobals&&(Array.mk []:Array GenState).size==0,(boot_heap w.params).objs.size,(boot_heap w.params).nsMap mainGlobals "__annotations__")=(true,11,ann):=by
 rewrite[te_ns];kernel_rfl
theorem lk0(w:World)(os:OsState):(staticsOk (importedModules pw.main.body) (boot_heap w.params) (h1 w.params)&&namesBound pw (h1 w.params)&&gensDone ⟨h1 w.params,#[],z0p,595,os⟩&&laidKept (boot_heap w.params) (h1 w.params))=true:=by
 rewrite[te_im];kernel_rfl
theorem lk1(w:World)(os:OsState):seen ((recsOf qv).map (·.name)) (ownsOf qv) [] { (⟨h1 w.params,#[],z0p,595,os⟩:Shared)with gens:=#[] }=expectedOf qv:=by
 rewrite[te_seen,te_recs,te_owns];kernel_rfl
theorem lk2(w:World)(os:OsState):(⟨h1 w.params,#[],z0p,595,os⟩:Shared).heap.bltView=bltViewBooted:=by
 kernel_rfl
theorem lk3(w:World)(os:OsState):((⟨h1 w.params,#[],z0p,595,os⟩:Shared).heap.keysOk (looseW qv []) ((recsOf qv).map (·.name)) ((litsOf qv).map (·.1)) ((clssOf qv (looseW qv [])).map (·.name))&&(⟨h1 w.params,#[],z0p,595,os⟩:Shared).heap.accountedOkI (importedModules pw.main.body)&&(⟨h1 w.params,#[],z0p,595,os⟩:Shared).heap.isNs mainGlobals&&(⟨h1 w.params,#[],z0p,595,os⟩:Shared).heap.isNs builtinsNs&&tablesOk qv (⟨h1 w.params,#[],z0p,595,os⟩:Shared).heap&&Xt ⟨h1 w.params,#[],z0p,595,os⟩&&(if true=true then(⟨h1 w.params,#[],z0p,595,os⟩:Shared).gens.size==0 else !leftWithCleanup (⟨h1 w.params,#[],z0p,595,os⟩:Shared).gens))=true:=by
 rewrite[te_keys,te_loose,te_recs,te_lits,te_clss,te_acc,te_im,te_tabl];kernel_rfl
theorem lk4(w:World)(os:OsState):tabsOk qv ⟨h1 w.params,#[],z0p,595,os⟩=true:=by
 rewrite[te_tabs];kernel_rfl
theorem lk5(w:World)(os:OsState):pinSeenD qv (drecsOf qv) ⟨h1 w.params,#[],z0p,595,os⟩=pinGoodD (drecsOf qv):=by
 rewrite[te_pin,te_drecs];kernel_rfl
theorem lk6(w:World)(os:OsState):plainSeenE qv (looseW qv []) ⟨h1 w.params,#[],z0p,595,os⟩=plainGoodE qv (looseW qv []):=by
 rewrite[te_pE,te_loose];kernel_rfl
theorem lk7(w:World)(os:OsState):plainSeenD qv [] ⟨h1 w.params,#[],z0p,595,os⟩=plainGoodD qv []:=by
 rewrite[te_pD];kernel_rfl
theorem lk8(w:World)(os:OsState):wideSeen qv ⟨h1 w.params,#[],z0p,595,os⟩=wideGood qv:=by
 rewrite[te_wide];kernel_rfl
theorem lk9(w:World)(os:OsState):clsSeenW qv [] ⟨h1 w.params,#[],z0p,595,os⟩=clsGoodW qv []:=by
 rewrite[te_cls];kernel_rfl
theorem lk10(w:World)(os:OsState):Hook.obs (kHook K Ka Ke) ⟨h1 w.params,#[],z0p,595,os⟩=Hook.val (kHook K Ka Ke) w:=by
 kernel_rfl
theorem sn(w:World)(os:OsState):openSeen qv [] (importedModules pw.main.body) Xt true ⟨h1 w.params,#[],z0p,595,os⟩=(seen ((recsOf qv).map (·.name)) (ownsOf qv) [] { (⟨h1 w.params,#[],z0p,595,os⟩:Shared)with gens:=#[] },(⟨h1 w.params,#[],z0p,595,os⟩:Shared).heap.bltView,((⟨h1 w.params,#[],z0p,595,os⟩:Shared).heap.keysOk (looseW qv []) ((recsOf qv).map (·.name)) ((litsOf qv).map (·.1)) ((clssOf qv (looseW qv [])).map (·.name))&&(⟨h1 w.params,#[],z0p,595,os⟩:Shared).heap.accountedOkI (importedModules pw.main.body)&&(⟨h1 w.params,#[],z0p,595,os⟩:Shared).heap.isNs mainGlobals&&(⟨h1 w.params,#[],z0p,595,os⟩:Shared).heap.isNs builtinsNs&&tablesOk qv (⟨h1 w.params,#[],z0p,595,os⟩:Shared).heap&&Xt ⟨h1 w.params,#[],z0p,595,os⟩&&(if true=true then(⟨h1 w.params,#[],z0p,595,os⟩:Shared).gens.size==0 else !leftWithCleanup (⟨h1 w.params,#[],z0p,595,os⟩:Shared).gens)),tabsOk qv ⟨h1 w.params,#[],z0p,595,os⟩,pinSeenD qv (drecsOf qv) ⟨h1 w.params,#[],z0p,595,os⟩,plainSeenE qv (looseW qv []) ⟨h1 w.params,#[],z0p,595,os⟩,plainSeenD qv [] ⟨h1 w.params,#[],z0p,595,os⟩,wideSeen qv ⟨h1 w.params,#[],z0p,595,os⟩,clsSeenW qv [] ⟨h1 w.params,#[],z0p,595,os⟩):=by kernel_rfl
theorem gd:openGood qv []=(expectedOf qv,bltViewBooted,true,true,pinGoodD (drecsOf qv),plainGoodE qv (looseW qv []),plainGoodD qv [],wideGood qv,clsGoodW qv []):=by kernel_rfl
theorem lkS(w:World)(os:OsState):openSeen qv [] (importedModules pw.main.body) Xt true ⟨h1 w.params,#[],z0p,595,os⟩=openGood qv []:=(sn w os).trans (Eq.trans (looks_pair (lk1 w os) (looks_pair (lk2 w os) (looks_pair (lk3 w os) (looks_pair (lk4 w os) (looks_pair (lk5 w os) (looks_pair (lk6 w os) (looks_pair (lk7 w os) (looks_pair (lk8 w os) (lk9 w os))))))))) gd.symm)
theorem left:LeftO pw qv [] Xt (Hook.obs (kHook K Ka Ke)) (Hook.val (kHook K Ka Ke)) 4412 :=
 LeftO.of_pieces (H₀:=boot_heap) (H₁:=h1) (gs₀:=Array.mk []) (gs₁:=#[]) (d₀:=boot_drawn) (d₁:=z0p) (k₀:=boot_toks) (k₁:=595) (m₀:=11) (ann:=ann) (M:=(12+(1+(196+(214+(214+(382+(370+(380+(394+2)))))))))) opened sized run_all (by kernel_rfl) (fun w=>funext fun os =>
  looks_pair (lk0 w os) (looks_pair (lkS w os) (lk10 w os)))
end
end H
end K24
open PySem PySem.W PyProof.Rows
set_option maxRecDepth 100000 in
set_option maxHeartbeats 0 in
theorem PySem.Challenge.cw_changehall_k24_whole_indexes_holds : PySem.Challenge.rw_changehall_k24_whole_indexes.Holds := by
 w_on;o_law
 refine PySem.W.holds_open (q:=K24.H.qv) (loose:=[]) (Xt:=K24.H.Xt) (XP:=XL K24.H.qv []) (Yf:=Hook.obs (kHook K24.H.K K24.H.Ka K24.H.Ke)) (Ya:=Hook.val (kHook K24.H.K K24.H.Ka K24.H.Ke)) (YP:=Hook.says (kHook K24.H.K K24.H.Ka K24.H.Ke)) (N:=4412) K24.H.left (Hook.of _) (Hook.keeps _) (fun s e=>xl_of s (Bool.and_eq_true_iff.mp e).1) XL.keeps (by rfl) (by rfl) (by rfl) (fun s e=>recFacts_of (Bool.and_eq_true_iff.mp e).2) (by rfl) (by first|assumption|decide +kernel) (by decide +kernel) ⟨rfl,rfl,rfl,rfl,rfl,by decide +kernel⟩ ?hw ?hc
 (case hw=>w_witness2)
 k_fill
 refine L2.zgS (x := "_law_script") (k:=10) (fr:=true) (c:=K24.zbY) (l:=PySem.Challenge.rw_changehall_k24_whole_indexes) rfl rfl (fun w h Y=>PySem.W.kIn_of Y) ?F (fun ns hl=>K24.zj9 ns hl) ⟨rfl,by decide,by decide⟩
 case F =>
  intro w mg fa h KX G hmg
  refine' K24.zjh KX G hmg (L2.dh ?e0 ?l0 ?c0 ?k0) (L2.dh ?e1 ?l1 ?c1 ?k1) (L2.dh ?e2 ?l2 ?c2 ?k2) (L2.dh ?e3 ?l3 ?c3 ?k3) (L2.dh ?e4 ?l4 ?c4 ?k4) (L2.dh ?e5 ?l5 ?c5 ?k5) (L2.dh ?e6 ?l6 ?c6 ?k6) (L2.dh ?e7 ?l7 ?c7 ?k7) (L2.dh ?e8 ?l8 ?c8 ?k8) (L2.dh ?e9 ?l9 ?c9 ?k9) (L2.dh ?e10 ?l10 ?c10 ?k10) (L2.dh ?e11 ?l11 ?c11 ?k11) (L2.dh ?e12 ?l12 ?c12 ?k12) (L2.dh ?e13 ?l13 ?c13 ?k13) (L2.dh ?e14 ?l14 ?c14 ?k14) (L2.dh ?e15 ?l15 ?c15 ?k15) (L2.dh ?e16 ?l16 ?c16 ?k16) (L2.dh ?e17 ?l17 ?c17 ?k17) (L2.dh ?e18 ?l18 ?c18 ?k18) (L2.dh ?e19 ?l19 ?c19 ?k19) (L2.dh ?e20 ?l20 ?c20 ?k20) (L2.dh ?e21 ?l21 ?c21 ?k21) (L2.dh ?e22 ?l22 ?c22 ?k22) (L2.dh ?e23 ?l23 ?c23 ?k23) (L2.dh ?e24 ?l24 ?c24 ?k24) (L2.dh ?e25 ?l25 ?c25 ?k25) (L2.dh ?e26 ?l26 ?c26 ?k26) (L2.dh ?e27 ?l27 ?c27 ?k27) (L2.dh ?e28 ?l28 ?c28 ?k28) (L2.dh ?e29 ?l29 ?c29 ?k29) (L2.dh ?e30 ?l30 ?c30 ?k30) (L2.dh ?e31 ?l31 ?c31 ?k31) (L2.dh ?e32 ?l32 ?c32 ?k32) (L2.dh ?e33 ?l33 ?c33 ?k33) (L2.dh ?e34 ?l34 ?c34 ?k34) (L2.dh ?e35 ?l35 ?c35 ?k35) (L2.dh ?e36 ?l36 ?c36 ?k36) (L2.dh ?e37 ?l37 ?c37 ?k37) (L2.dh ?e38 ?l38 ?c38 ?k38) (L2.dh ?e39 ?l39 ?c39 ?k39) (L2.dh ?e40 ?l40 ?c40 ?k40) (L2.dh ?e41 ?l41 ?c41 ?k41) (L2.dh ?e42 ?l42 ?c42 ?k42) ?z_abs ?z_all ?z_bool ?z_enumerate ?z_int ?z_isinstance ?z_len ?z_list ?z7B ?z_reversed ?z_sorted ?z_tuple ?z_zip ?y_MOST_BILLS ?y_MOST_KINDS
  all_goals try k_is
  all_goals kernel_rfl

end
