import PyProof.Rows.All
import Wide.All
import OpenK.AllK
import Wide.FinOn
import Lean
import PyProof.EqAt
import PyProof.EqKinds
import PyProof.TupleCall
import PyProof.CompFree
import PyProof.Cells
import PySem.Challenge.RW_changehall_k37_texts_refused
set_option Elab.async false
set_option linter.all false
set_option maxRecDepth 100000
set_option exponentiation.threshold 20000
section
local macro_rules|`(tactic| omega)=>`(tactic| first|lia|omega +splitDisjunctions)
set_option Elab.async false
set_option linter.all false
set_option maxRecDepth 100000
namespace L2
open PySem PySem.Spec PyProof.Rows
abbrev Key:=Sum Int Str
def keyIs:Key→Value→Bool
 | .inl k,v=>Value.isInt k v
 | .inr x,v=>Value.isStrOf x v
def keyH(w:World):Key→Int
 | .inl k=>hashInt k
 | .inr x=>hashStr w x
theorem u4:∀{k:Key} {v:Value},keyIs k v=true→(∃ i t,k=Sum.inl i∧v=Value.int i t)∨(∃ x t,k=Sum.inr x∧v=Value.str x t)
 | .inl i,v,h=>by
  obtain⟨t,e⟩:=Value.isInt_shape (k:=i) (v:=v) h
  exact .inl ⟨i,t,rfl,e⟩
 | .inr x,v,h=>by
  obtain⟨t,e⟩:=Value.isStrOf_shape (x:=x) (v:=v) h
  exact .inr ⟨x,t,rfl,e⟩
theorem key_ll(a b:Int):decide ((Sum.inl a:Key)=Sum.inl b)=(a==b):=by
 by_cases e:a=b
 · subst e;simp
 · have h:¬(Sum.inl a:Key)=Sum.inl b:=fun q=>e (Sum.inl.inj q)
   rw[decide_eq_false h]
   exact(beq_eq_false_iff_ne.mpr e).symm
theorem key_rr(a b:Str):decide ((Sum.inr a:Key)=Sum.inr b)=decide (a=b):=by
 by_cases e:a=b
 · subst e;simp
 · have h:¬(Sum.inr a:Key)=Sum.inr b:=fun q=>e (Sum.inr.inj q)
   rw[decide_eq_false h,decide_eq_false e]
theorem key_lr(a:Int)(b:Str):decide ((Sum.inl a:Key)=Sum.inr b)=false:=decide_eq_false (fun q=>nomatch q)
theorem key_rl(a:Str)(b:Int):decide ((Sum.inr a:Key)=Sum.inl b)=false:=decide_eq_false (fun q=>nomatch q)
def DD(prog:Program)(w:World):PySem.KeyKind prog w Key where
 is:=keyIs
 hash:=keyH w
 inj:=fun v a b ha hb=>by
  rcases u4 ha with⟨i,t,rfl,rfl⟩|⟨x,t,rfl,rfl⟩
  · rcases u4 hb with⟨j,u,rfl,e⟩|⟨y,u,rfl,e⟩
    · injection e with e1 _;rw[e1]
    · exact nomatch e
  · rcases u4 hb with⟨j,u,rfl,e⟩|⟨y,u,rfl,e⟩
    · exact nomatch e
    · injection e with e1 _;rw[e1]
 byValue:=fun k v h=>by
  rcases u4 h with⟨i,t,rfl,rfl⟩|⟨x,t,rfl,rfl⟩<;>rfl
 pyHash:=fun hv h=>by
  rcases u4 hv with⟨i,t,rfl,rfl⟩|⟨x,t,rfl,rfl⟩
  · exact wpAny_pyHash_int h
  · exact wpAny_pyHash_str h
 eqBool:=fun hu hv h=>by
  rcases u4 hu with⟨i,t,rfl,rfl⟩|⟨x,t,rfl,rfl⟩
  · rcases u4 hv with⟨j,u,rfl,rfl⟩|⟨y,u,rfl,rfl⟩
    · rw[key_ll]at h;exact wpAny_eqBool_int h
    · rw[key_lr]at h;exact SeqAt.EqAt.int_str i t y u _ _ _ _ h
  · rcases u4 hv with⟨j,u,rfl,rfl⟩|⟨y,u,rfl,rfl⟩
    · rw[key_rl]at h;exact SeqAt.EqAt.str_int x t j u _ _ _ _ h
    · rw[key_rr]at h;exact wpAny_eqBool_str h
 «strs»:=fun k x t v h=>by
  rcases u4 h with⟨i,u,rfl,e⟩|⟨y,u,rfl,e⟩
  · exact nomatch e
  · injection e with e1 _
    subst e1
    cases v<;>rfl
end L2
namespace L2
open PySem PySem.Spec PyProof.Rows
inductive V where
 | non|bl (b:Bool)|int (i:Int)|str (x:Str)|byt (b:Array UInt8)|flt (b:UInt64)|ref (a:Addr)|ty (n:String)
 deriving DecidableEq
def RelV:V→Value→Prop
 | .non,u=>u=Value.none
 | .bl b,u=>u=Value.bool b
 | .int i,u=>∃ t,u=Value.int i t
 | .str x,u=>∃ t,u=Value.str x t
 | .byt b,u=>∃ t,u=Value.bytes b t
 | .flt b,u=>∃ t,u=Value.float b t
 | .ref a,u=>u=Value.ref a
 | .ty n,u=>u=Value.type n
abbrev Vals:List V→List Value→Prop:=Paired RelV
theorem Vals.length{xs:List V}{us:List Value}(r:Vals xs us):xs.length=us.length:=Paired.length r
theorem Vals.get:∀{xs:List V} {us:List Value} {i:Nat} {x:V},Vals xs us→xs[i]?=some x→∃ u,us[i]?=some u∧RelV x u
 | _,_,_,_,.nil,e=>by simp at e
 | _,_,0,_,.cons r _,e=>by simp at e;subst e;exact⟨_,rfl,r⟩
 | _,_,i+1,x,.cons _ t,e=>by
  obtain⟨u,h1,h2⟩:=Vals.get (i:=i) (x:=x) t (by simpa using e)
  exact⟨u,by simpa using h1,h2⟩
theorem Vals.set{x:V}{u:Value}(r:RelV x u):∀{xs:List V} {us:List Value} (i:Nat),Vals xs us→Vals (xs.set i x) (us.set i u)
 | _,_,_,.nil => .nil
 | _,_,0,.cons _ t => .cons r t
 | _,_,i+1,.cons q t => .cons q (Vals.set r i t)
theorem Vals.append:∀{xs ys:List V} {us ws:List Value},Vals xs us→Vals ys ws→Vals (xs++ys) (us++ws)
 | _,_,_,_,.nil,s=>s
 | _,_,_,_,.cons r t,s => .cons r (Vals.append t s)
theorem Vals.take:∀{xs:List V} {us:List Value} (n:Nat),Vals xs us→Vals (xs.take n) (us.take n)
 | _,_,0,_ => .nil
 | _,_,_+1,.nil => .nil
 | _,_,n+1,.cons r t => .cons r (Vals.take n t)
theorem Vals.drop:∀{xs:List V} {us:List Value} (n:Nat),Vals xs us→Vals (xs.drop n) (us.drop n)
 | _,_,0,r=>r
 | _,_,_+1,.nil => .nil
 | _,_,n+1,.cons _ t=>Vals.drop n t
theorem Vals.none_of:∀{xs:List V} {us:List Value} {i:Nat},Vals xs us→xs[i]?=none→us[i]?=none:=fun{xs us i} r e=>by
 have h1:=r.length
 have h2:xs.length≤i:=List.getElem?_eq_none_iff.mp e
 exact List.getElem?_eq_none_iff.mpr (by omega)
def RelO:Option V→Option Value→Prop
 | some v,some u=>RelV v u
 | none,none=>True
 | _,_=>False
def KV{κ:Type}:List (κ×V)→List (κ×Value)→Prop:=Paired fun(p:κ×V) (q:κ×Value)=>p.1=q.1∧RelV p.2 q.2
def kV:Key→V
 | .inl i => .int i
 | .inr x => .str x
inductive HO where
 | lst (xs:List V)
 | tup (xs:List V)
 | dK (kvs:List (Key×V))|dT (kvs:List (List Key×V))
 | set (S:Int→Bool) (n:Nat)
 | ins (C dx:Addr) (fs:List (Str×V))
 | own (x:Addr)
 | xd (fs:List (Str×V))
 | met (f x:Addr)
 | rng (lo hi:Int)
 | frz (o:Obj) (u:HO)
 | tbl (ps:Array Value)
 | ext (φ:Heap→Prop)
abbrev Hp:=Addr→Option HO
def upd(H:Hp)(a:Addr)(o:HO):Hp:=fun b=>if b=a then some o else H b
theorem p6{H:Hp}{a:Addr}{o:HO}:upd H a o a=some o:=by unfold upd;rw[if_pos rfl]
theorem o6{H:Hp}{a b:Addr}{o:HO}(h:b≠a):upd H a o b=H b:=by unfold upd;rw[if_neg h]
theorem C7{H:Hp}{a b:Addr}{o:HO}(h:H a=some o)(h':H b=none):a≠b:=by
 intro e;subst e;rw[h]at h';cases h'
section
variable (P:Program)(w:World)
def ObjOk(H:Hp)(h:Heap)(a:Addr):HO→Prop
 | .lst xs=>xs.length≤sizeLine∧∃(its:List Value) (n:Nat),Vals xs its∧h.get? a=some { cls := .type "list",data := .seq its.toArray n }
 | .tup xs=>xs.length≤sizeLine∧∃ its:List Value,Vals xs its∧IsTup h a its.toArray
 | .dK kvs=>kvs.length≤sizeLine∧(a==sysModules)=false∧∃ vs,KV kvs vs∧h.DictOf (DD P w) a vs
 | .dT kvs=>kvs.length≤sizeLine∧(a==sysModules)=false∧∃ xs:List (List Key×Addr×Value),
  Paired (fun(p:List Key×V) (q:List Key×Addr×Value)=>p.1=q.1∧H q.2.1=some (.tup (p.1.map kV))∧RelV p.2 q.2.2) kvs xs ∧
  ∃ o es ep,h.get? a=some o∧o.ExactDict∧o.data = .dict es ep∧es.toList=xs.map (entryOfKey (tupleKind (DD P w)))∧(xs.map (·.1)).Nodup
 | .set S n=>h.SetOf (intKind P w) a S n
 | .ins C dx fs=>H dx=some (.own a)∧fs.length≤1000∧dx≠a∧h.get? a=some (PySem.W.instObj C dx) ∧
  ∃ mA,h.Ns1 dx mA∧(∀ f,RelO (fs.lookup f) (mA f))∧PySem.Within mA (fs.map (·.1))
 | .own _=>∃ o,h.get? a=some o
 | .xd fs=>∃ mA,h.Ns1 a mA∧∀ f,RelO (fs.lookup f) (mA f)
 | .rng lo hi=>∃ t u v,h.get? a=some { cls := .type "range",data := .fields #[.int lo t,.int hi u,.int 1 v] }
 | .frz o u=>h.get? a=some o∧ObjOk H h a u
 | .tbl ps=>h.get? a=some { cls := .none,data := .fields ps }
 | .met f x=>h.get? a=some (PySem.W.methodObj (.ref f) (.ref x))
 | .ext φ=>φ h∧(∃ o,h.get? a=some o)∧∀ h1 h2:Heap,φ h1→(∀ o,h1.get? a=some o→h2.get? a=some o)→φ h2
def HOk(H:Hp)(h:Heap):Prop:=∀ a o,H a=some o→ObjOk P w H h a o
end
section
variable {P:Program}{w:World}{H H':Hp}{h h':Heap}{a:Addr}{o:HO}
theorem ObjOk.lt(x:ObjOk P w H h a o):a<h.objs.size:=by
 cases o with
 | lst xs=>obtain⟨_,_,_,_,e⟩:=x;exact Heap.lt_size e
 | tup xs=>obtain⟨_,_,_,p⟩:=x;exact p.lt
 | dK kvs=>obtain⟨_,_,_,_,o,_,_,e,_⟩:=x;exact Heap.lt_size e
 | dT kvs=>obtain⟨_,_,_,_,o,_,_,e,_⟩:=x;exact Heap.lt_size e
 | set S n=>obtain⟨o,_,_,_,e,_⟩:=x;exact Heap.lt_size e
 | ins C dx fs=>obtain⟨_,_,_,e,_⟩:=x;exact Heap.lt_size e
 | own y=>obtain⟨_,e⟩:=x;exact Heap.lt_size e
 | xd fs=>obtain⟨_,⟨_,_,_,e,_⟩,_⟩:=x;exact Heap.lt_size e
 | rng lo hi=>obtain⟨_,_,_,e⟩:=x;exact Heap.lt_size e
 | frz ob u=>obtain⟨e,_⟩:=x;exact Heap.lt_size e
 | tbl ps=>exact Heap.lt_size (show h.get? a=some _ from x)
 | met f y=>exact Heap.lt_size (show h.get? a=some _ from x)
 | ext φ=>obtain⟨_,⟨_,e⟩,_⟩:=x;exact Heap.lt_size e
theorem Paired.mapP{α β:Type}{F G:α→β→Prop}:∀{l₁:List α} {l₂:List β},Paired F l₁ l₂→(∀ a b,F a b→G a b)→Paired G l₁ l₂
 | _,_,.nil,_ => .nil
 | _,_,.cons r t,f => .cons (f _ _ r) (Paired.mapP t f)
theorem ObjOk.stay(x:ObjOk P w H h a o)(k:∀ b u,(b=a∨H b=some (.own a))→h.get? b=some u→h'.get? b=some u)
  (ho:∀ b,H b=some (.own a)→H' b=some (.own a)) (ht:∀ b xs,H b=some (.tup xs)→H' b=some (.tup xs)):ObjOk P w H' h' a o:=by
 induction o with
 | lst xs=>obtain⟨z,its,n,r,e⟩:=x;exact⟨z,its,n,r,k _ _ (.inl rfl) e⟩
 | tup xs=>obtain⟨z,its,r,ob,e,c⟩:=x;exact⟨z,its,r,ob,k _ _ (.inl rfl) e,c⟩
 | dK kvs=>obtain⟨z,y,vs,r,ob,es,ep,e,c⟩:=x;exact⟨z,y,vs,r,ob,es,ep,k _ _ (.inl rfl) e,c⟩
 | dT kvs =>
  obtain⟨z,y,xs,r,ob,es,ep,e,c⟩:=x
  exact⟨z,y,xs,Paired.mapP r fun p q z=>⟨z.1,ht _ _ z.2.1,z.2.2⟩,ob,es,ep,k _ _ (.inl rfl) e,c⟩
 | set S n=>obtain⟨ob,es,ep,t,e,c⟩:=x;exact⟨ob,es,ep,t,k _ _ (.inl rfl) e,c⟩
 | ins C dx fs =>
  obtain⟨d,z,ne,e,mA,⟨od,es,ep,e2,c⟩,r⟩:=x
  exact⟨ho _ d,z,ne,k _ _ (.inl rfl) e,mA,⟨od,es,ep,k _ _ (.inr d) e2,c⟩,r⟩
 | own y=>obtain⟨ob,e⟩:=x;exact⟨ob,k _ _ (.inl rfl) e⟩
 | xd fs=>obtain⟨mA,⟨od,es,ep,e,c⟩,r⟩:=x;exact⟨mA,⟨od,es,ep,k _ _ (.inl rfl) e,c⟩,r⟩
 | rng lo hi=>obtain⟨t,u,v,e⟩:=x;exact⟨t,u,v,k _ _ (.inl rfl) e⟩
 | frz ob u ih=>obtain⟨e,q⟩:=x;exact⟨k _ _ (.inl rfl) e,ih q⟩
 | tbl ps =>
  have e:h.get? a=some { cls := .none,data := .fields ps }:=x
  show h'.get? a=some { cls := .none,data := .fields ps }
  exact k a _ (.inl rfl) e
 | met f y =>
  have e:h.get? a=some (PySem.W.methodObj (.ref f) (.ref y)):=x
  show h'.get? a=some (PySem.W.methodObj (.ref f) (.ref y))
  exact k a _ (.inl rfl) e
 | ext φ=>obtain⟨p,⟨o,e⟩,st⟩:=x;exact⟨st _ _ p fun o q=>k _ _ (.inl rfl) q,⟨o,k _ _ (.inl rfl) e⟩,st⟩
theorem HOk.lt(x:HOk P w H h)(e:H a=some o):a<h.objs.size:=(x a o e).lt
theorem HOk.fresh(x:HOk P w H h)(e:h.objs.size≤a):H a=none:=by
 cases q:H a with
 | none=>rfl
 | some u=>exact absurd (Nat.lt_of_lt_of_le (x.lt q) e) (Nat.lt_irrefl _)
theorem HOk.kept(x:HOk P w H h)(k:∀ b u,h.get? b=some u→h'.get? b=some u):HOk P w H h':=fun a o e =>
 (x a o e).stay (fun b u _ q=>k b u q) (fun _ q=>q) fun _ _ q=>q
theorem HOk.laid(x:HOk P w H h)(k:∀ b u,h.get? b=some u→h'.get? b=some u)(hp:h.objs.size≤a)(new:ObjOk P w (upd H a o) h' a o):HOk P w (upd H a o) h':=fun b u e=>by
 have hn:=x.fresh hp
 by_cases hb:b=a
 · subst hb;rw[p6]at e;cases e;exact new
 · rw[o6 hb]at e
   exact(x b u e).stay (fun c v _ q=>k c v q) (fun c q=>by rw[o6 (C7 q hn)];exact q) fun c xs q=>by rw[o6 (C7 q hn)];exact q
end
def Rd(H:Hp)(a:Addr)(u:HO):Prop:=H a=some u∨∃ o,H a=some (.frz o u)
theorem Rd.of{H:Hp}{a:Addr}{u:HO}(h:H a=some u):Rd H a u := .inl h
theorem Rd.ok{P:Program}{w:World}{H:Hp}{h:Heap}{a:Addr}{u:HO}(r:Rd H a u)(x:HOk P w H h):ObjOk P w H h a u:=by
 rcases r with r|⟨o,r⟩
 · exact x a u r
 · obtain⟨_,q⟩:=x a _ r
   exact q
def Mut:Option HO→Prop
 | some (.lst _)=>True
 | some (.dK _)=>True
 | some (.dT _)=>True
 | some (.set _ _)=>True
 | some (.ins _ _ _)=>True
 | some (.ext _)=>True
 | _=>False
section
variable {P:Program}{w:World}{H:Hp}{h h':Heap}{x e:Addr}{o':HO}
theorem HOk.write(ok:HOk P w H h)(mu:Mut (H x))(he:e=x∨H e=some (.own x))(k:∀ b u,b≠e→h.get? b=some u→h'.get? b=some u)(heo:∃ u,h'.get? e=some u)
   (new:ObjOk P w (upd H x o') h' x o'):HOk P w (upd H x o') h':=fun b u q=>by
 have nown:∀ c y,H c=some (.own y)→c≠x:=fun c y r z=>by subst z;rw[r]at mu;exact mu
 have ntup:∀ c xs,H c=some (.tup xs)→c≠x:=fun c xs r z=>by subst z;rw[r]at mu;exact mu
 by_cases hb:b=x
 · subst hb;rw[p6]at q;cases q;exact new
 · rw[o6 hb]at q
   by_cases hbe:b=e
   · have q':H b=some (.own x):=by
       rcases he with z|z
       · exact absurd (hbe.trans z) hb
       · rw[hbe];exact z
     rw[q]at q';cases q'
     obtain⟨v,hv⟩:=heo
     exact⟨v,by rw[hbe];exact hv⟩
   · refine(ok b u q).stay (fun c v hc r=>k c v ?_ r) (fun c r=>by rw[o6 (nown c b r)];exact r) fun c xs r=>by rw[o6 (ntup c xs r)];exact r
     rcases hc with rfl|hc
     · exact hbe
     · rintro rfl
       rcases he with z|z
       · exact nown c b hc z
       · rw[hc]at z;cases z;exact hb rfl
end
structure Un(fs ex:List Addr)(H H':Hp)(h h':Heap):Prop where
 keep:∀ b o,h.get? b=some o→H b=none→b ∉ fs→b ∉ ex→h'.get? b=some o
 slot:∀ b o,h.get? b=some o→H b=none→b∈fs→b ∉ ex→∃ sl,h'.get? b=some { o with slots:=sl }
 free:∀ b o,h.get? b=some o→H b=none→b ∉ ex→H' b=none
 there:∀ b o,h.get? b=some o→b ∉ ex→∃ o',h'.get? b=some o'
 tups:∀ b xs,H b=some (.tup xs)→H' b=some (.tup xs)
 frzs:∀ b o u,H b=some (.frz o u)→H' b=some (.frz o u)
 tbls:∀ b ps,H b=some (.tbl ps)→∃ more,H' b=some (.tbl (ps++more))
section
variable {fs fs' ex ex':List Addr}{H H1 H2:Hp}{h h1 h2 h':Heap}{a x e:Addr}{o:HO}
theorem Un.any(u:Un fs ex H H1 h h1){b:Addr}{ob:Obj}(q:h.get? b=some ob)(n:H b=none)(hx:b ∉ ex):∃ sl,h1.get? b=some { ob with slots:=sl }:=by
 by_cases hb:b∈fs
 · exact u.slot b ob q n hb hx
 · exact⟨ob.slots,u.keep b ob q n hb hx⟩
theorem Un.trans(a:Un fs ex H H1 h h1)(b:Un fs ex H1 H2 h1 h2):Un fs ex H H2 h h2 where
 keep:=fun c ob q n hc hx=>b.keep c ob (a.keep c ob q n hc hx) (a.free c ob q n hx) hc hx
 slot:=fun c ob q n hc hx=>by
  obtain⟨sl,e1⟩:=a.slot c ob q n hc hx
  obtain⟨sl',e2⟩:=b.slot c _ e1 (a.free c ob q n hx) hc hx
  exact⟨sl',e2⟩
 free:=fun c ob q n hx=>by
  obtain⟨o',e1⟩:=a.there c ob q hx
  exact b.free c o' e1 (a.free c ob q n hx) hx
 there:=fun c ob q hx=>by
  obtain⟨o',e1⟩:=a.there c ob q hx
  exact b.there c o' e1 hx
 tups:=fun c xs q=>b.tups c xs (a.tups c xs q)
 frzs:=fun c ob xs q=>b.frzs c ob xs (a.frzs c ob xs q)
 tbls:=fun c ps q=>by
  obtain⟨m1,e1⟩:=a.tbls c ps q
  obtain⟨m2,e2⟩:=b.tbls c _ e1
  exact⟨m1++m2,by rw[e2,Array.append_assoc]⟩
theorem Un.kept(k:∀ b u,h.get? b=some u→h'.get? b=some u):Un fs ex H H h h' :=
 ⟨fun b ob q _ _ _=>k b ob q,fun b ob q _ _ _=>⟨ob.slots,k b ob q⟩,fun _ _ _ n _=>n,fun b ob q _=>⟨ob,k b ob q⟩,fun _ _ q=>q,fun _ _ _ q=>q,fun _ ps q=>⟨#[],by rw[q];simp⟩⟩
theorem Un.refl:Un fs ex H H h h:=Un.kept fun _ _ q=>q
theorem Un.laid(k:∀ b u,h.get? b=some u→h'.get? b=some u)(hp:h.objs.size≤a)(hn:H a=none):Un fs ex H (upd H a o) h h' where
 keep:=fun b u q _ _ _=>k b u q
 slot:=fun b u q _ _ _=>⟨u.slots,k b u q⟩
 free:=fun b u q n _=>by rw[o6 (Nat.ne_of_lt (Nat.lt_of_lt_of_le (Heap.lt_size q) hp))];exact n
 there:=fun b u q _=>⟨u,k b u q⟩
 tups:=fun b xs q=>by rw[o6 (C7 q hn)];exact q
 frzs:=fun b u xs q=>by rw[o6 (C7 q hn)];exact q
 tbls:=fun b ps q=>⟨#[],by rw[o6 (C7 q hn),q];simp⟩
theorem Un.write(mu:Mut (H x))(he:e=x∨H e=some (.own x))(k:∀ b u,b≠e→h.get? b=some u→h'.get? b=some u)(heo:∃ u,h'.get? e=some u):Un fs ex H (upd H x o) h h':=by
 have hx:∀ b,H b=none→b≠x:=fun b n z=>by subst z;rw[n]at mu;exact mu
 have hb:∀ b,H b=none→b≠e:=fun b n z=>by
   subst z
   rcases he with r|r
   · exact hx b n r
   · rw[n]at r;cases r
 have hm:∀ b u,H b=some u→¬Mut (some u)→b≠x:=fun b u q nm z=>by subst z;rw[q]at mu;exact nm mu
 refine⟨fun b u q n _ _=>k b u (hb b n) q,fun b u q n _ _=>⟨u.slots,k b u (hb b n) q⟩,fun b u q n _=>by rw[o6 (hx b n)];exact n,fun b u q _=>?_,
   fun b xs q=>by rw[o6 (hm b _ q fun z=>z)];exact q,fun b u xs q=>by rw[o6 (hm b _ q fun z=>z)];exact q,fun b ps q=>⟨#[],by rw[o6 (hm b _ q fun z=>z),q];simp⟩⟩
 by_cases hbe:b=e
 · subst hbe;exact heo
 · exact⟨u,k b u hbe q⟩
theorem Un.mono(u:Un fs ex H H1 h h1)(hs:∀ b∈fs,b∈fs')(hx:∀ b∈ex,b∈ex'):Un fs' ex' H H1 h h1 :=
 ⟨fun b ob q n hb he=>u.keep b ob q n (fun z=>hb (hs b z)) fun z=>he (hx b z),fun _ _ q n _ he=>u.any q n fun z=>he (hx _ z),fun b ob q n he=>u.free b ob q n fun z=>he (hx b z),fun b ob q he=>u.there b ob q fun z=>he (hx b z),u.tups,u.frzs,u.tbls⟩
end
def trk(h:Heap)(H:Hp):List Addr:=(List.range h.objs.size).filter fun a=>(H a).isSome
def hidT(h:Heap)(H:Hp):Heap:=PySem.W.hideAll h (trk h H)
theorem Jn(h:Heap)(H:Hp):(hidT h H).objs.size=h.objs.size:=PySem.W.hideAll_size _ _
theorem JT{h:Heap}{H:Hp}{b:Addr}{o:Obj}(e:h.get? b=some o)(n:H b=none):(hidT h H).get? b=some o :=
 PySem.W.hideAll_get _ e fun hm=>by
  have q:(H b).isSome=true:=(List.mem_filter.mp hm).2
  rw[n]at q;simp at q
theorem NB{h:Heap}{H:Hp}{b:Addr}{o:Obj}(e:(hidT h H).get? b=some o):h.get? b=some o∧H b=none:=by
 have e':h.get? b=some o:=PySem.W.of_hideAll (trk h H) e
 refine⟨e',?_⟩
 cases q:H b with
 | none=>rfl
 | some x =>
  have hm:b∈trk h H:=List.mem_filter.mpr ⟨List.mem_range.mpr (Heap.lt_size e'),by simp[q]⟩
  have z:(hidT h H).get? b=none:=PySem.W.hideAll_none (trk h H) hm
  rw[z]at e;cases e
def NC(g h:Heap)(L:Addr):List (Addr×Obj):=(List.range h.objs.size).filterMap fun a=>if a=L∨(g.get? a).isSome=true then none else(h.get? a).map fun o=>(a,o)
def rest(g h:Heap)(L d:Addr):List (Addr×Obj):=(NC g h L).filter fun p=>decide (p.1≠d)
end L2
namespace L2
open PySem PySem.Spec PyProof.Rows
structure Mod(K:PySem.W.Frag)(mg:Str→Option Value)(base:Heap):Prop where
 kin:K.In base
 glob:base.Ns mainGlobals mg
 blt:∃ mb,base.Ns builtinsNs mb∧∀ x:Str,x ≠ "__name__" → mb x=bootBuiltins x
 nolimit:base.NoLimit
structure Cx where
 prog:Program
 w:World
 K:PySem.W.Frag
 mg:Str→Option Value
 base:Heap
 A:Around
 N:List Str
 s₀:Shared
 H₀:Hp
 env:Env
 outer:List Env
 stack:List Env
 ex:List Addr
 fn:Str→Bool
 calm:Bool
 pn:List (Addr×Obj)
 xe:Value→Shared→Prop
def frs(l:List Env):List Addr:=l.filterMap (·.frame)
abbrev Cx.fs(X:Cx):List Addr:=frs X.outer
def Vis(sc:Scope)(x:Str):Prop:=sc.names.lookup x=some .local∨sc.names.lookup x=some .cell∨sc.names.lookup x=some .free
def Loc(sc:Scope)(x:Str):Prop:=sc.names.lookup x=some .local∨sc.names.lookup x=some .cell
def Look(env:Env)(h:Heap)(m:Str→Option Value)(x:Str)(u:Value):Prop :=
 (env.kindOf x=some .local∧m x=some u)∨((env.kindOf x=some .cell∨env.kindOf x=some .free)∧∃ c,env.cells.lookup x=some c∧h.IsCell c (some u))
structure Cx.Ok(X:Cx):Prop where
 mod:Mod X.K X.mg X.base
 kind:X.env.scope.kind = .function
 glob:X.env.globals=mainGlobals
 blt:X.env.builtins=builtinsNs
 above:X.s₀.heap.objs.size≤X.env.locals
 inj:∀ x y c,X.env.cells.lookup x=some c→X.env.cells.lookup y=some c→x=y
 has:∀ x,(X.env.kindOf x=some .cell∨X.env.kindOf x=some .free)→∃ c,X.env.cells.lookup x=some c
 cab:∀ x c,X.fn x=true→X.env.cells.lookup x=some c→X.s₀.heap.objs.size≤c
 hd:X.calm=true→X.A.handled=none
 frames:X.A.frames=some X.stack
 stk:X.stack=X.outer∨(X.stack=X.env::X.outer∧X.env.frame=some X.env.locals)
 exf:∀ b∈X.ex,b≠X.env.locals∧∀ x c,X.env.cells.lookup x=some c→c≠b
 bs:∀ b o,X.base.get? b=some o→X.s₀.heap.get? b=some o∧X.H₀ b=none
 bsz:X.base.objs.size≤X.s₀.heap.objs.size
 noex:∀ b o,X.base.get? b=some o→b ∉ X.ex
 exfs:∀ b∈X.ex,b ∉ X.fs
 funs:X.s₀.heap.FunFrames X.base X.outer
 frf:∀ b∈X.fs,X.H₀ b=none
structure Inv(X:Cx)(pins:List (Addr×Obj))(σ:List (Option V))(H:Hp)(s:Shared):Prop where
 ok:X.Ok
 os:s.os=X.s₀.os
 bare:AllBare s.gens
 base:Un X.fs X.ex X.H₀ H X.s₀.heap s.heap
 loc:∃ m,s.heap.Ns X.env.locals m∧∀(i:Nat) (x:Str) (v:V),X.N[i]?=some x→σ[i]?=some (some v)→Vis X.env.scope x→∃ u,RelV v u∧Look X.env s.heap m x u
 cell:∀ x c,X.env.cells.lookup x=some c→∃ v,s.heap.IsCell c v
 free:H X.env.locals=none
 freeC:∀ x c,X.env.cells.lookup x=some c→H c=none
 pin:∀ p∈X.pn++pins,s.heap.get? p.1=some p.2∧H p.1=none∧p.1≠X.env.locals∧p.1 ∉ X.fs∧∀ v,p.2.data ≠ .cell v
 hok:HOk X.prog X.w H s.heap
 len:σ.length=X.N.length
section
variable {X:Cx}{pins:List (Addr×Obj)}{σ:List (Option V)}{H H':Hp}{s:Shared}{h':Heap}
theorem Cx.Ok.nofr(ok:X.Ok){b:Addr}{o:Obj}(e:X.base.get? b=some o):b ∉ X.fs:=fun hb=>by
 have:=(ok.funs.mem hb).1
 rw[e]at this;cases this
theorem Inv.bs(I:Inv X pins σ H s):∀ b o,X.base.get? b=some o→s.heap.get? b=some o∧H b=none:=fun b o e =>
 ⟨I.base.keep b o (I.ok.bs b o e).1 (I.ok.bs b o e).2 (I.ok.nofr e) (I.ok.noex b o e),I.base.free b o (I.ok.bs b o e).1 (I.ok.bs b o e).2 (I.ok.noex b o e)⟩
theorem Inv.bk(I:Inv X pins σ H s):∀ b o,X.base.get? b=some o→s.heap.get? b=some o:=fun b o e=>(I.bs b o e).1
theorem Inv.mod(I:Inv X pins σ H s):Mod X.K X.mg X.base:=I.ok.mod
theorem Inv.kIn(I:Inv X pins σ H s):X.K.In s.heap:=I.ok.mod.kin.keeps I.bk
theorem Inv.nolimit(I:Inv X pins σ H s):s.heap.NoLimit:=I.ok.mod.nolimit.keeps I.bk
theorem Inv.fr(I:Inv X pins σ H s):∃ m,Fr X.base X.env.locals s.heap m :=
 let ⟨m,hn,_⟩:=I.loc
 ⟨m,hn,I.bk,Nat.le_trans I.ok.bsz I.ok.above⟩
theorem Inv.lt(I:Inv X pins σ H s):X.env.locals<s.heap.objs.size:=let ⟨_,hn,_⟩:=I.loc;hn.lt
theorem Inv.sz(I:Inv X pins σ H s):X.s₀.heap.objs.size≤s.heap.objs.size:=Nat.le_trans I.ok.above (Nat.le_of_lt I.lt)
theorem Inv.nofs(I:Inv X pins σ H s){a:Addr}(h:s.heap.objs.size≤a):a ∉ X.fs:=fun hb=>by
 obtain⟨_,o,ho,_⟩:=I.ok.funs.mem hb
 exact absurd (Nat.lt_of_lt_of_le (Heap.lt_size ho) (Nat.le_trans I.sz h)) (Nat.lt_irrefl _)
theorem Inv.cne(I:Inv X pins σ H s):∀ x c,X.env.cells.lookup x=some c→c≠X.env.locals:=fun x c e z=>by
 obtain⟨v,o,ho,hd⟩:=I.cell x c e
 obtain⟨m,⟨o',es,ep,ho',hd',_⟩,_⟩:=I.loc
 rw[z,ho']at ho;cases ho;rw[hd']at hd;cases hd
theorem Inv.funs(I:Inv X pins σ H s):s.heap.FunFrames X.base X.outer:=by
 have all:∀(l:List Env),(∀ b∈frs l,b∈X.fs)→X.s₀.heap.FunFrames X.base l→s.heap.FunFrames X.base l:=by
  intro l
  induction l with
  | nil=>intro _ _;trivial
  | cons env r ih =>
   intro hs hl
   obtain⟨hk,⟨L,o,hf,hn,ho,hd⟩,hr⟩:=hl
   have hL:L∈X.fs:=hs L (by unfold frs;rw[List.filterMap_cons,hf];exact List.mem_cons_self)
   obtain⟨sl,e⟩:=I.base.slot L o ho (I.ok.frf L hL) hL fun z=>I.ok.exfs L z hL
   exact⟨hk,⟨L,_,hf,hn,e,hd⟩,ih (fun b hb=>hs b (by unfold frs;rw[List.filterMap_cons,hf];exact List.mem_cons_of_mem _ hb)) hr⟩
 exact all X.outer (fun _ hb=>hb) I.ok.funs
theorem Inv.stack(I:Inv X pins σ H s):s.heap.FunFrames X.base X.stack:=by
 rcases I.ok.stk with e|⟨e,hf⟩
 · rw[e];exact I.funs
 · rw[e]
   obtain⟨m,hn,_⟩:=I.loc
   refine .cons (by rw[I.ok.kind];decide) hf hn ?_ I.funs
   exact Heap.get?_none_of_le (Nat.le_trans I.ok.bsz I.ok.above)
theorem Inv.stkSub(I:Inv X pins σ H s):∀ b∈frs X.stack,b∈X.env.locals::X.fs:=fun b hb=>by
 rcases I.ok.stk with e|⟨e,hf⟩
 · rw[e]at hb;exact List.mem_cons_of_mem _ hb
 · rw[e]at hb
   unfold frs at hb
   rw[List.filterMap_cons,hf]at hb
   exact hb
theorem Inv.stkFree(I:Inv X pins σ H s):∀ b∈frs X.stack,H b=none:=fun b hb=>by
 rcases List.mem_cons.mp (I.stkSub b hb)with e|hb
 · rw[e];exact I.free
 · obtain⟨_,o,ho,_⟩:=I.ok.funs.mem hb
   exact I.base.free b o ho (I.ok.frf b hb) fun z=>I.ok.exfs b z hb
theorem Inv.step{g':Array GenState}{t':Nat}{d':Drawn}{ch:List Addr}(I:Inv X pins σ H s)
   (hch:∀ b∈ch,(b∈X.ex∨X.s₀.heap.objs.size≤b)∧b≠X.env.locals∧(∀ x c,X.env.cells.lookup x=some c→c≠b)∧∀ p∈X.pn++pins,p.1≠b)
   (keep:∀ b o,b≠X.env.locals→b ∉ X.fs→b ∉ ch→s.heap.get? b=some o→H b=none→h'.get? b=some o)
   (slot:∀ b o,b≠X.env.locals→b∈X.fs→b ∉ ch→s.heap.get? b=some o→H b=none→∃ sl,h'.get? b=some { o with slots:=sl }) (free:∀ b o,b ∉ ch→s.heap.get? b=some o→H b=none→H' b=none)
   (there:∀ b o,b ∉ ch→s.heap.get? b=some o→∃ o',h'.get? b=some o')
   (tups:∀ b xs,H b=some (.tup xs)→H' b=some (.tup xs)) (frzs:∀ b o u,H b=some (.frz o u)→H' b=some (.frz o u)) (tbls:∀ b ps,H b=some (.tbl ps)→∃ more,H' b=some (.tbl (ps++more)))
   (ns:∀ m,s.heap.Ns X.env.locals m→h'.Ns X.env.locals m) (hok:HOk X.prog X.w H' h') (hg:AllBare g') :
   Inv X pins σ H' { s with heap:=h',gens:=g',drawn:=d',toks:=t' }:=by
 have neL:∀ b o,X.s₀.heap.get? b=some o→b≠X.env.locals:=fun b o e=>Nat.ne_of_lt (Nat.lt_of_lt_of_le (Heap.lt_size e) I.ok.above)
 have neC:∀ b o,X.s₀.heap.get? b=some o→b ∉ X.ex→b ∉ ch:=fun b o e hx hb=>by
   rcases(hch b hb).1 with z|z
   · exact hx z
   · exact absurd (Nat.lt_of_lt_of_le (Heap.lt_size e) z) (Nat.lt_irrefl _)
 have cellK:∀ x c,X.env.cells.lookup x=some c→∀ v,s.heap.IsCell c v→h'.IsCell c v:=fun x c e v hZ=>hZ.elim fun o hZ=>hZ.elim fun ho hd=>by
   have nch:c ∉ ch:=fun z=>(hch c z).2.2.1 x c e rfl
   by_cases hc:c∈X.fs
   · obtain⟨sl,q⟩:=slot c o (I.cne x c e) hc nch ho (I.freeC x c e)
     exact⟨_,q,hd⟩
   · exact⟨o,keep c o (I.cne x c e) hc nch ho (I.freeC x c e),hd⟩
 refine⟨I.ok,I.os,hg,⟨fun b o e n hb hx=>?_,fun b o e n hb hx=>?_,fun b o e n hx=>?_,fun b o e hx=>?_,fun b xs e=>tups b xs (I.base.tups b xs e),fun b o xs e=>frzs b o xs (I.base.frzs b o xs e),fun b ps e=>?_⟩,?_,fun x c e=>?_,?_,fun x c e=>?_,fun p hp=>?_,hok,I.len⟩
 · exact keep b o (neL b o e) hb (neC b o e hx) (I.base.keep b o e n hb hx) (I.base.free b o e n hx)
 · obtain⟨sl,e1⟩:=I.base.slot b o e n hb hx
   obtain⟨sl',e2⟩:=slot b _ (neL b o e) hb (neC b o e hx) e1 (I.base.free b o e n hx)
   exact⟨sl',e2⟩
 · obtain⟨o',e1⟩:=I.base.there b o e hx
   exact free b o' (neC b o e hx) e1 (I.base.free b o e n hx)
 · obtain⟨o',e1⟩:=I.base.there b o e hx
   exact there b o' (neC b o e hx) e1
 · obtain⟨m1,e1⟩:=I.base.tbls b ps e
   obtain⟨m2,e2⟩:=tbls b _ e1
   exact⟨m1++m2,by rw[e2,Array.append_assoc]⟩
 · obtain⟨m,hn,hl⟩:=I.loc
   refine⟨m,ns m hn,fun i x v e1 e2 e3=>?_⟩
   obtain⟨u,r,l⟩:=hl i x v e1 e2 e3
   refine⟨u,r,?_⟩
   rcases l with l|⟨k,c,e,z⟩
   · exact .inl l
   · exact .inr ⟨k,c,e,cellK x c e _ z⟩
 · obtain⟨v,z⟩:=I.cell x c e
   exact⟨v,cellK x c e v z⟩
 · obtain⟨m,⟨o,_,_,ho,_⟩,_⟩:=I.loc
   exact free _ o (fun z=>(hch _ z).2.1 rfl) ho I.free
 · obtain⟨v,o,ho,hd⟩:=I.cell x c e
   exact free c o (fun z=>(hch c z).2.2.1 x c e rfl) ho (I.freeC x c e)
 · obtain⟨e,n,ne,nf,d⟩:=I.pin p hp
   have nch:p.1 ∉ ch:=fun z=>(hch p.1 z).2.2.2 p hp rfl
   exact⟨keep p.1 p.2 ne nf nch e n,free p.1 p.2 nch e n,ne,nf,d⟩
theorem Inv.un{t':Nat}(I:Inv X pins σ H s)(u:Un X.fs [] H H' s.heap h')(hok:HOk X.prog X.w H' h'):Inv X pins σ H' { s with heap:=h',toks:=t' }:=by
 obtain⟨m,⟨o,es,ep,ho,r⟩,_⟩:=id I.loc
 obtain⟨sl,hL⟩:=u.any ho I.free (by simp)
 exact I.step (g':=s.gens) (d':=s.drawn) (ch:=[]) (fun _ z=>nomatch z) (fun b o _ hb _ e n=>u.keep b o e n hb (by simp)) (fun b o _ hb _ e n=>u.slot b o e n hb (by simp)) (fun b o _ e n=>u.free b o e n (by simp)) (fun b o _ e=>u.there b o e (by simp)) u.tups u.frzs u.tbls (fun m' hm=>by
  obtain⟨o',es',ep',ho',r'⟩:=hm
  rw[ho]at ho';cases ho'
  exact⟨_,es',ep',hL,r'⟩) hok I.bare
theorem Inv.call{g':Array GenState}{t':Nat}{d':Drawn}{ch:List Addr}(I:Inv X pins σ H s)(u:Un (frs X.stack) ch H H' s.heap h')(hok:HOk X.prog X.w H' h')(hg:AllBare g')
  (hch:∀ b∈ch,(b∈X.ex∨X.s₀.heap.objs.size≤b)∧b≠X.env.locals∧(∀ x c,X.env.cells.lookup x=some c→c≠b)∧∀ p∈X.pn++pins,p.1≠b) :
  Inv X pins σ H' { s with heap:=h',gens:=g',drawn:=d',toks:=t' }:=by
 obtain⟨m,⟨o,es,ep,ho,r⟩,_⟩:=id I.loc
 obtain⟨sl,hL⟩:=u.any ho I.free fun z=>(hch _ z).2.1 rfl
 exact I.step (ch:=ch) hch (fun b o hL hb hc e n=>u.keep b o e n (fun z=>(List.mem_cons.mp (I.stkSub b z)).elim hL hb) hc) (fun b o _ _ hc e n=>u.any e n hc) (fun b o hc e n=>u.free b o e n hc) (fun b o hc e=>u.there b o e hc) u.tups u.frzs u.tbls (fun m' hm=>by
  obtain⟨o',es',ep',ho',r'⟩:=hm
  rw[ho]at ho';cases ho'
  exact⟨_,es',ep',hL,r'⟩) hok hg
theorem Inv.turned{t':Nat}{it:Addr}(I:Inv X pins σ H s)(k:∀ b o,b≠it→s.heap.get? b=some o→h'.get? b=some o)(hn:H it=none)(hL:it≠X.env.locals)
   (h1:it∈X.ex∨X.s₀.heap.objs.size≤it) (h2:∀ x c,X.env.cells.lookup x=some c→c≠it) (h3:∀ p∈X.pn++pins,p.1≠it):Inv X pins σ H { s with heap:=h',toks:=t' }:=by
 have nit:∀ b u,H b=some u→b≠it:=fun b u e z=>by rw[z,hn]at e;cases e
 refine I.step (g':=s.gens) (d':=s.drawn) (ch:=[it]) (fun b hb=>?_) (fun b o _ _ hc e _=>k b o (fun z=>hc (by simp[z])) e) (fun b o _ _ hc e _=>⟨o.slots,k b o (fun z=>hc (by simp[z])) e⟩) (fun _ _ _ _ n=>n)
   (fun b o hc e=>⟨o,k b o (fun z=>hc (by simp[z])) e⟩) (fun _ _ e=>e) (fun _ _ _ e=>e) (fun b ps e=>⟨#[],by rw[e];simp⟩) (fun m hm=>?_) (fun b u e=>?_) I.bare
 · have e:b=it:=by simpa using hb
   subst e
   exact⟨h1,hL,h2,h3⟩
 · obtain⟨o,es,ep,ho,r⟩:=hm
   exact⟨o,es,ep,k _ o (Ne.symm hL) ho,r⟩
 · refine(I.hok b u e).stay (fun c v hc q=>k c v ?_ q) (fun _ q=>q) fun _ _ q=>q
   rcases hc with z|z
   · rw[z];exact nit b u e
   · exact nit c _ z
theorem Inv.tok(I:Inv X pins σ H s)(t:Nat):Inv X pins σ H { s with toks:=t }:=I.un (h':=s.heap) (t':=t) Un.refl I.hok
theorem Inv.kept{t':Nat}(I:Inv X pins σ H s)(k:∀ b u,s.heap.get? b=some u→h'.get? b=some u):Inv X pins σ H { s with heap:=h',toks:=t' }:=I.un (Un.kept k) (I.hok.kept k)
theorem Inv.laid{a:Addr}{o:HO}{t':Nat}(I:Inv X pins σ H s)(k:∀ b u,s.heap.get? b=some u→h'.get? b=some u)(hp:s.heap.objs.size≤a)(new:ObjOk X.prog X.w (upd H a o) h' a o):
 Inv X pins σ (upd H a o) { s with heap:=h',toks:=t' }:=I.un (Un.laid k hp (I.hok.fresh hp)) (I.hok.laid k hp new)
theorem Inv.write{x e:Addr}{o:HO}{t':Nat}(I:Inv X pins σ H s)(mu:Mut (H x))(he:e=x∨H e=some (.own x))(k:∀ b u,b≠e→s.heap.get? b=some u→h'.get? b=some u)(heo:∃ u,h'.get? e=some u)
 (new:ObjOk X.prog X.w (upd H x o) h' x o):Inv X pins σ (upd H x o) { s with heap:=h',toks:=t' }:=I.un (Un.write mu he k heo) (I.hok.write mu he k heo new)
theorem Inv.weak{σ':List (Option V)}(I:Inv X pins σ H s)(hl:σ'.length=σ.length)(w:∀(i:Nat) v,σ'[i]?=some (some v)→σ[i]?=some (some v)):Inv X pins σ' H s :=
 ⟨I.ok,I.os,I.bare,I.base,let ⟨m,hn,hl'⟩:=I.loc;⟨m,hn,fun i x v e1 e2 e3=>hl' i x v e1 (w i v e2) e3⟩,I.cell,I.free,I.freeC,I.pin,I.hok,hl.trans I.len⟩
theorem Inv.pins_of{pins':List (Addr×Obj)}(I:Inv X pins σ H s)(h:∀ p∈pins',s.heap.get? p.1=some p.2∧H p.1=none∧p.1≠X.env.locals∧p.1 ∉ X.fs∧∀ v,p.2.data ≠ .cell v):Inv X pins' σ H s :=
 ⟨I.ok,I.os,I.bare,I.base,I.loc,I.cell,I.free,I.freeC,fun p hp=>(List.mem_append.mp hp).elim (fun z=>I.pin p (List.mem_append_left _ z)) (h p),I.hok,I.len⟩
theorem Bl{N:List Str}(hN:N.Nodup){i j:Nat}{x:Str}(a:N[i]?=some x)(b:N[j]?=some x):i=j:=by
 obtain⟨h1,e1⟩:=List.getElem?_eq_some_iff.mp a
 obtain⟨h2,e2⟩:=List.getElem?_eq_some_iff.mp b
 exact(List.getElem_inj hN).mp (e1.trans e2.symm)
theorem CI{M:Model}{A:Around}{E:Value→Shared→Prop}{i:Nat}{x:Str}{v:V}{u:Value}{Q:Unit→Shared→Prop}(I:Inv X pins σ H s)(hN:X.N.Nodup)(hi:X.N[i]?=some x)(hx:Loc X.env.scope x)(r:RelV v u)
   (h:∀ s',Inv X pins (σ.set i (some v)) H s'→(∃ a,Heap.SameBut a s.heap s'.heap∧(a=X.env.locals∨X.env.cells.lookup x=some a))→Q () s') (hf:X.fn x=true∨X.env.scope.names.lookup x=some .local:=by first|exact .inl rfl|exact .inr rfl|assumption):wpAny M A (storeName X.env x u) Q E s:=by
 obtain⟨m,hn,hl⟩:=id I.loc
 have hcls:(X.env.scope.kind == .class||(X.env.scope.kind == .module&&X.env.locals != X.env.globals))=false:=by rw[I.ok.kind];rfl
 have hiσ:i<σ.length:=by rw[I.len];exact(List.getElem?_eq_some_iff.mp hi).1
 have cne:=I.cne
 have tracked:∀{a:Addr} {h':Heap},(∃ o,s.heap.get? a=some o∧H a=none)→Heap.SameBut a s.heap h'→HOk X.prog X.w H h':=fun{a h'} ha hs b ob e=>by
   obtain⟨_,_,hfree⟩:=ha
   refine(I.hok b ob e).stay (fun c w' hc q=>(hs.2 c ?_).trans q) (fun _ q=>q) fun _ _ q=>q
   rintro rfl
   rcases hc with rfl|hc
   · rw[hfree]at e;cases e
   · rw[hfree]at hc;cases hc
 rcases hx with hk|hk
 · refine wpAny_storeName_local hk hn (fun h' hn' hs=>?_) hcls
   obtain⟨oL,_,_,hoL,_⟩:=id hn
   refine h _ ⟨I.ok,I.os,I.bare,⟨fun b o e n hb hx=>?_,fun b o e n hb hx=>?_,I.base.free,fun b o e hx=>?_,I.base.tups,I.base.frzs,I.base.tbls⟩,⟨_,hn',fun j y v' e1 e2 e3=>?_⟩,fun y c e=>?_,I.free,I.freeC,fun p hp=>?_,tracked ⟨oL,hoL,I.free⟩ hs,by simpa using I.len⟩ ⟨_,hs,.inl rfl⟩
   · exact(hs.2 b (Nat.ne_of_lt (Nat.lt_of_lt_of_le (Heap.lt_size e) I.ok.above))).trans (I.base.keep b o e n hb hx)
   · obtain⟨sl,e1⟩:=I.base.slot b o e n hb hx
     exact⟨sl,(hs.2 b (Nat.ne_of_lt (Nat.lt_of_lt_of_le (Heap.lt_size e) I.ok.above))).trans e1⟩
   · obtain⟨o',e1⟩:=I.base.there b o e hx
     exact⟨o',(hs.2 b (Nat.ne_of_lt (Nat.lt_of_lt_of_le (Heap.lt_size e) I.ok.above))).trans e1⟩
   · by_cases hj:j=i
     · subst hj
       rw[hi]at e1;cases e1
       rw[List.getElem?_set_self hiσ]at e2
       cases e2
       exact⟨u,r,.inl ⟨hk,by simp⟩⟩
     · rw[List.getElem?_set_ne (Ne.symm hj)]at e2
       obtain⟨u',r',q⟩:=hl j y v' e1 e2 e3
       refine⟨u',r',?_⟩
       rcases q with⟨k,e⟩|⟨k,c,e,z⟩
       · refine .inl ⟨k,?_⟩
         have:y≠x:=fun e=>hj (Bl hN e1 (e ▸ hi))
         simp[this,e]
       · exact .inr ⟨k,c,e,z.sameBut hs (cne y c e)⟩
   · obtain⟨w',z⟩:=I.cell y c e
     exact⟨w',z.sameBut hs (cne y c e)⟩
   · obtain⟨e,n,ne,nf,d⟩:=I.pin p hp
     exact⟨(hs.2 p.1 ne).trans e,n,ne,nf,d⟩
 · have hfn:X.fn x=true:=by
     rcases hf with z|z
     · exact z
     · rw[z]at hk;cases hk
   obtain⟨c,hc⟩:=I.ok.has x (.inl hk)
   obtain⟨w',z⟩:=I.cell x c hc
   refine wpAny_storeName_cell I.ok.kind hk hc z (fun h' hc' hs=>?_)
   obtain⟨oc,hoc,hocd⟩:=id z
   refine h { s with heap:=h' } ⟨I.ok,I.os,I.bare,⟨fun b o e n hb hx=>?_,fun b o e n hb hx=>?_,I.base.free,fun b o e hx=>?_,I.base.tups,I.base.frzs,I.base.tbls⟩,⟨m,hn.sameBut hs (Ne.symm (cne x c hc)),fun j y v' e1 e2 e3=>?_⟩,fun y c' e=>?_,I.free,I.freeC,fun p hp=>?_,tracked ⟨oc,hoc,I.freeC x c hc⟩ hs,by simpa using I.len⟩ ⟨c,hs,.inr hc⟩
   · exact(hs.2 b (Nat.ne_of_lt (Nat.lt_of_lt_of_le (Heap.lt_size e) (I.ok.cab x c hfn hc)))).trans (I.base.keep b o e n hb hx)
   · obtain⟨sl,e1⟩:=I.base.slot b o e n hb hx
     exact⟨sl,(hs.2 b (Nat.ne_of_lt (Nat.lt_of_lt_of_le (Heap.lt_size e) (I.ok.cab x c hfn hc)))).trans e1⟩
   · obtain⟨o',e1⟩:=I.base.there b o e hx
     exact⟨o',(hs.2 b (Nat.ne_of_lt (Nat.lt_of_lt_of_le (Heap.lt_size e) (I.ok.cab x c hfn hc)))).trans e1⟩
   · by_cases hj:j=i
     · subst hj
       rw[hi]at e1;cases e1
       rw[List.getElem?_set_self hiσ]at e2
       cases e2
       exact⟨u,r,.inr ⟨.inl hk,c,hc,hc'⟩⟩
     · rw[List.getElem?_set_ne (Ne.symm hj)]at e2
       obtain⟨u',r',q⟩:=hl j y v' e1 e2 e3
       refine⟨u',r',?_⟩
       rcases q with q|⟨k,c',e,z'⟩
       · exact .inl q
       · refine .inr ⟨k,c',e,z'.sameBut hs ?_⟩
         rintro rfl
         exact hj (Bl hN e1 (I.ok.inj _ _ _ e hc ▸ hi))
   · by_cases hcc:c'=c
     · subst hcc;exact⟨_,hc'⟩
     · obtain⟨w2,z2⟩:=I.cell y c' e
       exact⟨w2,z2.sameBut hs hcc⟩
   · obtain⟨e,n,ne,nf,d⟩:=I.pin p hp
     refine⟨(hs.2 p.1 ?_).trans e,n,ne,nf,d⟩
     intro q
     rw[q,hoc]at e
     have q':oc=p.2:=Option.some.inj e
     exact d w' (by rw[←q'];exact hocd)
theorem Bm{M:Model}{A:Around}{E:Value→Shared→Prop}{i:Nat}{x:Str}{v:V}{u:Value}{Q:Unit→Shared→Prop}(I:Inv X pins σ H s)(hN:X.N.Nodup)(hi:X.N[i]?=some x)(hx:Loc X.env.scope x)(r:RelV v u)
  (h:∀ s',Inv X pins (σ.set i (some v)) H s'→Q () s') (hf:X.fn x=true∨X.env.scope.names.lookup x=some .local:=by first|exact .inl rfl|exact .inr rfl|assumption):wpAny M A (storeName X.env x u) Q E s :=
 CI I hN hi hx r (fun s' I' _=>h s' I') hf
theorem Inv.call'{s':Shared}{ch:List Addr}(I:Inv X pins σ H s)(ho:s'.os=s.os)(u:Un (frs X.stack) ch H H' s.heap s'.heap)(hok:HOk X.prog X.w H' s'.heap)(hg:AllBare s'.gens)
  (hch:∀ b∈ch,(b∈X.ex∨X.s₀.heap.objs.size≤b)∧b≠X.env.locals∧(∀ x c,X.env.cells.lookup x=some c→c≠b)∧∀ p∈X.pn++pins,p.1≠b):Inv X pins σ H' s':=by
 obtain⟨h',g',d',t',o'⟩:=s'
 have e:o'=s.os:=ho
 subst e
 exact I.call (g':=g') (t':=t') (d':=d') u hok hg hch
end
abbrev XK:=Value→Option Addr→Hp→Prop
abbrev St:=List (Option V)
abbrev VK:=V→Hp→Prop
abbrev TE:=St→Hp→VK→Prop
abbrev TT:=St→Hp→(Bool→Hp→Prop)→Prop
abbrev TA:=St→Hp→(List V→Hp→Prop)→Prop
structure Ends where
 nx:St→Hp→Prop
 rt:VK
 bk:St→Hp→Prop:=fun _ _=>False
 ct:St→Hp→Prop:=fun _ _=>False
abbrev TS:=Ends→St→Hp→Prop
def EP(X:Cx)(pins:List (Addr×Obj))(σ:St)(Q:VK)(u:Value)(s':Shared):Prop:=∃ v H',Inv X pins σ H' s'∧RelV v u∧Q v H'
def TP(X:Cx)(pins:List (Addr×Obj))(σ:St)(Q:Bool→Hp→Prop)(b:Bool)(s':Shared):Prop:=∃ H',Inv X pins σ H' s'∧Q b H'
def AP(X:Cx)(pins:List (Addr×Obj))(σ:St)(Q:List V→Hp→Prop)(us:List Value)(s':Shared):Prop:=∃ vs H',Inv X pins σ H' s'∧Vals vs us∧Q vs H'
def SP(X:Cx)(pins:List (Addr×Obj))(D:Ends)(f:Flow)(s':Shared):Prop :=
 match f with
 | .next=>∃ σ' H',Inv X pins σ' H' s'∧D.nx σ' H'
 | .brk=>∃ σ' H',Inv X pins σ' H' s'∧D.bk σ' H'
 | .cont=>∃ σ' H',Inv X pins σ' H' s'∧D.ct σ' H'
 | .ret u=>∃ v σ' H',Inv X pins σ' H' s'∧RelV v u∧D.rt v H'
def PE(X:Cx)(e:Expr)(t:TE):Prop :=
 ∀(pins:List (Addr×Obj)) (s:Shared) (σ:St) (H:Hp) (Q:VK),Inv X pins σ H s→t σ H Q→wpAny (model X.prog X.w) X.A (eval e X.env) (EP X pins σ Q) X.xe s
def PT(X:Cx)(e:Expr)(t:TT):Prop :=
 ∀(pins:List (Addr×Obj)) (s:Shared) (σ:St) (H:Hp) (Q:Bool→Hp→Prop),Inv X pins σ H s→t σ H Q→wpAny (model X.prog X.w) X.A (isTrue e X.env (eval e X.env)) (TP X pins σ Q) X.xe s
def PW(X:Cx)(e:Expr)(t:TT):Prop :=
 ∀(whole:Sem Value) (pins:List (Addr×Obj)) (s:Shared) (σ:St) (H:Hp) (Q:Bool→Hp→Prop),Inv X pins σ H s→t σ H Q→wpAny (model X.prog X.w) X.A (isTrue e X.env whole) (TP X pins σ Q) X.xe s
theorem PW.pt{X:Cx}{e:Expr}{t:TT}(h:PW X e t):PT X e t:=h _
def PA(X:Cx)(es:List Expr)(t:TA):Prop :=
 ∀(pos:Pos) (pins:List (Addr×Obj)) (s:Shared) (σ:St) (H:Hp) (Q:List V→Hp→Prop),Inv X pins σ H s→t σ H Q→wpAny (model X.prog X.w) X.A (spliced (backTo pos (starEach es X.env))) (AP X pins σ Q) X.xe s
def PS(X:Cx)(st:Stmt)(t:TS):Prop :=
 ∀(pins:List (Addr×Obj)) (s:Shared) (σ:St) (H:Hp) (D:Ends),Inv X pins σ H s→t D σ H→wpAny (model X.prog X.w) X.A (exec st X.env) (SP X pins D) X.xe s
def PSs(X:Cx)(st:List Stmt)(t:TS):Prop :=
 ∀(pins:List (Addr×Obj)) (s:Shared) (σ:St) (H:Hp) (D:Ends),Inv X pins σ H s→t D σ H→wpAny (model X.prog X.w) X.A (execs st X.env) (SP X pins D) X.xe s
theorem thn{α:Type}{t:Sem α}{Q Q':α→Shared→Prop}{M:Model}{A:Around}{E:Value→Shared→Prop}{s:Shared}(h:wpAny M A t Q E s)(hQ:∀ a s,Q a s→Q' a s):wpAny M A t Q' E s:=wpAny_mono h hQ fun _ _ x=>x
end L2
namespace L2
open PySem PySem.Spec PyProof.Rows
section
variable {X:Cx}
def tVar(i:Nat):TE:=fun σ H Q=>∃ v,σ[i]?=some (some v)∧Q v H
def tC(v:V):TE:=fun _ H Q=>Q v H
theorem Bn{i:Nat}{x:Str}{pos:Pos}(hN:X.N[i]?=some x)(hv:Vis X.env.scope x)(hd:(x==("__debug__" : Str))=false:=by decide)(hcd:(x==("__classdict__" : Str))=false:=by decide):PE X (.Name x pos) (tVar i):=by
 intro pins s σ H Q I h
 obtain⟨v,e,h⟩:=h
 obtain⟨m,hn,hl⟩:=I.loc
 obtain⟨u,r,l⟩:=hl i x v hN e hv
 have fin:EP X pins σ Q u s:=⟨v,H,I,r,h⟩
 rcases l with⟨hk,hm⟩|⟨hk,c,hc,hcell⟩
 · exact wpAny_Name (wpAny_loadName_local I.ok.kind hk hn hm fin) hd
 · rcases hk with hk|hk
   · exact wpAny_Name (wpAny_loadName_cell I.ok.kind hk hc hcell fin) hd
   · exact wpAny_Name (wpAny_loadName_free I.ok.kind hk hc hcell fin hcd) hd
theorem pe_int{i j pos}:PE X (.Constant (.int i) j pos) (tC (.int i)):=fun _ _ _ H _ I h=>wpAny_Constant_int ⟨.int i,H,I.tok _,⟨_,rfl⟩,h⟩
theorem pe_bl{b j pos}:PE X (.Constant (.bool b) j pos) (tC (.bl b)):=fun _ _ _ H _ I h=>Constant_bool ⟨.bl b,H,I,rfl,h⟩
theorem pe_non{j pos}:PE X (.Constant .none j pos) (tC .non):=fun _ _ _ H _ I h=>Constant_none ⟨.non,H,I,rfl,h⟩
theorem pe_str{x j pos}:PE X (.Constant (.str x) j pos) (tC (.str x)):=fun _ _ _ H _ I h=>Calls.Constant_str ⟨.str x,H,I.tok _,⟨_,rfl⟩,h⟩
def Gl(X:Cx)(x:Str):Prop:=X.env.kindOf x=some .globalImplicit
theorem T6{E:Value→Shared→Prop}{pins:List (Addr×Obj)}{s:Shared}{σ:St}{H:Hp}{x:Str}{u:Value}{pos:Pos}{Q:Value→Shared→Prop}(I:Inv X pins σ H s)(hg:Gl X x)(hm:X.mg x=some u)(h:Q u s)
  (hd:(x==("__debug__" : Str))=false:=by decide):wpAny (model X.prog X.w) X.A (eval (.Name x pos) X.env) Q E s :=
 Calls.Name_function_global I.ok.kind hg (Calls.loadGlobal_global (by rw[I.ok.glob];exact I.mod.glob.keeps I.bk) hm h) hd
theorem DE{E:Value→Shared→Prop}{pins:List (Addr×Obj)}{s:Shared}{σ:St}{H:Hp}{x:Str}{u:Value}{pos:Pos}{Q:Value→Shared→Prop}(I:Inv X pins σ H s)(hg:Gl X x)(hm:X.mg x=none)(hv:bootBuiltins x=some u)(h:Q u s)
  (hn:x ≠ "__name__" := by decide) (hd:(x==("__debug__" : Str))=false:=by decide):wpAny (model X.prog X.w) X.A (eval (.Name x pos) X.env) Q E s:=by
 obtain⟨mb,h1,h2⟩:=I.mod.blt
 exact Calls.Name_function_global I.ok.kind hg (Calls.loadGlobal_builtin (by rw[I.ok.glob];exact I.mod.glob.keeps I.bk) hm (by rw[I.ok.blt];exact h1.keeps I.bk) ((h2 x hn).trans hv) h) hd
theorem ND{x:Str}{v:V}{u:Value}{pos:Pos}(hg:Gl X x)(hm:X.mg x=some u)(r:RelV v u)(hd:(x==("__debug__" : Str))=false:=by decide):PE X (.Name x pos) (tC v) :=
 fun _ _ _ H _ I h=>T6 I hg hm ⟨v,H,I,r,h⟩ hd
theorem NE{x:Str}{v:V}{u:Value}{pos:Pos}(hg:Gl X x)(hm:X.mg x=none)(hv:bootBuiltins x=some u)(r:RelV v u)(hn:x ≠ "__name__" := by decide)(hd:(x==("__debug__" : Str))=false:=by decide):PE X (.Name x pos) (tC v) :=
 fun _ _ _ H _ I h=>DE I hg hm hv ⟨v,H,I,r,h⟩ hn hd
variable {a b:Expr}{ta tb:TE}{pos:Pos}
variable {tA tB':TT}{rest:List Expr}
def tAnd(t u:TT):TT:=fun σ H Q=>t σ H fun c H1=>if c=true then u σ H1 Q else Q false H1
def tOr(t u:TT):TT:=fun σ H Q=>t σ H fun c H1=>if c=true then Q true H1 else u σ H1 Q
def tNot(t:TT):TT:=fun σ H Q=>t σ H fun c H1=>Q (!c) H1
theorem NF(ha:PT X a tA):PW X (.BoolOp .And [a] pos) tA:=by
 intro wh pins s σ H Q I h
 refine isTrue_and (thn (ha pins s σ H Q I h) fun c s1 e=>?_)
 cases c with
 | true=>exact isTrue_and_nil e
 | false=>exact e
theorem pw_or1(ha:PT X a tA):PW X (.BoolOp .Or [a] pos) tA:=by
 intro wh pins s σ H Q I h
 refine isTrue_or (thn (ha pins s σ H Q I h) fun c s1 e=>?_)
 cases c with
 | false=>exact isTrue_or_nil e
 | true=>exact e
theorem pw_and(ha:PT X a tA)(hb:PW X (.BoolOp .And (b::rest) pos) tB'):PW X (.BoolOp .And (a::b::rest) pos) (tAnd tA tB'):=by
 intro wh pins s σ H Q I h
 refine isTrue_and (thn (ha pins s σ H _ I h) ?_)
 rintro c s1 ⟨H1,I1,q1⟩
 cases c with
 | true=>exact hb wh pins s1 σ H1 Q I1 q1
 | false=>exact⟨H1,I1,q1⟩
theorem pw_or(ha:PT X a tA)(hb:PW X (.BoolOp .Or (b::rest) pos) tB'):PW X (.BoolOp .Or (a::b::rest) pos) (tOr tA tB'):=by
 intro wh pins s σ H Q I h
 refine isTrue_or (thn (ha pins s σ H _ I h) ?_)
 rintro c s1 ⟨H1,I1,q1⟩
 cases c with
 | true=>exact⟨H1,I1,q1⟩
 | false=>exact hb wh pins s1 σ H1 Q I1 q1
theorem pt_not(ha:PT X a tA):PT X (.UnaryOp .Not a pos) (tNot tA):=by
 intro pins s σ H Q I h
 exact isTrue_not (ha pins s σ H (fun c H1=>Q (!c) H1) I h)
def tAndV(ta tb:TE):TE:=fun σ H Q=>ta σ H fun x H1=>∃ c,x = .bl c∧if c=true then tb σ H1 Q else Q (.bl false) H1
def tNotV(ta:TE):TE:=fun σ H Q=>ta σ H fun x H1=>∃ c,x = .bl c∧Q (.bl (!c)) H1
theorem pe_one{op}{t:TE}(h:PE X a t):PE X (.BoolOp op [a] pos) t:=fun pins s σ H Q I hw=>BoolOp_one (h pins s σ H Q I hw)
theorem pe_and(ha:PE X a ta)(hb:PE X (.BoolOp .And (b::rest) pos) tb):PE X (.BoolOp .And (a::b::rest) pos) (tAndV ta tb):=by
 intro pins s σ H Q I h
 refine BoolOp_and (thn (ha pins s σ H _ I h) ?_)
 rintro v s1 ⟨x,H1,I1,r1,q1⟩
 obtain⟨c,rfl,q1⟩:=q1
 cases r1
 refine wpAny_truthy_bool ?_
 cases c with
 | true=>exact hb pins s1 σ H1 Q I1 q1
 | false=>exact⟨.bl false,H1,I1,rfl,q1⟩
theorem pe_not(ha:PE X a ta):PE X (.UnaryOp .Not a pos) (tNotV ta):=by
 intro pins s σ H Q I h
 refine UnaryOp_ (thn (ha pins s σ H _ I h) ?_)
 rintro v s1 ⟨x,H1,I1,r1,q1⟩
 obtain⟨c,rfl,q1⟩:=q1
 cases r1
 exact not_of (wpAny_truthy_bool ⟨.bl (!c),H1,I1,rfl,q1⟩)
def tIf(t:TT)(ta tb:TE):TE:=fun σ H Q=>t σ H fun c H1=>if c=true then ta σ H1 Q else tb σ H1 Q
theorem JU{c:Expr}(hc:PT X c tA)(ha:PE X a ta)(hb:PE X b tb):PE X (.IfExp c a b pos) (tIf tA ta tb):=by
 intro pins s σ H Q I h
 refine wpAny_IfExp (thn (hc pins s σ H _ I h) ?_)
 rintro d s1 ⟨H1,I1,q1⟩
 cases d with
 | true=>exact ha pins s1 σ H1 Q I1 q1
 | false=>exact hb pins s1 σ H1 Q I1 q1
end
end L2
namespace L2
open PySem PySem.Spec PyProof.Rows
def SqL(K:PySem.W.Frag)(H:Hp)(a:Addr)(xs:List V):Prop :=
 Rd H a (.lst xs) ∨
  ∃(o:Obj) (its:Array Value) (n:Nat),K.lookup a=some o∧o.cls = .type "list" ∧ o.dict=none∧o.data = .seq its n∧its.size≤sizeLine∧Vals xs its.toList
def SqT(K:PySem.W.Frag)(H:Hp)(a:Addr)(xs:List V):Prop :=
 Rd H a (.tup xs) ∨
  ∃(o:Obj) (its:Array Value) (n:Nat),K.lookup a=some o∧o.cls = .type "tuple" ∧ o.data = .seq its n∧its.size≤sizeLine∧Vals xs its.toList
def absV:Value→Option V
 | .none=>some .non
 | .bool b=>some (.bl b)
 | .int i _=>some (.int i)
 | .str x _=>some (.str x)
 | .bytes b _=>some (.byt b)
 | .float b _=>some (.flt b)
 | .ref a=>some (.ref a)
 | .type n=>some (.ty n)
 | _=>none
theorem RelV.abs{x:V}{u:Value}(r:RelV x u):absV u=some x:=by
 cases x with
 | non=>cases r;rfl
 | bl _=>cases r;rfl
 | int _=>obtain⟨t,rfl⟩:=r;rfl
 | str _=>obtain⟨t,rfl⟩:=r;rfl
 | byt _=>obtain⟨t,rfl⟩:=r;rfl
 | flt _=>obtain⟨t,rfl⟩:=r;rfl
 | ref _=>cases r;rfl
 | ty _=>cases r;rfl
theorem RelV.inj{x y:V}{u:Value}(r:RelV x u)(q:RelV y u):x=y:=Option.some.inj (r.abs.symm.trans q.abs)
theorem Vals.inj:∀{xs ys:List V} {us:List Value},Vals xs us→Vals ys us→xs=ys
 | _,_,_,.nil,.nil=>rfl
 | _,_,_,.cons r t,.cons r' t'=>by rw[r.inj r',Vals.inj t t']
section
variable {X:Cx}{pins:List (Addr×Obj)}{σ:St}{H:Hp}{s:Shared}{a:Addr}{xs ys:List V}
theorem SqL.of{K:PySem.W.Frag}(h:H a=some (.lst xs)):SqL K H a xs := .inl (.inl h)
theorem SqT.of{K:PySem.W.Frag}(h:H a=some (.tup xs)):SqT K H a xs := .inl (.inl h)
theorem Inv.list(I:Inv X pins σ H s)(h:SqL X.K H a xs):∃ its:List Value,Vals xs its∧PlainL s.heap a its.toArray∧xs.length≤sizeLine:=by
 rcases h with h|⟨o,its,n,hk,hc,hd,hs,hz,r⟩
 · obtain⟨z,its,n,r,e⟩:=h.ok I.hok
   exact⟨its,r,⟨_,n,e,rfl,rfl,rfl⟩,z⟩
 · refine⟨its.toList,r,⟨o,n,I.kIn a o hk,hc,hd,by simpa using hs⟩,?_⟩
   have e:=r.length
   simp only[Array.length_toList]at e
   omega
theorem Inv.tuple(I:Inv X pins σ H s)(h:SqT X.K H a xs):∃ its:List Value,Vals xs its∧IsTup s.heap a its.toArray∧xs.length≤sizeLine:=by
 rcases h with h|⟨o,its,n,hk,hc,hs,hz,r⟩
 · obtain⟨z,its,r,p⟩:=h.ok I.hok
   exact⟨its,r,p,z⟩
 · refine⟨its.toList,r,⟨o,I.kIn a o hk,hc,n,by simpa using hs⟩,?_⟩
   have e:=r.length
   simp only[Array.length_toList]at e
   omega
theorem Inv.list_inj(I:Inv X pins σ H s)(h:SqL X.K H a xs)(h':SqL X.K H a ys):xs=ys:=by
 obtain⟨its,r,⟨o,n,e,_,_,d⟩,_⟩:=I.list h
 obtain⟨its',r',⟨o',n',e',_,_,d'⟩,_⟩:=I.list h'
 rw[e]at e';cases e'
 rw[d]at d'
 injection d' with d1 _
 have:its=its':=by simpa using congrArg Array.toList d1
 subst this
 exact r.inj r'
theorem Inv.tuple_inj(I:Inv X pins σ H s)(h:SqT X.K H a xs)(h':SqT X.K H a ys):xs=ys:=by
 obtain⟨its,r,⟨o,e,_,n,d⟩,_⟩:=I.tuple h
 obtain⟨its',r',⟨o',e',_,n',d'⟩,_⟩:=I.tuple h'
 rw[e]at e';cases e'
 rw[d]at d'
 injection d' with d1 _
 have:its=its':=by simpa using congrArg Array.toList d1
 subst this
 exact r.inj r'
end
abbrev Cx.wish(X:Cx)(E:Value→Shared→Prop):Cx:={ X with xe:=E }
abbrev Cx.nox(X:Cx):Cx:=X.wish fun _ _=>False
theorem Cx.Ok.wish{X:Cx}(ok:X.Ok)(E:Value→Shared→Prop):(X.wish E).Ok :=
 ⟨ok.mod,ok.kind,ok.glob,ok.blt,ok.above,ok.inj,ok.has,ok.cab,ok.hd,ok.frames,ok.stk,ok.exf,ok.bs,ok.bsz,ok.noex,ok.exfs,ok.funs,ok.frf⟩
theorem Cx.Ok.unwish{X:Cx}{E:Value→Shared→Prop}(ok:(X.wish E).Ok):X.Ok :=
 ⟨ok.mod,ok.kind,ok.glob,ok.blt,ok.above,ok.inj,ok.has,ok.cab,ok.hd,ok.frames,ok.stk,ok.exf,ok.bs,ok.bsz,ok.noex,ok.exfs,ok.funs,ok.frf⟩
section
variable {X:Cx}{pins:List (Addr×Obj)}{σ:St}{H:Hp}{s:Shared}{E:Value→Shared→Prop}
theorem Inv.wish(I:Inv X pins σ H s)(E:Value→Shared→Prop):Inv (X.wish E) pins σ H s:=⟨I.ok.wish E,I.os,I.bare,I.base,I.loc,I.cell,I.free,I.freeC,I.pin,I.hok,I.len⟩
theorem Inv.unwish(I:Inv (X.wish E) pins σ H s):Inv X pins σ H s:=⟨I.ok.unwish,I.os,I.bare,I.base,I.loc,I.cell,I.free,I.freeC,I.pin,I.hok,I.len⟩
theorem SP.unwish{D:Ends}{f:Flow}{s':Shared}(h:SP (X.wish E) pins D f s'):SP X pins D f s':=by
 cases f with
 | next=>obtain⟨σ',H',I,q⟩:=h;exact⟨σ',H',I.unwish,q⟩
 | brk=>obtain⟨σ',H',I,q⟩:=h;exact⟨σ',H',I.unwish,q⟩
 | cont=>obtain⟨σ',H',I,q⟩:=h;exact⟨σ',H',I.unwish,q⟩
 | ret u=>obtain⟨v,σ',H',I,r,q⟩:=h;exact⟨v,σ',H',I.unwish,r,q⟩
theorem PE.nox{e:Expr}{t:TE}(h:PE X.nox e t):PE X e t:=fun pins s σ H Q I hw =>
 wpAny_mono (h pins s σ H Q (I.wish _) hw) (fun _ _ hZ=>hZ.elim fun v hZ=>hZ.elim fun H' hZ=>hZ.elim fun I' hZ=>hZ.elim fun r q=>⟨v,H',I'.unwish,r,q⟩) fun _ _ z=>False.elim z
theorem PT.nox{e:Expr}{t:TT}(h:PT X.nox e t):PT X e t:=fun pins s σ H Q I hw =>
 wpAny_mono (h pins s σ H Q (I.wish _) hw) (fun _ _ hZ=>hZ.elim fun H' hZ=>hZ.elim fun I' q=>⟨H',I'.unwish,q⟩) fun _ _ z=>False.elim z
theorem PSs.nox{st:List Stmt}{t:TS}(h:PSs X.nox st t):PSs X st t:=fun pins s σ H D I hw =>
 wpAny_mono (h pins s σ H D (I.wish _) hw) (fun _ _ q=>q.unwish) fun _ _ z=>False.elim z
end
section
variable {X:Cx}{st:Stmt}{rest:List Stmt}{t u:TS}{e:Expr}{te:TE}{pos:Pos}
def tNext:TS:=fun D σ H=>D.nx σ H
def tSeq(t u:TS):TS:=fun D σ H=>t { D with nx:=u D } σ H
theorem NG:PSs X [] tNext:=fun _ _ σ H _ I h=>wpAny_execs_nil ⟨σ,H,I,h⟩
theorem JV(h1:PS X st t)(h2:PSs X rest u):PSs X (st::rest) (tSeq t u):=by
 intro pins s σ H D I h
 refine wpAny_execs_cons (thn (h1 pins s σ H { D with nx:=u D } I h) fun f s1 q=>?_)
 cases f with
 | next =>
  obtain⟨σ',H',I',q⟩:=q
  exact h2 pins s1 σ' H' D I' q
 | ret v=>exact q
 | brk=>exact q
 | cont=>exact q
theorem NH(h1:PS X st t):PSs X [st] t:=by
 intro pins s σ H D I h
 refine wpAny_execs_cons (thn (h1 pins s σ H D I h) fun f s1 q=>?_)
 cases f with
 | next=>exact wpAny_execs_nil q
 | ret v=>exact q
 | brk=>exact q
 | cont=>exact q
theorem Inv.quiet{pins:List (Addr×Obj)}{σ:St}{H:Hp}{s:Shared}(I:Inv X pins σ H s):interactive X.env=false:=by simp[interactive,I.ok.kind]
def tDrop(te:TE):TS:=fun D σ H=>te σ H fun _ H1=>D.nx σ H1
theorem Y0(he:PE X e te)(hs:swapsWith e none pos.line X.env=pure false:=by rfl):PS X (.Expr e pos) (tDrop te):=by
 intro pins s σ H D I h
 exact wpAny_Expr_any (thn (he pins s σ H _ I h) fun v s1 hZ=>hZ.elim fun x hZ=>hZ.elim fun H1 hZ=>hZ.elim fun I1 hZ=>hZ.elim fun r1 q1=>⟨σ,H1,I1,q1⟩) I.quiet hs
def tRet(te:TE):TS:=fun D σ H=>te σ H D.rt
theorem JW(he:PE X e te):PS X (.Return (some e) pos) (tRet te):=by
 intro pins s σ H D I h
 exact wpAny_Return_some (thn (he pins s σ H _ I h) fun v s1 hZ=>hZ.elim fun x hZ=>hZ.elim fun H1 hZ=>hZ.elim fun I1 hZ=>hZ.elim fun r1 q1=>⟨x,σ,H1,I1,r1,q1⟩)
def tIfS(c:TT)(t u:TS):TS:=fun D σ H=>c σ H fun b H1=>if b=true then t D σ H1 else u D σ H1
theorem ps_if{c:Expr}{a b:List Stmt}{tc:TT}(hc:PT X c tc)(ha:PSs X a t)(hb:PSs X b u):PS X (.If c a b pos) (tIfS tc t u):=by
 intro pins s σ H D I h
 refine wpAny_If (thn (hc pins s σ H _ I h) ?_)
 rintro d s1 ⟨H1,I1,q1⟩
 cases d with
 | true=>exact ha pins s1 σ H1 D I1 q1
 | false=>exact hb pins s1 σ H1 D I1 q1
end
abbrev TG:=V→St→Hp→(St→Hp→Prop)→Prop
abbrev TGs:=List V→St→Hp→(St→Hp→Prop)→Prop
def PG(X:Cx)(target:Expr)(t:TG):Prop :=
 ∀(pins:List (Addr×Obj)) (s:Shared) (σ:St) (H:Hp) (v:V) (u:Value) (Q:St→Hp→Prop),Inv X pins σ H s→RelV v u→t v σ H Q →
  wpAny (model X.prog X.w) X.A (assign target X.env u) (fun _ s'=>∃ σ' H',Inv X pins σ' H' s'∧Q σ' H') X.xe s
abbrev TSet:=V→V→V→Hp→(Hp→Prop)→Prop
def PSet(X:Cx)(t:TSet):Prop :=
 ∀(pins:List (Addr×Obj)) (s:Shared) (σ:St) (H:Hp) (o i v:V) (ov iv u:Value) (Q:Hp→Prop),Inv X pins σ H s→RelV o ov→RelV i iv→RelV v u→t o i v H Q →
  wpAny (model X.prog X.w) X.A (setItem ov iv u) (fun _ s'=>∃ H',Inv X pins σ H' s'∧Q H') X.xe s
section
variable {X:Cx}{pos:Pos}
def CJ(i:Nat):TG:=fun v σ H Q=>Q (σ.set i (some v)) H
theorem NI{i:Nat}{x:Str}(hN:X.N.Nodup)(hi:X.N[i]?=some x)(hx:Loc X.env.scope x)(hf:X.fn x=true∨X.env.scope.names.lookup x=some .local:=by first|exact .inl rfl|exact .inr rfl|assumption):PG X (.Name x pos) (CJ i):=by
 intro pins s σ H v u Q I r h
 exact wpAny_assign_Name (Bm I hN hi hx r (fun s' I'=>⟨_,H,I',h⟩) hf)
def gNil:TGs:=fun vs σ H Q=>vs=[]∧Q σ H
def gCons(t:TG)(u:TGs):TGs:=fun vs σ H Q=>∃ v r,vs=v::r∧t v σ H fun σ' H'=>u r σ' H' Q
def gTup(K:PySem.W.Frag)(n:Nat)(t:TGs):TG:=fun v σ H Q=>∃ a xs,v = .ref a∧SqT K H a xs∧xs.length=n∧t xs σ H Q
def gSub(to ti:TE)(t:TSet):TG:=fun v σ H Q=>to σ H fun o H1=>ti σ H1 fun i H2=>t o i v H2 fun H3=>Q σ H3
theorem pg_sub{o i:Expr}{to ti:TE}{t:TSet}(ho:PE X o to)(hi:PE X i ti)(hs:PSet X t)
  (ha:∀ v,assign (.Subscript o i pos) X.env v=(do
   let ov ←holding [v] (eval o X.env)
   let iv ←holding [v,ov] (eval i X.env)
   standAt pos
   holding [v,ov,iv] (setItem ov iv v)
   release [v,ov,iv] []):=by intro _;rfl):PG X (.Subscript o i pos) (gSub to ti t):=by
 intro pins s σ H v u Q I r h
 rw[ha]
 refine wpAny_bind (wpAny_holding (thn (ho pins s σ H _ I h) ?_))
 rintro ov s1 ⟨x,H1,I1,r1,q1⟩
 refine wpAny_bind (wpAny_holding (thn (hi pins s1 σ H1 _ I1 q1) ?_))
 rintro iv s2 ⟨y,H2,I2,r2,q2⟩
 refine wpAny_bind (wpAny_standAt (wpAny_bind (wpAny_holding (thn (hs pins s2 σ H2 x y v ov iv u _ I2 r1 r2 r q2) ?_))))
 rintro _ s3 ⟨H3,I3,q3⟩
 exact wpAny_release ⟨σ,H3,I3,q3⟩
def tAsg(te:TE)(g:TG):TS:=fun D σ H=>te σ H fun x H1=>g x σ H1 D.nx
theorem ps_asg{tg e:Expr}{te:TE}{g:TG}(he:PE X e te)(hg:PG X tg g)(hs:swapsWithSole [tg] e pos.line X.env=pure false:=by rfl)(hw:swappedStores [tg] e X.env=pure none:=by rfl)
  (h1:(assignEach [tg] X.env).map (·.2)=[assign tg X.env]:=by rfl):PS X (.Assign [tg] e pos) (tAsg te g):=by
 intro pins s σ H D I h
 refine wpAny_Assign_stores (thn (he pins s σ H _ I h) fun v s1 hZ=>hZ.elim fun x hZ=>hZ.elim fun H1 hZ=>hZ.elim fun I1 hZ=>hZ.elim fun r1 q1=>?_) hs hw
 rw[h1]
 exact thn (hg pins s1 σ H1 x v _ I1 r1 q1) fun _ s2 q=>q
theorem JX{i:Nat}{x:Str}{e:Expr}{te:TE}{pos':Pos}(hN:X.N.Nodup)(hi:X.N[i]?=some x)(hx:Loc X.env.scope x)(he:PE X e te)(hs:swapsWith e (some (.Name x pos')) pos.line X.env=pure false:=by rfl)(hf:X.fn x=true∨X.env.scope.names.lookup x=some .local:=by first|exact .inl rfl|exact .inr rfl|assumption):
  PS X (.Assign [.Name x pos'] e pos) (tAsg te (CJ i)):=by
 intro pins s σ H D I h
 refine wpAny_Assign_Name (thn (he pins s σ H _ I h) fun v s1 hZ=>hZ.elim fun y hZ=>hZ.elim fun H1 hZ=>hZ.elim fun I1 hZ=>hZ.elim fun r1 q1=>?_) hs
 exact Bm I1 hN hi hx r1 (fun s2 I2=>⟨_,H1,I2,q1⟩) hf
end
section
variable {X:Cx}{pos:Pos}
end
structure It where
 go:Nat→Hp→Prop
 yld:Nat→Hp→V→Hp→Prop
 stop:Nat→Hp→Prop
def FpOk(X:Cx)(pins:List (Addr×Obj))(H:Hp)(b:Addr):Prop :=
 H b=none∧b≠X.env.locals∧b ∉ X.fs∧(b∈X.ex∨X.s₀.heap.objs.size≤b)∧(∀ x c,X.env.cells.lookup x=some c→c≠b)∧∀ p∈X.pn++pins,p.1≠b
theorem Inv.fpOk{X:Cx}{pins:List (Addr×Obj)}{σ:St}{H H':Hp}{s:Shared}{b:Addr}(I:Inv X pins σ H s)(hb:s.heap.objs.size≤b)(hn:H' b=none):FpOk X pins H' b:=by
 refine⟨hn,Nat.ne_of_gt (Nat.lt_of_lt_of_le I.lt hb),I.nofs hb,.inr (Nat.le_trans I.sz hb),fun x c e z=>?_,fun p hp z=>?_⟩
 · obtain⟨v,q⟩:=I.cell x c e
   exact absurd (Nat.lt_of_lt_of_le q.lt (by rw[z];exact hb)) (Nat.lt_irrefl _)
 · exact absurd (Nat.lt_of_lt_of_le (Heap.lt_size (I.pin p hp).1) (by rw[z];exact hb)) (Nat.lt_irrefl _)
structure Turn(P:Program)(w:World)(K:PySem.W.Frag)(tg:Expr)(J:It)(fp:List Addr)(it:Addr)(tn:Nat→Heap→Prop):Prop where
 mem:it∈fp
 obj:∀ i h,tn i h→∀ b∈fp,∃ o,h.get? b=some o∧∀ v,o.data ≠ .cell v
 keep:∀ i h h',tn i h→(∀ b∈fp,∀ o,h.get? b=some o→h'.get? b=some o)→tn i h'
 item:∀(X:Cx),X.prog=P→X.w=w→X.K=K→X.calm=true→∀(i:Nat) (pins:List (Addr×Obj)) (s:Shared) (σ:St) (H:Hp) (E:Value→Shared→Prop),Inv X pins σ H s→(∀ b∈fp,FpOk X pins H b)→tn i s.heap→J.go i H →
  wpAny (model P w) X.A (pyNext (.ref it)) (fun r s1=>∃ u,r=some u ∧
   wpAny (model P w) X.A (letOwnedTupleGo tg (.ref it) u) (fun _ s2=>∃ x H',Inv X pins σ H' s2∧RelV x u∧J.yld i H x H'∧tn (i+1) s2.heap∧∀ b∈fp,H' b=none) E s1) E s
 done:∀(X:Cx),X.prog=P→X.w=w→X.K=K→X.calm=true→∀(i:Nat) (pins:List (Addr×Obj)) (s:Shared) (σ:St) (H:Hp) (E:Value→Shared→Prop),Inv X pins σ H s→(∀ b∈fp,FpOk X pins H b)→tn i s.heap→J.stop i H →
  wpAny (model P w) X.A (pyNext (.ref it)) (fun r s1=>r=none∧Inv X pins σ H s1) E s
 self:∀(A:Around) (i:Nat) (s:Shared) (Q:Value→Shared→Prop) (E:Value→Shared→Prop),tn i s.heap→Q (.ref it) s→wpAny (model P w) A (pyIter (.ref it)) Q E s
abbrev TI:=St→Hp→(It→Hp→Prop)→Prop
def PIE(X:Cx)(pins:List (Addr×Obj))(σ:St)(tg:Expr)(R:It→Hp→Prop)(itv:Value)(s2:Shared):Prop :=
 ∃(it:Addr) (fp:List Addr) (tn:Nat→Heap→Prop) (J:It) (H':Hp),itv = .ref it∧Inv X pins σ H' s2∧Turn X.prog X.w X.K tg J fp it tn∧tn 0 s2.heap∧(∀ b∈fp,FpOk X pins H' b)∧R J H'
def PI(X:Cx)(tg iter:Expr)(wi:TI):Prop :=
 ∀(pins:List (Addr×Obj)) (s:Shared) (σ:St) (H:Hp) (R:It→Hp→Prop),Inv X pins σ H s→wi σ H R →
  wpAny (model X.prog X.w) X.A (eval iter X.env) (fun v s1=>wpAny (model X.prog X.w) X.A (pyIter v) (PIE X pins σ tg R) X.xe s1) X.xe s
theorem Ix{M:Model}{A:Around}{E:Value→Shared→Prop}{s:Shared}{tg:Expr}{it:Addr}{u:Value}{o:Obj}{n:String}{vs:Array Value}{Q:Unit→Shared→Prop}(ho:s.heap.get? it=some o)(hc:o.cls = .type n)(hd:o.data = .fields vs)
    (hn:["enumerate", "zip", "dict_itemiterator", "dict_reverseitemiterator", "odict_iterator", "itertools.zip_longest", "itertools.pairwise"].contains n=false) (hQ:Q () s):wpAny M A (letOwnedTupleGo tg (.ref it) u) Q E s:=by
  unfold letOwnedTupleGo
  cases tg<;>first
    | exact wpAny_pure hQ
    | (cases u<;>first
        | exact wpAny_pure hQ
        | (refine wpAny_bind (wpAny_load ho ?_)
           rw[hc,hd]
           show wpAny M A (if(["enumerate", "zip", "dict_itemiterator", "dict_reverseitemiterator", "odict_iterator", "itertools.zip_longest", "itertools.pairwise"].contains n&&vs[0]?==some (rawInt _))=true then _ else _) Q E s
           rw[if_neg (by intro h;rw[hn,Bool.false_and]at h;cases h)]
           exact wpAny_pure hQ))
def Itl(K:PySem.W.Frag)(a:Addr):It :=
 ⟨fun i H=>∃ xs x,SqL K H a xs∧xs[i]?=some x,fun i H x H'=>H'=H∧∀ xs,SqL K H a xs→xs[i]?=some x,fun i H=>∃ xs,SqL K H a xs∧xs.length≤i⟩
def Itt(K:PySem.W.Frag)(a:Addr):It :=
 ⟨fun i H=>∃ xs x,SqT K H a xs∧xs[i]?=some x,fun i H x H'=>H'=H∧∀ xs,SqT K H a xs→xs[i]?=some x,fun i H=>∃ xs,SqT K H a xs∧xs.length≤i⟩
def Itr(lo:Int)(n:Nat):It:=⟨fun i _=>i<n,fun i H x H'=>H'=H∧x = .int (lo+i),fun i _=>n≤i⟩
theorem Jo{P:Program}{w:World}{K:PySem.W.Frag}{tg:Expr}(a it:Addr):Turn P w K tg (Itl K a) [it] it (fun i h=>h.IsListIter it a i) where
 mem:=by simp
 obj:=fun i h st b hb=>by
  have e:b=it:=by simpa using hb
  subst e
  obtain⟨o,e,c,d⟩:=st
  exact⟨o,e,fun v z=>by rw[d]at z;cases z⟩
 keep:=fun i h h' st k=>st.at fun o e=>k it (by simp) o e
 item:=by
  intro X hP hw hK hc i pins s σ H E I hf st hg
  subst hP hw hK
  obtain⟨xs,x,hq,hx⟩:=hg
  obtain⟨its,rv,p,hz⟩:=I.list hq
  obtain⟨u,hu,ru⟩:=rv.get hx
  obtain⟨f0,f1,f2,f3,f4,f5⟩:=hf it (by simp)
  refine wpAny_pyNext_list_item st p.isList (x:=u) (by simpa using hu) fun h' st' sb=>?_
  have I1:Inv X pins σ H { s with heap:=h' }:=I.turned (t':=s.toks) (fun b o hb e=>(sb.2 b hb).trans e) f0 f1 f3 f4 f5
  obtain⟨o,e,c,d⟩:=id st'
  exact⟨u,rfl,Ix (s:={ s with heap:=h' }) e c d (by decide) ⟨x,H,I1,ru,⟨rfl,fun ys hy=>by rw[I.list_inj hy hq];exact hx⟩,st',fun b hb=>(hf b hb).1⟩⟩
 done:=by
  intro X hP hw hK hc i pins s σ H E I hf st hg
  subst hP hw hK
  obtain⟨xs,hq,hx⟩:=hg
  obtain⟨its,rv,p,hz⟩:=I.list hq
  obtain⟨f0,f1,f2,f3,f4,f5⟩:=hf it (by simp)
  have hl:=rv.length
  exact wpAny_pyNext_list_end (I.ok.hd hc) st p.isList (by simp;omega) fun h' eb=>⟨rfl,I.turned (t':=s.toks) (fun b o hb e=>eb b o hb e) f0 f1 f3 f4 f5⟩
 self:=fun _ _ _ _ _ st h=>wpAny_pyIter_listiter st h
theorem Gb{P:Program}{w:World}{K:PySem.W.Frag}{tg:Expr}(a it:Addr):Turn P w K tg (Itt K a) [it] it (fun i h=>h.IsTupleIter it a i) where
 mem:=by simp
 obj:=fun i h st b hb=>by
  have e:b=it:=by simpa using hb
  subst e
  obtain⟨o,e,c,d⟩:=st
  exact⟨o,e,fun v z=>by rw[d]at z;cases z⟩
 keep:=fun i h h' st k=>st.at fun o e=>k it (by simp) o e
 item:=by
  intro X hP hw hK hc i pins s σ H E I hf st hg
  subst hP hw hK
  obtain⟨xs,x,hq,hx⟩:=hg
  obtain⟨its,rv,p,hz⟩:=I.tuple hq
  obtain⟨u,hu,ru⟩:=rv.get hx
  obtain⟨f0,f1,f2,f3,f4,f5⟩:=hf it (by simp)
  refine wpAny_pyNext_tuple_item st (show s.heap.IsTuple a its.toArray from p) (x:=u) (by simpa using hu) fun h' st' sb=>?_
  have I1:Inv X pins σ H { s with heap:=h' }:=I.turned (t':=s.toks) (fun b o hb e=>(sb.2 b hb).trans e) f0 f1 f3 f4 f5
  obtain⟨o,e,c,d⟩:=id st'
  exact⟨u,rfl,Ix (s:={ s with heap:=h' }) e c d (by decide) ⟨x,H,I1,ru,⟨rfl,fun ys hy=>by rw[I.tuple_inj hy hq];exact hx⟩,st',fun b hb=>(hf b hb).1⟩⟩
 done:=by
  intro X hP hw hK hc i pins s σ H E I hf st hg
  subst hP hw hK
  obtain⟨xs,hq,hx⟩:=hg
  obtain⟨its,rv,p,hz⟩:=I.tuple hq
  obtain⟨f0,f1,f2,f3,f4,f5⟩:=hf it (by simp)
  have hl:=rv.length
  exact wpAny_pyNext_tuple_end (I.ok.hd hc) st (show s.heap.IsTuple a its.toArray from p) (by simp;omega) fun h' eb=>⟨rfl,I.turned (t':=s.toks) (fun b o hb e=>eb b o hb e) f0 f1 f3 f4 f5⟩
 self:=fun _ _ _ _ _ st h=>wpAny_pyIter_tupleiter st h
theorem Gc{P:Program}{w:World}{K:PySem.W.Frag}{tg:Expr}(it:Addr)(lo:Int)(n:Nat):Turn P w K tg (Itr lo n) [it] it (fun i h=>IsRangeIter h it (lo+(i:Nat)*1) ((n:Int)-(i:Nat)) 1) where
 mem:=by simp
 obj:=fun i h st b hb=>by
  have e:b=it:=by simpa using hb
  subst e
  exact⟨_,st,fun v z=>by
   have z':Data.fields _=Data.cell v:=z
   cases z'⟩
 keep:=fun i h h' st k=>k it (by simp) _ st
 item:=by
  intro X hP hw hK hc i pins s σ H E I hf st hg
  subst hP hw hK
  obtain⟨f0,f1,f2,f3,f4,f5⟩:=hf it (by simp)
  have W:=Walks.range (prog:=X.prog) (w:=X.w) (I.ok.hd hc) it lo 1 n
  refine W.item i s _ _ hg st fun v h' tk hv st' kk=>?_
  obtain⟨t,rfl⟩:=hv
  have I1:Inv X pins σ H { s with heap:=h',toks:=tk }:=I.turned (fun b o hb e=>kk b o (by simpa using hb) e) f0 f1 f3 f4 f5
  refine⟨_,rfl,Ix (s:={ s with heap:=h',toks:=tk }) (n := "range_iterator") st' rfl rfl (by decide) ⟨.int (lo+i),H,I1,⟨t,?_⟩,⟨rfl,rfl⟩,st',fun b hb=>(hf b hb).1⟩⟩
  rw[Int.mul_one]
 done:=by
  intro X hP hw hK hc i pins s σ H E I hf st hg
  subst hP hw hK
  obtain⟨f0,f1,f2,f3,f4,f5⟩:=hf it (by simp)
  exact wpAny_pyNext_range_end (I.ok.hd hc) st (by have:n≤i:=hg;omega) fun h' eb=>⟨rfl,I.turned (t':=s.toks) (fun b o hb e=>eb b o hb e) f0 f1 f3 f4 f5⟩
 self:=fun _ _ _ _ _ st h=>wpAny_pyIter_rangeiter st h
end L2
namespace L2
open PySem PySem.Spec PyProof.Rows
section
variable {X:Cx}{tg:Expr}
theorem JY{pins:List (Addr×Obj)}{σ:St}{H:Hp}{s:Shared}{R:It→Hp→Prop}{E:Value→Shared→Prop}{lo hi:Int}{t u v:Tok}{tk:Nat}(I:Inv X pins σ H s)(h1 : -(2 ^ 62)≤lo)(h2:lo<2 ^ 62)(h3 : -(2 ^ 62)≤hi)(h4:hi<2 ^ 62)
   (q:R (Itr lo (hi-lo).toNat) H):wpAny (model X.prog X.w) X.A (pyIter (.ref s.heap.objs.size)) (PIE X pins σ tg R) E { s with heap:=s.heap.push { cls := .type "range",data := .fields #[.int lo t,.int hi u,.int 1 v] },toks:=tk }:=by
 refine wpAny_pyIter_range (IsRange.new ..) (small_one h1 h2 h3 h4) ?_
 have I1:Inv X pins σ H { s with heap:=s.heap.push { cls := .type "range",data := .fields #[.int lo t,.int hi u,.int 1 v] },toks:=tk }:=I.kept fun b o e=>Heap.get?_push_of_some _ e
 refine⟨(s.heap.push { cls := .type "range",data := .fields #[.int lo t,.int hi u,.int 1 v] }).objs.size,[(s.heap.push { cls := .type "range",data := .fields #[.int lo t,.int hi u,.int 1 v] }).objs.size],_,_,H,rfl,
   I1.kept (t':=tk) fun b o e=>Heap.get?_push_of_some _ e,Gc _ lo (hi-lo).toNat,?_,fun b hb=>?_,q⟩
 · have e1:lo+((0:Nat):Int)*1=lo:=by simp
   have e2:(((hi-lo).toNat:Nat):Int)-((0:Nat):Int)=Builtin.Range.rangeSize lo hi 1:=by rw[rangeSize_one];split<;>omega
   show IsRangeIter _ _ (lo+((0:Nat):Int)*1) ((((hi-lo).toNat:Nat):Int)-((0:Nat):Int)) 1
   rw[e1,e2]
   exact Heap.get?_push_size _ rfl
 · have e:b=(s.heap.push { cls := .type "range",data := .fields #[.int lo t,.int hi u,.int 1 v] }).objs.size:=by simpa using hb
   subst e
   exact I1.fpOk (Nat.le_refl _) (I1.hok.fresh (Nat.le_refl _))
def iRng1(ta:TA):TI:=fun σ H R=>ta σ H fun vs H1=>∃ j:Int,vs=[.int j] ∧ -(2 ^ 62)≤j∧j<2 ^ 62∧R (Itr 0 j.toNat) H1
theorem Jp{a:Expr}{ta:TA}{p pos:Pos}(hg:Gl X "range")(hm:X.mg "range" = none)(ha:PA X [a] ta)(hs:starEach [a] X.env=[(false,eval a X.env)]:=by rfl):PI X tg (.Call (.Name "range" p) [a] [] pos) (iRng1 ta):=by
 intro pins s σ H R I h
 refine Call_ (DE I hg hm boot_range (PyProof.Rows.callWith_type1 (thn (ha pos pins s σ H _ I h) fun us s1 hZ=>hZ.elim fun vs hZ=>hZ.elim fun H1 hZ=>hZ.elim fun I1 hZ=>hZ.elim fun r1 q1=>?_) hs rfl))
 obtain⟨j,e,q1,q2,q⟩:=q1
 subst e
 cases r1 with
 | cons r rr =>
  cases rr
  obtain⟨t,rfl⟩:=r
  exact call_range_1 (JY I1 (by omega) (by omega) q1 q2 (by simpa using q))
def tFor(wi:TI)(g:TG)(tb:TS):TS:=fun D σ H=>wi σ H fun J H1=>∃ W:Nat→Nat→St→Hp→Prop,(∃ m,W 0 m σ H1)∧∀ i m σ H,W i m σ H →
 (J.stop i H∧D.nx σ H)∨(J.go i H∧∃ N:St→Hp→Prop,(∀ σ' H',N σ' H'→∃ m',m'<m∧W (i+1) m' σ' H')∧∀ x H',J.yld i H x H'→g x σ H' fun σ2 H2=>tb { D with nx:=N,ct:=N,bk:=D.nx } σ2 H2)
def Bo(fp:List Addr)(h:Heap):List (Addr×Obj):=fp.filterMap fun b=>(h.get? b).map fun o=>(b,o)
theorem z8{fp:List Addr}{h:Heap}{b:Addr}{o:Obj}(hb:b∈fp)(e:h.get? b=some o):(b,o)∈Bo fp h:=List.mem_filterMap.mpr ⟨b,hb,by rw[e];rfl⟩
theorem Jq{fp:List Addr}{h:Heap}{p:Addr×Obj}(hp:p∈Bo fp h):p.1∈fp∧h.get? p.1=some p.2:=by
 obtain⟨b,hb,e⟩:=List.mem_filterMap.mp hp
 cases q:h.get? b with
 | none=>rw[q]at e;cases e
 | some o =>
  rw[q]at e
  have e':(b,o)=p:=Option.some.inj e
  subst e'
  exact⟨hb,q⟩
theorem Inv.pinned{pins:List (Addr×Obj)}{σ:St}{H:Hp}{s:Shared}{fp:List Addr}(I:Inv X pins σ H s)(hf:∀ b∈fp,FpOk X pins H b)(ho:∀ b∈fp,∃ o,s.heap.get? b=some o∧∀ v,o.data ≠ .cell v):Inv X (pins++Bo fp s.heap) σ H s :=
 I.pins_of fun p hp=>(List.mem_append.mp hp).elim (fun z=>I.pin p (List.mem_append_right _ z)) fun z=>by
  obtain⟨hb,e⟩:=Jq z
  obtain⟨f0,f1,f2,_⟩:=hf p.1 hb
  obtain⟨o,e',d⟩:=ho p.1 hb
  rw[e]at e';cases e'
  exact⟨e,f0,f1,f2,d⟩
theorem Inv.unpinned{pins pl:List (Addr×Obj)}{σ:St}{H:Hp}{s:Shared}(I:Inv X (pins++pl) σ H s):Inv X pins σ H s:=I.pins_of fun p hp=>I.pin p (List.mem_append_right _ (List.mem_append_left _ hp))
theorem ps_for{iter:Expr}{body:List Stmt}{wi:TI}{g:TG}{tb:TS}{pos:Pos}(hp:PassesOwn (model X.prog X.w) X.A X.env X.xe)(hc:X.calm=true)(hi:PI X tg iter wi)(hg:PG X tg g)(hb:PSs X body tb)
   (hs:∀ x,foldedSetIterable iter X.env x=pure x:=by intro _;rfl):PS X (.For tg iter body [] pos) (tFor wi g tb):=by
 intro pins s σ H D I h
 refine wpAny_For (thn (hi pins s σ H _ I h) fun v s1 h1=>thn h1 fun itv s2 h2=>?_) hs
 obtain⟨it,fp,tn,J,H2,e,I2,T,st2,f2,W,⟨m0,w0⟩,turn⟩:=h2
 subst e
 have stat:∀{H':Hp},(∀ b∈fp,H' b=none)→∀ b∈fp,FpOk X pins H' b:=fun hn b hb=>⟨hn b hb,(f2 b hb).2⟩
 refine codeAny_forLoop_any (fun n s'=>∃ i σ' H',Inv X pins σ' H' s'∧tn i s'.heap∧(∀ b∈fp,H' b=none)∧W i n σ' H') ?_ m0 ⟨0,σ,H2,I2,st2,fun b hb=>(f2 b hb).1,w0⟩
 rintro n s3 ⟨i,σ3,H3,I3,st3,fr3,w3⟩
 rcases turn i n σ3 H3 w3 with⟨stop,qn⟩|⟨go,N,hN,step⟩
 · refine wpAny_passesOwn hp (thn (T.done X rfl rfl rfl hc i pins s3 σ3 H3 X.xe I3 (stat fr3) st3 stop) ?_)
   rintro r s4 ⟨hr,I4⟩
   subst hr
   exact wpAny_execs_nil ⟨σ3,H3,I4,qn⟩
 · refine wpAny_passesOwn hp (thn (T.item X rfl rfl rfl hc i pins s3 σ3 H3 X.xe I3 (stat fr3) st3 go) ?_)
   rintro r s4 ⟨u,hr,h4⟩
   subst hr
   refine wpAny_passesOwn hp (thn h4 ?_)
   rintro _ s5 ⟨x,H5,I5,r5,y5,st5,fr5⟩
   have I5':=I5.pinned (stat fr5) (T.obj _ _ st5)
   refine wpAny_passesOwn hp (thn (hg _ s5 σ3 H5 x u _ I5' r5 (step x H5 y5)) ?_)
   rintro _ s6 ⟨σ6,H6,I6,q6⟩
   refine wpAny_passesOwn hp (thn (hb _ s6 σ6 H6 _ I6 q6) fun f s7 q7=>?_)
   have again:∀{σ7:St} {H7:Hp},Inv X (pins++Bo fp s5.heap) σ7 H7 s7→N σ7 H7→∃ m,m<n∧∃ i σ' H',Inv X pins σ' H' s7∧tn i s7.heap∧(∀ b∈fp,H' b=none)∧W i m σ' H':=fun{σ7 H7} I7 n7=>by
    obtain⟨m',hm,w7⟩:=hN σ7 H7 n7
    refine⟨m',hm,i+1,σ7,H7,I7.unpinned,T.keep _ _ _ st5 fun b hb o e=>(I7.pin (b,o) (List.mem_append_right _ (List.mem_append_right _ (z8 hb e)))).1,fun b hb=>?_,w7⟩
    obtain⟨o,e,d⟩:=T.obj _ _ st5 b hb
    exact(I7.pin (b,o) (List.mem_append_right _ (List.mem_append_right _ (z8 hb e)))).2.1
   cases f with
   | next=>obtain⟨σ7,H7,I7,n7⟩:=q7;exact again I7 n7
   | cont=>obtain⟨σ7,H7,I7,n7⟩:=q7;exact again I7 n7
   | brk=>obtain⟨σ7,H7,I7,q7⟩:=q7;exact⟨σ7,H7,I7.unpinned,q7⟩
   | ret v=>obtain⟨x7,σ7,H7,I7,r7,q7⟩:=q7;exact⟨x7,σ7,H7,I7.unpinned,r7,q7⟩
end
end L2
namespace L2
open PySem PySem.Spec PyProof.Rows
abbrev R2:=V→V→Hp→VK→Prop
def OpR(X:Cx)(f:Value→Value→Sem Value)(r:R2):Prop :=
 ∀(pins:List (Addr×Obj)) (s:Shared) (σ:St) (H:Hp) (x y:V) (v u:Value) (Q:VK),Inv X pins σ H s→RelV x v→RelV y u→r x y H Q →
  wpAny (model X.prog X.w) X.A (f v u) (EP X pins σ Q) X.xe s
def UnR(X:Cx)(f:Value→Sem Value)(r:V→Hp→VK→Prop):Prop :=
 ∀(pins:List (Addr×Obj)) (s:Shared) (σ:St) (H:Hp) (x:V) (v:Value) (Q:VK),Inv X pins σ H s→RelV x v→r x H Q →
  wpAny (model X.prog X.w) X.A (f v) (EP X pins σ Q) X.xe s
def CallR(X:Cx)(f:Value)(r:List V→Hp→VK→Prop):Prop :=
 ∀(pins:List (Addr×Obj)) (s:Shared) (σ:St) (H:Hp) (xs:List V) (us:List Value) (Q:VK),Inv X pins σ H s→Vals xs us→r xs H Q →
  wpAny (model X.prog X.w) X.A (call f us) (EP X pins σ Q) X.xe s
def TruR(X:Cx)(r:V→Hp→(Bool→Hp→Prop)→Prop):Prop :=
 ∀(pins:List (Addr×Obj)) (s:Shared) (σ:St) (H:Hp) (x:V) (v:Value) (Q:Bool→Hp→Prop),Inv X pins σ H s→RelV x v→r x H Q →
  wpAny (model X.prog X.w) X.A (truthy v) (TP X pins σ Q) X.xe s
def tOp(r:R2)(ta tb:TE):TE:=fun σ H Q=>ta σ H fun x H1=>tb σ H1 fun y H2=>r x y H2 Q
def tUn(r:V→Hp→VK→Prop)(ta:TE):TE:=fun σ H Q=>ta σ H fun x H1=>r x H1 Q
def rI(C:Int→Int→Prop)(g:Int→Int→V):R2:=fun x y H Q=>∃ i j,x = .int i∧y = .int j∧C i j∧Q (g i j) H
def rI0(g:Int→Int→V):R2:=fun x y H Q=>∃ i j,x = .int i∧y = .int j∧Q (g i j) H
def rU(g:Int→V):V→Hp→VK→Prop:=fun x H Q=>∃ i,x = .int i∧Q (g i) H
section
variable {X:Cx}{a b c:Expr}{ta tb tc:TE}{pos:Pos}
theorem binT(ha:PE X a ta)(hb:PE X b tb){pins:List (Addr×Obj)}{s:Shared}{σ:St}{H:Hp}{R:V→V→Hp→Prop}(I:Inv X pins σ H s)
  (h:ta σ H fun x H1=>tb σ H1 fun y H2=>R x y H2) {Q:Value→Shared→Prop} {f:Value→Value→Sem Value}
  (hf:∀ v u s2 x y H2,Inv X pins σ H2 s2→RelV x v→RelV y u→R x y H2→wpAny (model X.prog X.w) X.A (f v u) Q X.xe s2) :
  wpAny (model X.prog X.w) X.A (eval a X.env) (fun v s₁=>wpAny (model X.prog X.w) X.A (eval b X.env) (fun u s₂=>wpAny (model X.prog X.w) X.A (f v u) Q X.xe s₂) X.xe s₁) X.xe s:=by
 refine thn (ha pins s σ H _ I h) ?_
 rintro v s1 ⟨x,H1,I1,r1,q1⟩
 refine thn (hb pins s1 σ H1 _ I1 q1) ?_
 rintro u s2 ⟨y,H2,I2,r2,q2⟩
 exact hf v u s2 x y H2 I2 r1 r2 q2
theorem pe_op{op:Operator}{r:R2}(ho:OpR X (binaryOp op) r)(ha:PE X a ta)(hb:PE X b tb):PE X (.BinOp a op b pos) (tOp r ta tb):=by
 intro pins s σ H Q I h
 exact wpAny_BinOp (binT ha hb I h fun v u s2 x y H2 I2 rx ry q=>ho pins s2 σ H2 x y v u Q I2 rx ry q)
theorem pe_un{op:UnaryOp}{r:V→Hp→VK→Prop}(ho:UnR X (unaryOp op) r)(ha:PE X a ta):PE X (.UnaryOp op a pos) (tUn r ta):=by
 intro pins s σ H Q I h
 exact UnaryOp_ (thn (ha pins s σ H _ I h) fun v s1 hZ=>hZ.elim fun x hZ=>hZ.elim fun H1 hZ=>hZ.elim fun I1 hZ=>hZ.elim fun r1 q1=>ho pins s1 σ H1 x v Q I1 r1 q1)
theorem opI{f:Value→Value→Sem Value}{C:Int→Int→Prop}{g:Int→Int→Int}
  (rule:∀(i j:Int) (t u:Tok) (s:Shared) (Q:Value→Shared→Prop) (E:Value→Shared→Prop),C i j→Q (.int (g i j) s.toks) { s with toks:=s.toks+1 }→wpAny (model X.prog X.w) X.A (f (.int i t) (.int j u)) Q E s) :
  OpR X f (rI C fun i j => .int (g i j)):=by
 intro pins s σ H x y v u Q I rx ry h
 obtain⟨i,j,rfl,rfl,hc,q⟩:=h
 obtain⟨t,rfl⟩:=rx
 obtain⟨t',rfl⟩:=ry
 exact rule i j t t' s _ _ hc ⟨.int (g i j),H,I.tok _,⟨_,rfl⟩,q⟩
theorem opI0{f:Value→Value→Sem Value}{g:Int→Int→Int}
  (rule:∀(i j:Int) (t u:Tok) (s:Shared) (Q:Value→Shared→Prop) (E:Value→Shared→Prop),Q (.int (g i j) s.toks) { s with toks:=s.toks+1 }→wpAny (model X.prog X.w) X.A (f (.int i t) (.int j u)) Q E s) :
  OpR X f (rI0 fun i j => .int (g i j)):=by
 intro pins s σ H x y v u Q I rx ry h
 obtain⟨i,j,rfl,rfl,q⟩:=h
 obtain⟨t,rfl⟩:=rx
 obtain⟨t',rfl⟩:=ry
 exact rule i j t t' s _ _ ⟨.int (g i j),H,I.tok _,⟨_,rfl⟩,q⟩
theorem opB0{f:Value→Value→Sem Value}{g:Int→Int→Bool}
  (rule:∀(i j:Int) (t u:Tok) (s:Shared) (Q:Value→Shared→Prop) (E:Value→Shared→Prop),Q (.bool (g i j)) s→wpAny (model X.prog X.w) X.A (f (.int i t) (.int j u)) Q E s) :
  OpR X f (rI0 fun i j => .bl (g i j)):=by
 intro pins s σ H x y v u Q I rx ry h
 obtain⟨i,j,rfl,rfl,q⟩:=h
 obtain⟨t,rfl⟩:=rx
 obtain⟨t',rfl⟩:=ry
 exact rule i j t t' s _ _ ⟨.bl (g i j),H,I,rfl,q⟩
def CPow(i j:Int):Prop:=0≤j∧j≤1000000∧i.natAbs<2 ^ 64
def CMul(i j:Int):Prop:=(-(2 ^ 64)<i∧i<2 ^ 64)∨(-(2 ^ 64)<j∧j<2 ^ 64)
theorem CMul.ok{i j:Int}(h:CMul i j):IntMulOk i j:=by
 rcases h with⟨h1,h2⟩|⟨h1,h2⟩
 · exact .of_left (intBits_le_64 h1 h2)
 · exact .of_right (intBits_le_64 h1 h2)
theorem op_add:OpR X (binaryOp .Add) (rI0 fun i j => .int (i+j)):=opI0 fun _ _ _ _ _ _ _ q=>add_int q
theorem op_sub:OpR X (binaryOp .Sub) (rI0 fun i j => .int (i-j)):=opI0 fun _ _ _ _ _ _ _ q=>sub_int q
theorem NJ:OpR X (binaryOp .Mod) (rI (fun _ j=>j≠0) fun i j => .int (i.fmod j)):=opI fun _ _ _ _ _ _ _ hc q=>mod_int' hc q
theorem op_pow:OpR X (binaryOp .Pow) (rI CPow fun i j => .int (i ^ j.toNat)):=opI fun _ _ _ _ _ _ _ hc q=>pow_int_small hc.1 hc.2.1 hc.2.2 q
theorem unI{f:Value→Sem Value}{g:Int→Int}
  (rule:∀(i:Int) (t:Tok) (s:Shared) (Q:Value→Shared→Prop) (E:Value→Shared→Prop),Q (.int (g i) s.toks) { s with toks:=s.toks+1 }→wpAny (model X.prog X.w) X.A (f (.int i t)) Q E s) :
  UnR X f (rU fun i => .int (g i)):=by
 intro pins s σ H x v Q I rx h
 obtain⟨i,rfl,q⟩:=h
 obtain⟨t,rfl⟩:=rx
 exact rule i t s _ _ ⟨.int (g i),H,I.tok _,⟨_,rfl⟩,q⟩
theorem un_neg:UnR X (unaryOp .USub) (rU fun i => .int (-i)):=unI fun _ _ _ _ _ q=>neg_int q
end
def scal:V→V→Bool
 | .non,.non=>true|.non,.int _=>true|.int _,.non=>true|.non,.bl _=>true|.bl _,.non=>true|.non,.str _=>true|.str _,.non=>true
 | .int _,.int _=>true|.bl _,.bl _=>true|.str _,.str _=>true|.byt _,.byt _=>true
 | .int _,.str _=>true|.str _,.int _=>true|.bl _,.str _=>true|.str _,.bl _=>true
 | _,_=>false
section
variable {X:Cx}{a b c:Expr}{ta tb tc:TE}{pos:Pos}
theorem fin_bl{pins:List (Addr×Obj)}{σ:St}{H:Hp}{s:Shared}{Q:VK}{k k':Bool}(I:Inv X pins σ H s)(q:Q (.bl k) H)(e:k=k'):EP X pins σ Q (.bool k') s:=by
 subst e
 exact⟨.bl k,H,I,rfl,q⟩
theorem op_lt:OpR X (compareOp .Lt) (rI0 fun i j => .bl (decide (i<j))):=opB0 fun _ _ _ _ _ _ _ q=>lt_int q
theorem op_le:OpR X (compareOp .LtE) (rI0 fun i j => .bl (decide (i≤j))):=opB0 fun _ _ _ _ _ _ _ q=>le_int q
theorem op_gt:OpR X (compareOp .Gt) (rI0 fun i j => .bl (decide (j<i))):=opB0 fun _ _ _ _ _ _ _ q=>gt_int q
theorem op_isN:OpR X (compareOp .Is) (fun x y H Q=>y = .non∧Q (.bl (decide (x = .non))) H):=by
 intro pins s σ H x y v u Q I rx ry h
 obtain⟨rfl,q⟩:=h
 cases ry
 refine is_none_gen (fin_bl I q ?_)
 cases x<;>first
  | (cases rx;rfl)
  | (obtain⟨t,rfl⟩:=rx;rfl)
theorem OpR.or{f:Value→Value→Sem Value}{r r':R2}(h:OpR X f r)(h':OpR X f r'):OpR X f (fun x y H Q=>r x y H Q∨r' x y H Q):=by
 intro pins s σ H x y v u Q I rx ry q
 rcases q with q|q
 · exact h pins s σ H x y v u Q I rx ry q
 · exact h' pins s σ H x y v u Q I rx ry q
theorem JZ(b:Expr){op:CmpOp}(h:op ≠ .In:=by decide)(h2:op ≠ .NotIn:=by decide):behindInMarks op b=false:=by
 have e1:(op==CmpOp.In)=false:=by cases op<;>first|rfl|exact absurd rfl h
 have e2:(op==CmpOp.NotIn)=false:=by cases op<;>first|rfl|exact absurd rfl h2
 cases b<;>simp[behindInMarks,e1,e2]
theorem NK{op:CmpOp}{r:R2}(ho:OpR X (compareOp op) r)(ha:PE X a ta)(hb:PE X b tb)(hm:behindInMarks op b=false):PE X (.Compare a [op] [b] pos) (tOp r ta tb):=by
 intro pins s σ H Q I h
 exact wpAny_Compare1 (binT ha hb I h fun v u s2 x y H2 I2 rx ry q=>ho pins s2 σ H2 x y v u Q I2 rx ry q) hm
def tTest(t:TE):TT:=fun σ H Q=>t σ H fun x H'=>∃ k,x = .bl k∧Q k H'
theorem NL{op:CmpOp}{r:R2}(ho:OpR X (compareOp op) r)(ha:PE X a ta)(hb:PE X b tb)(hm:behindInMarks op b=false):PT X (.Compare a [op] [b] pos) (tTest (tOp r ta tb)):=by
 intro pins s σ H Q I h
 refine wpAny_isTrue_Compare1 (thn (ha pins s σ H _ I h) fun v s1 hZ=>hZ.elim fun x hZ=>hZ.elim fun H1 hZ=>hZ.elim fun I1 hZ=>hZ.elim fun r1 q1=>thn (hb pins s1 σ H1 _ I1 q1) fun u s2 ⟨y,H2,I2,r2,q2⟩ =>
  thn (ho pins s2 σ H2 x y v u _ I2 r1 r2 q2) fun c s3 hZ=>hZ.elim fun z hZ=>hZ.elim fun H3 hZ=>hZ.elim fun I3 hZ=>hZ.elim fun r3 hZ=>hZ.elim fun k hZ=>hZ.elim fun e q3=>?_) hm
 subst e
 cases r3
 exact wpAny_truthy_bool ⟨H3,I3,q3⟩
def Gd(r r':R2)(ta tb tc:TE):TE:=fun σ H Q=>ta σ H fun x H1=>tb σ H1 fun y H2=>r x y H2 fun z H3=>∃ k,z = .bl k ∧
 (if k=true then tc σ H3 fun w' H4=>r' y w' H4 Q else Q (.bl false) H3)
theorem Kb{op op':CmpOp}{r r':R2}(ho:OpR X (compareOp op) r)(ho':OpR X (compareOp op') r')(ha:PE X a ta)(hb:PE X b tb)(hc:PE X c tc)
  (hm:lastMarks [op,op'] [b,c]=false:=by with_unfolding_all rfl):PE X (.Compare a [op,op'] [b,c] pos) (Gd r r' ta tb tc):=by
 intro pins s σ H Q I h
 refine Compare_chain (thn (ha pins s σ H _ I h) fun v s1 hZ=>hZ.elim fun x hZ=>hZ.elim fun H1 hZ=>hZ.elim fun I1 hZ=>hZ.elim fun r1 q1=>chain_link (thn (hb pins s1 σ H1 _ I1 q1) fun u s2 ⟨y,H2,I2,r2,q2⟩ =>
  thn (ho pins s2 σ H2 x y v u _ I2 r1 r2 q2) fun d s3 hZ=>hZ.elim fun z hZ=>hZ.elim fun H3 hZ=>hZ.elim fun I3 hZ=>hZ.elim fun r3 hZ=>hZ.elim fun k hZ=>hZ.elim fun e q3=>?_)) hm
 subst e
 cases r3
 refine wpAny_truthy_bool ?_
 cases k with
 | false=>exact ite_ff ⟨.bl false,H3,I3,rfl,q3⟩
 | true=>exact ite_tt (chain_last (thn (hc pins s3 σ H3 _ I3 q3) fun w' s4 hZ=>hZ.elim fun z' hZ=>hZ.elim fun H4 hZ=>hZ.elim fun I4 hZ=>hZ.elim fun r4 q4=>ho' pins s4 σ H4 y z' u w' Q I4 r2 r4 q4))
theorem Kc{op op':CmpOp}{r r':R2}(ho:OpR X (compareOp op) r)(ho':OpR X (compareOp op') r')(ha:PE X a ta)(hb:PE X b tb)(hc:PE X c tc)
  (hm:lastMarks [op,op'] [b,c]=false:=by with_unfolding_all rfl):PT X (.Compare a [op,op'] [b,c] pos) (tTest (Gd r r' ta tb tc)):=by
 intro pins s σ H Q I h
 refine isTrue_chain (thn (ha pins s σ H _ I h) fun v s1 hZ=>hZ.elim fun x hZ=>hZ.elim fun H1 hZ=>hZ.elim fun I1 hZ=>hZ.elim fun r1 q1=>test_link (thn (hb pins s1 σ H1 _ I1 q1) fun u s2 ⟨y,H2,I2,r2,q2⟩ =>
  thn (ho pins s2 σ H2 x y v u _ I2 r1 r2 q2) fun d s3 hZ=>hZ.elim fun z hZ=>hZ.elim fun H3 hZ=>hZ.elim fun I3 hZ=>hZ.elim fun r3 hZ=>hZ.elim fun k hZ=>hZ.elim fun e q3=>?_)) hm
 subst e
 cases r3
 refine wpAny_truthy_bool ?_
 cases k with
 | false =>
  obtain⟨k',e',q'⟩:=q3
  cases e'
  exact ite_ff ⟨H3,I3,q'⟩
 | true =>
  refine ite_tt (test_last (thn (hc pins s3 σ H3 _ I3 q3) fun w' s4 hZ=>hZ.elim fun z' hZ=>hZ.elim fun H4 hZ=>hZ.elim fun I4 hZ=>hZ.elim fun r4 q4=>thn (ho' pins s4 σ H4 y z' u w' _ I4 r2 r4 q4) ?_))
  rintro d' s5 ⟨z2,H5,I5,r5,k2,e2,q5⟩
  subst e2
  cases r5
  exact wpAny_truthy_bool ⟨H5,I5,q5⟩
def TruV(K:PySem.W.Frag)(x:V)(H:Hp)(k:Bool):Prop :=
 match x with
 | .non=>k=false
 | .bl b=>k=b
 | .int i=>k=(i != 0)
 | .str y=>y.length≤sizeLine∧k=((y.length:Int) != 0)
 | .byt y=>y.size≤sizeLine∧k=((y.size:Int) != 0)
 | .ref p=>(∃ xs,SqL K H p xs∧k=!xs.isEmpty)∨(∃ xs,SqT K H p xs∧k=!xs.isEmpty)∨∃ kvs,H p=some (.dK kvs)∧k=!kvs.isEmpty
 | _=>False
theorem Ge{κ:Type}{kvs:List (κ×V)}{vs:List (κ×Value)}(r:KV kvs vs):(!vs.isEmpty)=!kvs.isEmpty:=by
 cases r<;>rfl
theorem Bp{xs:List V}{its:List Value}(r:Vals xs its):(!its.toArray.isEmpty)=!xs.isEmpty:=by
 cases r<;>simp
theorem W3:(sizeLine:Nat)<2 ^ 63:=by rw[sizeLine_eq];decide
theorem tru_ok:TruR X (fun x H Q=>∃ k,TruV X.K x H k∧Q k H):=by
 intro pins s σ H x v Q I rx h
 obtain⟨k,e,q⟩:=h
 have hl:=W3
 have hs:sizeLine=16777216:=sizeLine_eq
 cases x with
 | non =>
  cases rx
  have e':k=false:=e
  subst e'
  exact truthy_none ⟨H,I,q⟩
 | bl b =>
  cases rx
  have e':k=b:=e
  subst e'
  exact wpAny_truthy_bool ⟨H,I,q⟩
 | int i =>
  obtain⟨t,rfl⟩:=rx
  have e':k=(i != 0):=e
  subst e'
  exact PySem.P.truthy_int ⟨H,I,q⟩
 | str y =>
  obtain⟨t,rfl⟩:=rx
  obtain⟨hy,e'⟩:y.length≤sizeLine∧k=((y.length:Int) != 0):=e
  subst e'
  exact PySem.P.truthy_str (by omega) ⟨H,I.tok _,q⟩
 | byt y =>
  obtain⟨t,rfl⟩:=rx
  obtain⟨hy,e'⟩:y.size≤sizeLine∧k=((y.size:Int) != 0):=e
  subst e'
  exact PySem.W.truthy_bytes (by omega) ⟨H,I.tok _,q⟩
 | ref p =>
  cases rx
  have e':(∃ xs,SqL X.K H p xs∧k=!xs.isEmpty)∨(∃ xs,SqT X.K H p xs∧k=!xs.isEmpty)∨∃ kvs,H p=some (.dK kvs)∧k=!kvs.isEmpty:=e
  rcases e' with⟨xs,hx,e'⟩|⟨xs,hx,e'⟩|⟨kvs,hx,e'⟩
  · subst e'
    obtain⟨its,r,pl,hz⟩:=I.list hx
    have hlen:=r.length
    exact wpAny_truthy_list pl.isList (by simp only[List.size_toArray];omega) ⟨H,I.tok _,by rw[Bp r];exact q⟩
  · subst e'
    obtain⟨its,r,pl,hz⟩:=I.tuple hx
    have hlen:=r.length
    exact truthy_tuple pl (by simp only[List.size_toArray];omega) ⟨H,I.tok _,by rw[Bp r];exact q⟩
  · subst e'
    obtain⟨hz,hS,vs,r,m⟩:kvs.length≤sizeLine∧(p==sysModules)=false∧∃ vs,KV kvs vs∧s.heap.DictOf (DD X.prog X.w) p vs:=I.hok p _ hx
    have hlen:kvs.length=vs.length:=Paired.length r
    exact wpAny_truthy_dict hS m (by omega) ⟨H,I.tok _,by rw[Ge r];exact q⟩
 | _=>exact(show False from e).elim
theorem Kd(ha:PE X a ta)(he:∀ whole,isTrue a X.env whole=(do let v ←whole;standAt a.pos;holding [v] (truthy v))):
  PT X a (fun σ H Q=>ta σ H fun x H'=>∃ k,TruV X.K x H' k∧Q k H'):=by
 intro pins s σ H Q I h
 exact isTrue_plain (thn (ha pins s σ H _ I h) fun v s1 hZ=>hZ.elim fun x hZ=>hZ.elim fun H1 hZ=>hZ.elim fun I1 hZ=>hZ.elim fun r1 q1=>tru_ok pins s1 σ H1 x v Q I1 r1 q1) (he _)
theorem V1{x:V}{us:List Value}(r:Vals [x] us):∃ u,us=[u]∧RelV x u:=by
 cases r with
 | cons r1 r2=>cases r2;exact⟨_,rfl,r1⟩
theorem vals2{x y:V}{us:List Value}(r:Vals [x,y] us):∃ u w',us=[u,w']∧RelV x u∧RelV y w':=by
 cases r with
 | cons r1 r2 =>
  cases r2 with
  | cons r3 r4=>cases r4;exact⟨_,_,rfl,r1,r3⟩
theorem Kf:CallR X (.builtin "abs") (fun xs H Q=>∃ i,xs=[.int i]∧Q (.int (if i<0 then -i else i)) H):=by
 intro pins s σ H xs us Q I r h
 obtain⟨i,rfl,q⟩:=h
 obtain⟨u,rfl,t,rfl⟩:=V1 r
 exact call_abs_int fun u tk=>⟨.int (if i<0 then -i else i),H,I.tok _,⟨_,rfl⟩,q⟩
theorem CK:CallR X (.type "int") (fun xs H Q=>(∃ i,xs=[.int i]∧Q (.int i) H)∨∃ k,xs=[.bl k]∧Q (.int (if k then 1 else 0)) H):=by
 intro pins s σ H xs us Q I r h
 rcases h with⟨i,rfl,q⟩|⟨k,rfl,q⟩
 · obtain⟨u,rfl,t,rfl⟩:=V1 r
   exact call_int_int ⟨.int i,H,I,⟨_,rfl⟩,q⟩
 · obtain⟨u,rfl,r1⟩:=V1 r
   cases r1
   exact call_int_bool ⟨.int (if k then 1 else 0),H,I.tok _,⟨_,rfl⟩,q⟩
end
end L2
namespace L2
open PySem PySem.Spec PyProof.Rows
structure ObjM(h:Heap)(x dx C:Addr)(mA:Str→Option Value):Prop where
 obj:h.get? x=some (PySem.W.instObj C dx)
 ns:h.Ns1 dx mA
 ne:dx≠x
theorem Jr{h:Heap}{dx:Addr}{mA:Str→Option Value}(n:h.Ns1 dx mA):∃ od,h.get? dx=some od∧∀ name,PySem.W.lookIn name od=some (mA name):=by
 obtain⟨o,es,ep,ho,hd,hk,_,hm⟩:=n
 refine⟨o,ho,fun name=>?_⟩
 have e:=hm name
 unfold nsFind findBy at e
 rw[←Array.find?_toList]at e
 unfold PySem.W.lookIn
 rw[hd]
 dsimp only
 split
 · rename_i y q
   rw[q]at e
   exact congrArg some e
 · rename_i q
   rw[q]at e
   have a:es.toList.any (·.refKey)=false:=by
    rw[List.any_eq_false]
    intro y hy
    obtain⟨z,t,hkey⟩:=hk y (Array.mem_toList_iff.mp hy)
    simp[DictEntry.refKey,hkey]
   have a':¬es.toList.any (·.refKey)=true:=by rw[a];exact Bool.false_ne_true
   rw[if_neg a']
   exact congrArg some e
theorem ObjM.look{h:Heap}{x dx C:Addr}{mA:Str→Option Value}(I:ObjM h x dx C mA):∃ od,PySem.W.InstAt h x (PySem.W.instObj C dx) C (some od)∧∀ name,PySem.W.lookIn name od=some (mA name) :=
 let ⟨od,ho,hl⟩:=Jr I.ns
 ⟨od,⟨I.obj,rfl,rfl,ho⟩,hl⟩
section
variable {prog:Program}{w:World}{A:Around}{E:Value→Shared→Prop}{s:Shared}{K:PySem.W.Frag}{x dx C f:Addr}{mA:Str→Option Value}{name:Str}{v:Value}
end
theorem RelO.none_of{o:Option Value}(r:RelO none o):o=none:=by
 cases o with
 | none=>rfl
 | some u=>exact(show False from r).elim
section
variable {P:Program}{w:World}{H H':Hp}{h h':Heap}{a C dx:Addr}{fs fs':List (Str×V)}
theorem NM(hok:HOk P w H h)(e:H a=some (.ins C dx fs)):∃ mA,ObjM h a dx C mA∧(∀ f,RelO (fs.lookup f) (mA f))∧PySem.Within mA (fs.map (·.1))∧fs.length≤1000∧H dx=some (.own a):=by
 obtain⟨d,z,ne,ob,mA,n,r,q⟩:=(show ObjOk P w H h a (.ins C dx fs)from hok a _ e)
 exact⟨mA,⟨ob,n,ne⟩,r,q,z,d⟩
end
structure Cls(K:PySem.W.Frag)(C:Addr):Prop where
 pg:PySem.W.plainGet K C Str.empty=true
 hd:PySem.W.hasDictIn K C=true
 po:PySem.W.plainOver K C=true
 sa:PySem.W.findIn K (.ref C) "__setattr__" = some (some (.builtin "object.__setattr__"))
theorem Cls.get{K:PySem.W.Frag}{C:Addr}(c:Cls K C)(f:Str):PySem.W.plainGet K C f=true:=c.pg
section
variable {X:Cx}{pins:List (Addr×Obj)}{σ:St}{H:Hp}{s:Shared}{a C dx:Addr}{fs:List (Str×V)}{f:Str}{v:V}{A:Around}{E:Value→Shared→Prop}
end
section
variable {X:Cx}{o e value:Expr}{f:Str}{pos pos' tpos:Pos}{ta tv:TE}
end
section
variable {X:Cx}{pins:List (Addr×Obj)}{σ:St}{H:Hp}{s:Shared}{A:Around}{E:Value→Shared→Prop}{Q:Value→Shared→Prop}{c:Value}{b:Bool}
inductive TyOf (K:PySem.W.Frag) (H:Hp):V→Value→Prop where
 | non:TyOf K H .non (.type "NoneType")
 | bl (x:Bool):TyOf K H (.bl x) (.type "bool")
 | int (i:Int):TyOf K H (.int i) (.type "int")
 | str (x:Str):TyOf K H (.str x) (.type "str")
 | flt (x:UInt64):TyOf K H (.flt x) (.type "float")
 | lst {a:Addr} {xs:List V} (e:H a=some (.lst xs)):TyOf K H (.ref a) (.type "list")
 | frz {a:Addr} {o:Obj} {xs:List V} (e:H a=some (.frz o (.lst xs))):TyOf K H (.ref a) (.type "list")
 | tup {a:Addr} {xs:List V} (e:H a=some (.tup xs)):TyOf K H (.ref a) (.type "tuple")
 | dK {a:Addr} {kvs:List (Key×V)} (e:H a=some (.dK kvs)):TyOf K H (.ref a) (.type "dict")
 | dT {a:Addr} {kvs:List (List Key×V)} (e:H a=some (.dT kvs)):TyOf K H (.ref a) (.type "dict")
 | ins {a C dx:Addr} {fs:List (Str×V)} (e:H a=some (.ins C dx fs)) (cl:Cls K C) (ha:PySem.W.findIn K (.ref C) "__class__" = some (some (.builtin "object.__class__")))
  (hn:PySem.W.specialIn K (.builtin "object.__class__") "__get__" = some (some (.builtin "getset_descriptor.__get__"))) (htk:PySem.W.takesIn K (.builtin "object.__class__")=some true)
  (hm:PySem.W.mroIn K C (.type "object")=some true):TyOf K H (.ref a) (.ref C)
theorem T7{x:V}{u t:Value}(I:Inv X pins σ H s)(rx:RelV x u)(ty:TyOf X.K H x t)(e:PySem.W.kitOne X.K t c=some b)(h:∀ tk,Q (.bool b) { s with toks:=tk }):
  wpAny (model X.prog X.w) A (call (.builtin "isinstance") [u,c]) Q E s:=by
 cases ty with
 | non=>cases (show u=Value.none from rx);exact PySem.W.kia_one PySem.W.kitx_none I.kIn True.intro e (fun z=>nomatch z) h
 | bl y=>cases (show u=Value.bool y from rx);exact PySem.W.kia_one PySem.W.kitx_bool I.kIn True.intro e (fun z=>nomatch z) h
 | int i=>obtain⟨t,q⟩:=(show ∃ t,u=Value.int i t from rx);cases q;exact PySem.W.kia_one PySem.W.kitx_int I.kIn True.intro e (fun z=>nomatch z) h
 | str y=>obtain⟨t,q⟩:=(show ∃ t,u=Value.str y t from rx);cases q;exact PySem.W.kia_one PySem.W.kitx_str I.kIn True.intro e (fun z=>nomatch z) h
 | flt y=>obtain⟨t,q⟩:=(show ∃ t,u=Value.float y t from rx);cases q;exact PySem.W.kia_one PySem.W.kitx_float I.kIn True.intro e (fun z=>nomatch z) h
 | @lst a xs ea =>
  cases (show u=Value.ref a from rx)
  obtain⟨_,_,n,_,h1⟩:=(show ObjOk X.prog X.w H s.heap a (.lst xs)from I.hok a _ ea)
  exact PySem.W.kia_one PySem.W.kitx_list I.kIn ⟨_,h1,rfl⟩ e (fun z=>nomatch z) h
 | @frz a ob xs ea =>
  cases (show u=Value.ref a from rx)
  obtain⟨_,_,_,n,_,h1⟩:=(show ObjOk X.prog X.w H s.heap a (.frz ob (.lst xs))from I.hok a _ ea)
  exact PySem.W.kia_one PySem.W.kitx_list I.kIn ⟨_,h1,rfl⟩ e (fun z=>nomatch z) h
 | @tup a xs ea =>
  cases (show u=Value.ref a from rx)
  obtain⟨_,_,_,p⟩:=(show ObjOk X.prog X.w H s.heap a (.tup xs)from I.hok a _ ea)
  obtain⟨o,h1,h2,_⟩:=p
  exact PySem.W.kia_one PySem.W.kitx_tuple I.kIn ⟨o,h1,h2⟩ e (fun z=>nomatch z) h
 | @dK a kvs ea =>
  cases (show u=Value.ref a from rx)
  obtain⟨_,_,vs,_,p⟩:=(show ObjOk X.prog X.w H s.heap a (.dK kvs)from I.hok a _ ea)
  obtain⟨o,es,ep,h1,h2,_⟩:=p
  exact PySem.W.kia_one PySem.W.kitx_dict I.kIn ⟨o,h1,h2.1⟩ e (fun z=>nomatch z) h
 | @dT a kvs ea =>
  cases (show u=Value.ref a from rx)
  obtain⟨_,_,xs,_,o,es,ep,h1,h2,_⟩:=(show ObjOk X.prog X.w H s.heap a (.dT kvs)from I.hok a _ ea)
  exact PySem.W.kia_one PySem.W.kitx_dict I.kIn ⟨o,h1,h2.1⟩ e (fun z=>nomatch z) h
 | @ins a C dx fs ea cl ha hn htk hm =>
  cases (show u=Value.ref a from rx)
  obtain⟨mA,O,_⟩:=NM I.hok ea
  obtain⟨od,J,_⟩:=O.look
  exact PySem.W.kia_one (PySem.W.kitx_own (cl.get _) cl.hd ha hn htk hm) I.kIn J e (fun z=>nomatch z) h
end
end L2
namespace L2
open PySem PySem.Spec PyProof.Rows
structure Room(k:Nat)(A:Around):Prop where
 hd:A.handled=none
 dp:A.depth+3*k+5<recursionLimit
 un:A.units+16*k+200<cLine
theorem Room.mono{j k:Nat}{A:Around}(r:Room k A)(h:j≤k):Room j A:=⟨r.hd,by have:=r.dp;omega,by have:=r.un;omega⟩
theorem Room.deeper{k:Nat}{A:Around}(r:Room (k+1) A)(env:Env):Room k (A.deeper env) :=
 ⟨r.hd,by have:=r.dp;show A.depth+1+3*k+5<_;omega,by have:=r.un;show A.units+3+16*k+200<_;omega⟩
theorem Room.in1{k:Nat}{A:Around}(r:Room (k+1) A):Room k A.in1 :=
 ⟨r.hd,by have:=r.dp;show A.depth+3*k+5<_;omega,by have:=r.un;show A.units+1+16*k+200<_;omega⟩
theorem Room.depth{k:Nat}{A:Around}(r:Room k A):A.depth<recursionLimit:=by have:=r.dp;omega
theorem Room.units{k:Nat}{A:Around}(r:Room k A):A.units+64<cLine:=by have:=r.un;omega
def tNil:TA:=fun _ H Q=>Q [] H
def tCons(ta:TE)(tr:TA):TA:=fun σ H Q=>ta σ H fun x H1=>tr σ H1 fun xs H2=>Q (x::xs) H2
section
variable {X:Cx}{e:Expr}{es:List Expr}{te:TE}{t:TA}{pos:Pos}
theorem DF:PA X [] tNil:=fun _ _ _ _ H Q I h=>Calls.spliced_nil ⟨[],H,I,.nil,h⟩
theorem T8(ha:PE X e te)(hr:PA X es t)(hs:starEach (e::es) X.env=(false,eval e X.env)::starEach es X.env:=by rfl):PA X (e::es) (tCons te t):=by
 intro pos pins s σ H Q I h
 rw[hs]
 show wpAny _ _ (spliced ((false,eval e X.env)::backTo pos (starEach es X.env))) _ _ s
 refine Calls.spliced_cons (thn (ha pins s σ H _ I h) ?_)
 rintro u s1 ⟨x,H1,I1,r1,q1⟩
 exact thn (hr pos pins s1 σ H1 _ I1 q1) fun us s2 hZ=>hZ.elim fun xs hZ=>hZ.elim fun H2 hZ=>hZ.elim fun I2 hZ=>hZ.elim fun r2 q2=>⟨x::xs,H2,I2,.cons r1 r2,q2⟩
def tTup(t:TA):TE:=fun σ H Q=>t σ H fun xs H1=>xs.length≤sizeLine∧∀ p,H1 p=none→Q (.ref p) (upd H1 p (.tup xs))
def tLst(t:TA):TE:=fun σ H Q=>t σ H fun xs H1=>xs.length≤sizeLine∧∀ p,H1 p=none→Q (.ref p) (upd H1 p (.lst xs))
theorem pe_tup{x1}(h:PA X es t):PE X (.Tuple es x1 pos) (tTup t):=by
 intro pins s σ H Q I hq
 refine wpAny_Tuple_spliced (thn (h pos pins s σ H _ I hq) fun us s1 hZ=>hZ.elim fun xs hZ=>hZ.elim fun H1 hZ=>hZ.elim fun I1 hZ=>hZ.elim fun r hZ=>hZ.elim fun z q=>⟨by rw[←r.length];exact z,?_⟩)
 have hf:H1 s1.heap.objs.size=none:=I1.hok.fresh (Nat.le_refl _)
 refine⟨.ref s1.heap.objs.size,upd H1 s1.heap.objs.size (.tup xs),I1.laid (t':=s1.toks) (fun b u e=>Heap.get?_push_of_some _ e) (Nat.le_refl _) ?_,rfl,q _ hf⟩
 exact⟨z,us,r,⟨_,Heap.get?_push_size _ rfl,rfl,_,rfl⟩⟩
theorem pe_lst(h:PA X es t):PE X (.List es pos) (tLst t):=by
 intro pins s σ H Q I hq
 refine wpAny_List_spliced (thn (h pos pins s σ H _ I hq) fun us s1 hZ=>hZ.elim fun xs hZ=>hZ.elim fun H1 hZ=>hZ.elim fun I1 hZ=>hZ.elim fun r hZ=>hZ.elim fun z q=>⟨by rw[←r.length];exact z,?_⟩)
 have hf:H1 s1.heap.objs.size=none:=I1.hok.fresh (Nat.le_refl _)
 refine⟨.ref s1.heap.objs.size,upd H1 s1.heap.objs.size (.lst xs),I1.laid (t':=s1.toks) (fun b u e=>Heap.get?_push_of_some _ e) (Nat.le_refl _) ?_,rfl,q _ hf⟩
 exact⟨z,us,0,r,Heap.get?_push_size _ rfl⟩
end
abbrev Sp:=List V→Hp→VK→XK→Prop
abbrev CXT:=List Env→Hp→Shared→XK→Value→Shared→Prop
structure Env0(P:Program)(w:World)(K:PySem.W.Frag)(mg:Str→Option Value)(base:Heap)(A:Around)(outer:List Env)(s:Shared)(H:Hp):Prop where
 frames:A.frames=some outer
 mod:Mod K mg base
 bs:∀ b o,base.get? b=some o→s.heap.get? b=some o∧H b=none
 bsz:base.objs.size≤s.heap.objs.size
 funs:s.heap.FunFrames base outer
 frf:∀ b∈frs outer,H b=none
 hok:HOk P w H s.heap
 bare:AllBare s.gens
def CE(outer:List Env)(P:Program)(w:World)(H:Hp)(s:Shared)(Q:VK)(u:Value)(s':Shared):Prop :=
 ∃ v H',s'.os=s.os∧AllBare s'.gens∧Un (frs outer) [] H H' s.heap s'.heap∧HOk P w H' s'.heap∧RelV v u∧Q v H'
def CR(CX:CXT)(outer:List Env)(P:Program)(w:World)(H:Hp)(s:Shared)(Q:VK)(E:XK)(r:Result)(s':Shared):Prop :=
 match r with
 | .ok (.ret u)=>CE outer P w H s Q u s'
 | .ok _=>False
 | .error e=>CX outer H s E e s'
structure FnOk(P:Program)(w:World)(K:PySem.W.Frag)(mg:Str→Option Value)(base:Heap)(CX:CXT)(k:Nat)(f:Addr)(fd:FuncData)(ps:List Str)(sp:Sp):Prop where
 len:∀ vs H Q E,sp vs H Q E→vs.length=ps.length
 run:∀(A:Around) (outer:List Env) (s:Shared) (H:Hp) (args:Args) (us:List Value) (vs:List V) (Q:VK) (E:XK),Room k A→Env0 P w K mg base A outer s H→BindsTo s fd args (ps.zip us)→Vals vs us→sp vs H Q E →
  codeAny (model P w) A (.call (.ref f) args) (CR CX outer P w H s Q E) s
theorem FnOk.mono{P:Program}{w:World}{K:PySem.W.Frag}{mg:Str→Option Value}{base:Heap}{CX:CXT}{j k:Nat}{f:Addr}{fd:FuncData}{ps:List Str}{sp:Sp}(F:FnOk P w K mg base CX j f fd ps sp)(h:j≤k):
 FnOk P w K mg base CX k f fd ps sp:=⟨F.len,fun A outer s H args us vs Q E hr=>F.run A outer s H args us vs Q E (hr.mono h)⟩
theorem FnOk.imp{P:Program}{w:World}{K:PySem.W.Frag}{mg:Str→Option Value}{base:Heap}{CX:CXT}{k:Nat}{f:Addr}{fd:FuncData}{ps:List Str}{sp sp':Sp}(F:FnOk P w K mg base CX k f fd ps sp)
  (h:∀ vs H Q E,sp' vs H Q E→sp vs H Q E):FnOk P w K mg base CX k f fd ps sp' :=
 ⟨fun vs H Q E q=>F.len vs H Q E (h _ _ _ _ q),fun A outer s H args us vs Q E hr he hb hv hs=>F.run A outer s H args us vs Q E hr he hb hv (h _ _ _ _ hs)⟩
theorem Env0.in1{P:Program}{w:World}{K:PySem.W.Frag}{mg:Str→Option Value}{base:Heap}{A:Around}{outer:List Env}{s:Shared}{H:Hp}(e:Env0 P w K mg base A outer s H):
 Env0 P w K mg base A.in1 outer s H:=⟨e.frames,e.mod,e.bs,e.bsz,e.funs,e.frf,e.hok,e.bare⟩
section
variable {X:Cx}{pins:List (Addr×Obj)}{σ:St}{H:Hp}{s s':Shared}
theorem Inv.env0(I:Inv X pins σ H s):Env0 X.prog X.w X.K X.mg X.base X.A X.stack s H :=
 ⟨I.ok.frames,I.ok.mod,I.bs,Nat.le_trans I.ok.bsz I.sz,I.stack,I.stkFree,I.hok,I.bare⟩
theorem Inv.after{Q:VK}{u:Value}(I:Inv X pins σ H s)(h:CE X.stack X.prog X.w H s Q u s'):EP X pins σ Q u s':=by
 obtain⟨v,H',os,bare,un,hok,r,q⟩:=h
 obtain⟨hh,g,d,t,os'⟩:=s'
 obtain rfl:os'=s.os:=os
 exact⟨v,H',I.call (h':=hh) (g':=g) (d':=d) (t':=t) (ch:=[]) un hok bare (fun b z=>absurd z (by simp)),r,q⟩
end
def tCall(sp:Sp)(dvs:List V)(E:XK)(t:TA):TE:=fun σ H Q=>t σ H fun vs H1=>sp (vs++dvs) H1 Q E
def Binds(K:PySem.W.Frag)(fd:FuncData)(ps:List Str)(ds:List Value):Prop :=
 ∀(s:Shared) (us:List Value),K.In s.heap→(us++ds).length=ps.length→BindsTo s fd ⟨us,[]⟩ (ps.zip (us++ds))
theorem Binds.all{K:PySem.W.Frag}{fd:FuncData}{ps:List Str}(h:∀ us:List Value,us.length=ps.length→bindArgs fd ⟨us,[]⟩=pure (ps.zip us)):Binds K fd ps []:=fun s us _ hl=>by
 rw[List.append_nil]at hl ⊢
 exact .of_eq (h us hl)
def D9(CX:CXT)(X:Cx)(E:XK):Prop:=∀(pins:List (Addr×Obj)) (σ:St) (H:Hp) (s:Shared) (e:Value) (s':Shared),Inv X pins σ H s→CX X.stack H s E e s'→X.xe e s'
section
variable {X:Cx}{CX:CXT}{k:Nat}{f C:Addr}{fd:FuncData}{ps:List Str}{sp:Sp}{dvs:List V}{ds:List Value}{E:XK}{x m:Str}{p pos apos:Pos}{e o:Expr}{es:List Expr}{ta:TE}{t:TA}
theorem run_fn{pins:List (Addr×Obj)}{σ:St}{H:Hp}{s:Shared}{Q:VK}{us:List Value}{vs:List V}(F:FnOk X.prog X.w X.K X.mg X.base CX k f fd ps sp)(hr:Room k X.A)(hb:Binds X.K fd ps ds)(hd:Vals dvs ds)(hx:D9 CX X E)
  (I:Inv X pins σ H s) (r:Vals vs us) (h:sp (vs++dvs) H Q E):wpAny (model X.prog X.w) X.A (call (.ref f) us) (EP X pins σ Q) X.xe s:=by
 have r2:Vals (vs++dvs) (us++ds):=r.append hd
 have hl:(us++ds).length=ps.length:=by rw[←r2.length];exact F.len _ _ _ _ h
 refine wpAny_call (codeAny_mono (F.run X.A X.stack s H ⟨us,[]⟩ (us++ds) (vs++dvs) Q E hr I.env0 (hb s us I.kIn hl) r2 h) fun r s' hq=>?_)
 cases r with
 | error e=>exact hx pins σ H s e s' I hq
 | ok fl =>
  cases fl with
  | ret u=>exact I.after hq
  | next=>exact False.elim hq
  | brk=>exact False.elim hq
  | cont=>exact False.elim hq
theorem Y1(F:FnOk X.prog X.w X.K X.mg X.base CX k f fd ps sp)(hr:Room k X.A)(hg:Gl X x)(hm:X.mg x=some (.ref f))(hk:PySem.W.keepIn X.K (.ref f)=true)(hb:Binds X.K fd ps ds)(hd:Vals dvs ds)(hx:D9 CX X E)
  (ha:PA X (e::es) t) (hdb:(x==("__debug__" : Str))=false:=by decide) (he:starEach (e::es) X.env=(false,eval e X.env)::starEach es X.env:=by rfl) (hpl:(backTo pos (starEach es X.env)).any (·.1)=false:=by rfl) :
  PE X (.Call (.Name x p) (e::es) [] pos) (tCall sp dvs E t):=by
 intro pins s σ H Q I h
 refine wpAny_Call_Name_kw (T6 I hg hm ?_ hdb)
 refine PySem.W.callWith_K (h₀:=X.base) I.ok.mod.kin hk (thn (ha pos pins s σ H _ I h) fun us s1 hZ=>hZ.elim fun vs hZ=>hZ.elim fun H1 hZ=>hZ.elim fun I1 hZ=>hZ.elim fun r q=>⟨I1.kIn,?_⟩) he hpl
 exact run_fn F hr hb hd hx I1 r q
end
section
variable {X:Cx}{CX:CXT}{k:Nat}{f C:Addr}{fd:FuncData}{ps ks:List Str}{sp:Sp}{E:XK}{x m:Str}{p pos apos kpos:Pos}{e o:Expr}{es:List Expr}{kws:List Keyword}{te ta:TE}{t tk:TA}{nm:Option Str}
variable {g:List Value→List Value→List Value}{gV:List V→List V→List V}
end
structure FnScope(N P:List Str)(sc:Scope):Prop where
 kind:sc.kind = .function
 co:sc.isCoroutine=false
 gen:sc.isGenerator=false
 nd:N.Nodup
 pre:N.take P.length=P
 par:∀ x∈P,sc.names.lookup x=some .local∨sc.names.lookup x=some .cell
 nofree:∀ y∈sc.names,y.2 ≠ .free
theorem CL{kindOf:Str→Option NameKind}{x:Str}:∀{binds:List (Str×Value)} {m:Str→Option Value},(∀ v,(x,v) ∉ binds)→bindL kindOf binds m x=m x
 | [],_,_=>rfl
 | (n,v)::r,m,h=>by
  unfold bindL
  rw[CL fun w hw=>h w (List.mem_cons_of_mem _ hw)]
  split
  · have:x≠n:=by rintro rfl;exact h v List.mem_cons_self
    simp[this]
  · rfl
theorem CM{kindOf:Str→Option NameKind}{x:Str}:∀{binds:List (Str×Value)} {m:Str→Option Value},(∀ v,(x,v) ∉ binds)→bindC kindOf binds m x=m x
 | [],_,_=>rfl
 | (n,v)::r,m,h=>by
  unfold bindC
  rw[CM fun w hw=>h w (List.mem_cons_of_mem _ hw)]
  split
  · rfl
  · have:x≠n:=by rintro rfl;exact h v List.mem_cons_self
    simp[this]
theorem CN{kindOf:Str→Option NameKind}{x:Str}{v:Value}:∀{P:List Str} {vs:List Value} {i:Nat} {m:Str→Option Value},P.Nodup→P[i]?=some x→vs[i]?=some v→kindOf x=some .local →
  bindL kindOf (P.zip vs) m x=some v
 | [],_,_,_,_,h,_,_=>by simp at h
 | _::_,[],_,_,_,_,h,_=>by simp at h
 | p::P,w::vs,0,m,nd,h1,h2,hk=>by
  simp at h1 h2;subst h1;subst h2
  show bindL kindOf ((p,w)::P.zip vs) m p=_
  unfold bindL
  rw[CL fun v hv=>(List.nodup_cons.mp nd).1 (List.of_mem_zip hv).1,if_pos hk]
  simp
 | p::P,w::vs,i+1,m,nd,h1,h2,hk=>by
  show bindL kindOf ((p,w)::P.zip vs) m x=_
  unfold bindL
  exact CN (i:=i) (List.nodup_cons.mp nd).2 (by simpa using h1) (by simpa using h2) hk
theorem CO{kindOf:Str→Option NameKind}{x:Str}{v:Value}:∀{P:List Str} {vs:List Value} {i:Nat} {m:Str→Option Value},P.Nodup→P[i]?=some x→vs[i]?=some v→kindOf x≠some .local →
  bindC kindOf (P.zip vs) m x=some v
 | [],_,_,_,_,h,_,_=>by simp at h
 | _::_,[],_,_,_,_,h,_=>by simp at h
 | p::P,w::vs,0,m,nd,h1,h2,hk=>by
  simp at h1 h2;subst h1;subst h2
  show bindC kindOf ((p,w)::P.zip vs) m p=_
  unfold bindC
  rw[CM fun v hv=>(List.nodup_cons.mp nd).1 (List.of_mem_zip hv).1,if_neg hk]
  simp
 | p::P,w::vs,i+1,m,nd,h1,h2,hk=>by
  show bindC kindOf ((p,w)::P.zip vs) m x=_
  unfold bindC
  exact CO (i:=i) (List.nodup_cons.mp nd).2 (by simpa using h1) (by simpa using h2) hk
def start(N:List Str)(vs:List V):St:=vs.map some++List.replicate (N.length-vs.length) none
def cxOf(CX:CXT)(P:Program)(w:World)(K:PySem.W.Frag)(mg:Str→Option Value)(base:Heap)(N:List Str)(qual:Str)(scope:Scope)(f:Addr)(cd:Value)(A:Around)(outer:List Env)(s:Shared)(H:Hp)(E:XK):Cx where
 prog:=P
 w:=w
 K:=K
 mg:=mg
 base:=base
 A:=A.deeper (envOfC qual scope s.heap.objs.size f cd)
 N:=N
 s₀:=s
 H₀:=H
 env:=envOfC qual scope s.heap.objs.size f cd
 outer:=outer
 stack:=envOfC qual scope s.heap.objs.size f cd::outer
 ex:=[]
 calm:=true
 fn:=fun _=>true
 pn:=[]
 xe:=fun e s'=>wpAny (model P w) (A.deeper (envOfC qual scope s.heap.objs.size f cd)) (leaving (envOfC qual scope s.heap.objs.size f cd) e) (fun _ s''=>CX outer H s E e s'') (fun e' s''=>CX outer H s E e' s'') s'
theorem EE{sc:Scope}{n:Nat}{x:Str}(h:sc.names.lookup x=some .cell):∃ c,(cellsFrom n sc.names []).lookup x=some c:=by
 have q:=PySem.W.cellsFrom_some sc.names n [] (.inl h)
 exact Option.isSome_iff_exists.mp q
theorem Js{CX:CXT}{P:Program}{w:World}{K:PySem.W.Frag}{mg:Str→Option Value}{base:Heap}{N ps:List Str}{qual:Str}{scope:Scope}{f:Addr}{cd:Value}{A:Around}{outer:List Env}{s s1:Shared}{H:Hp}{E:XK}{us:List Value}{vs:List V}
   (S:FnScope N ps scope) (hd:A.handled=none) (e0:Env0 P w K mg base A outer s H) (hl:vs.length=ps.length) (r:Vals vs us)
   (x:InCallC s s.heap.objs.size (bindL (envOfC qual scope s.heap.objs.size f cd).kindOf (ps.zip us) fun _=>none) (cellsFrom (s.heap.objs.size+1) scope.names []) (bindC (envOfC qual scope s.heap.objs.size f cd).kindOf (ps.zip us) fun _=>none) s1) :
   Inv (cxOf CX P w K mg base N qual scope f cd A outer s H E) [] (start N vs) H s1:=by
 have hpl:ps.length≤N.length:=by have:=congrArg List.length S.pre;rw[List.length_take]at this;omega
 obtain⟨h1,tk,rfl,hk⟩:=x.done
 have noA:∀ b:Addr,b ∉ (cxOf CX P w K mg base N qual scope f cd A outer s H E).ex:=fun b z=>absurd (show b∈([]:List Addr)from z) (by simp)
 refine⟨⟨e0.mod,S.kind,rfl,rfl,Nat.le_refl _,fun y z c h1 h2=>?_,fun y hy=>?_,fun y c _ h=>?_,fun _=>hd,Around.frames_deeper e0.frames,.inr ⟨rfl,rfl⟩,fun b z=>absurd z (noA b),e0.bs,e0.bsz,fun b _ _=>noA b,fun b z=>absurd z (noA b),e0.funs,e0.frf⟩,
   rfl,e0.bare,Un.kept hk,⟨_,x.toInCall.ns,fun i y v h1 h2 h3=>?_⟩,fun y c h=>⟨_,x.cell y c h⟩,e0.hok.fresh (Nat.le_refl _),fun y c h=>?_,fun p hp=>absurd (show p∈([]:List (Addr×Obj))from hp) (by simp),e0.hok.kept hk,?_⟩
 · exact name_of_addr x.apart (PySem.mem_of_lookup h1) (PySem.mem_of_lookup h2)
 · have hy:scope.names.lookup y=some .cell∨scope.names.lookup y=some .free:=hy
   rcases hy with hy|hy
   · exact EE hy
   · exact absurd rfl (S.nofree _ (PySem.mem_of_lookup hy))
 · exact Nat.le_of_lt (x.above y c (PySem.mem_of_lookup h))
 · have hi:i<vs.length:=by
     unfold start at h2
     by_cases hi:i<vs.length
     · exact hi
     · rw[List.getElem?_append_right (by simpa using hi)]at h2
       rw[List.getElem?_replicate]at h2
       split at h2<;>cases h2
   have ha:vs[i]?=some v:=by
     unfold start at h2
     rw[List.getElem?_append_left (by simpa using hi),List.getElem?_map]at h2
     cases e:vs[i]? with
     | none=>rw[e]at h2;cases h2
     | some a=>rw[e]at h2;cases h2;rfl
   obtain⟨u,hu,rv⟩:=r.get ha
   have hp:ps[i]?=some y:=by
     rw[←S.pre,List.getElem?_take_of_lt (by omega)];exact h1
   have ndP:ps.Nodup:=by rw[←S.pre];exact S.nd.sublist (List.take_sublist _ _)
   refine⟨u,rv,?_⟩
   rcases S.par y (List.mem_of_getElem? hp)with k|k
   · exact .inl ⟨k,CN ndP hp hu k⟩
   · obtain⟨c,e⟩:=EE (n:=s.heap.objs.size+1) k
     refine .inr ⟨.inl k,c,e,?_⟩
     have q:=x.cell y c e
     rw[CO ndP hp hu (by show scope.names.lookup y≠_;rw[k];decide)]at q
     exact q
 · exact e0.hok.fresh (Nat.le_of_lt (x.above y c (PySem.mem_of_lookup h)))
 · unfold start
   show _=N.length
   rw[List.length_append,List.length_map,List.length_replicate]
   omega
theorem fn_of{CX:CXT}{P:Program}{w:World}{K:PySem.W.Frag}{mg:Str→Option Value}{base:Heap}{k:Nat}{f:Addr}{name qual:Str}{params:Arguments}{body:List Stmt}{scope:Scope}{dV kV doc pm cdv ct oc:Value}{an od:Option Addr}
  {osl:Array (Option Value)} {N ps:List Str} {sp:Sp} (lk:K.lookup f=some ⟨oc,od,.func (PySem.W.fnOf name qual params body scope dV kV doc pm an cdv ct),osl⟩) (hcd:PySem.W.codeIn K cdv qual=true) (S:FnScope N ps scope)
  (len:∀ vs H Q E,sp vs H Q E→vs.length=ps.length)
  (hbody:∀(A:Around) (outer:List Env) (s:Shared) (H:Hp) (vs:List V) (Q:VK) (E:XK),Room k (A.deeper (envOfC qual scope s.heap.objs.size f cdv))→sp vs H Q E →
    ∃ t,PSs (cxOf CX P w K mg base N qual scope f cdv A outer s H E) body t∧t { nx:=fun _ H'=>Q .non H',rt:=Q } (start N vs) H) :
  FnOk P w K mg base CX (k+1) f (PySem.W.fnOf name qual params body scope dV kV doc pm an cdv ct) ps sp:=by
 refine⟨len,fun A outer s H args us vs Q E hr e0 hb r hsp=>?_⟩
 have hl:=len _ _ _ _ hsp
 have KX:K.In s.heap:=e0.mod.kin.keeps fun b o e=>(e0.bs b o e).1
 have lim:s.heap.NoLimit:=e0.mod.nolimit.keeps fun b o e=>(e0.bs b o e).1
 have hkind:∀ y∈ps.zip us,scope.names.lookup y.1=some .local∨(scope.names.lookup y.1=some .cell∧((cellsFrom (s.heap.objs.size+1) scope.names []).lookup y.1).isSome=true):=fun⟨n,v⟩ hy=>by
  rcases S.par n (List.of_mem_zip hy).1 with q|q
  · exact .inl q
  · exact .inr ⟨q,PySem.W.cellsFrom_some _ _ _ (.inl q)⟩
 refine codeAny_call_function hr.depth (KX _ _ lk) rfl S.co S.gen rfl (PySem.W.codeRec_of KX hcd) (hb _ _ _ _ ?_)
 refine wpAny_newFunctionEnv_cells S.kind hkind fun env he s1 x=>?_
 subst he
 refine⟨lim.keeps x.toInCall.keep,codeAny_func ?_⟩
 obtain⟨t,ht,hq⟩:=hbody A outer s H vs Q E (hr.deeper _) hsp
 have I:Inv (cxOf CX P w K mg base N qual scope f cdv A outer s H E) [] (start N vs) H s1:=Js S hr.hd e0 hl r x
 refine wpAny_mono (ht [] s1 (start N vs) H _ I hq) (fun fl s' hs=>?_) fun e s' hs=>hs
 have fin:∀{σ':St} {H':Hp} {v:V} {u:Value},Inv (cxOf CX P w K mg base N qual scope f cdv A outer s H E) [] σ' H' s'→RelV v u→Q v H'→CE outer P w H s Q u s' :=
  fun{σ' H' v u} J rv q=>⟨v,H',J.os,J.bare,J.base,J.hok,rv,q⟩
 cases fl with
 | ret u =>
  obtain⟨v,σ',H',J,rv,q⟩:=hs
  exact fin J rv q
 | next =>
  obtain⟨σ',H',J,q⟩:=hs
  exact fin (v:=V.non) (u:=Value.none) J rfl q
 | brk =>
  obtain⟨_,_,_,q⟩:=hs
  exact False.elim q
 | cont =>
  obtain⟨_,_,_,q⟩:=hs
  exact False.elim q
end L2
namespace L2
open PySem PySem.Spec PyProof.Rows
section
variable {X:Cx}{x:Str}{p pos:Pos}{e:Expr}{es:List Expr}{t:TA}{id T:String}{r:List V→Hp→VK→Prop}
def tCB(r:List V→Hp→VK→Prop)(t:TA):TE:=fun σ H Q=>t σ H fun vs H1=>r vs H1 Q
theorem Bq(hc:CallR X (.builtin id) r)(hg:Gl X x)(hm:X.mg x=none)(hv:bootBuiltins x=some (.builtin id))(ha:PA X (e::es) t)(hn:x ≠ "__name__" := by decide)(hdb:(x==("__debug__" : Str))=false:=by decide)
  (he:starEach (e::es) X.env=(false,eval e X.env)::starEach es X.env:=by rfl) (hpl:(backTo pos (starEach es X.env)).any (·.1)=false:=by rfl):PE X (.Call (.Name x p) (e::es) [] pos) (tCB r t):=by
 intro pins s σ H Q I h
 refine wpAny_Call_Name_kw (DE I hg hm hv ?_ hn hdb)
 exact PyProof.Rows.callWith_builtin1 (thn (ha pos pins s σ H _ I h) fun us s1 hZ=>hZ.elim fun vs hZ=>hZ.elim fun H1 hZ=>hZ.elim fun I1 hZ=>hZ.elim fun r1 q1=>hc pins s1 σ H1 vs us Q I1 r1 q1) he hpl
theorem Jt(hc:CallR X (.type T) r)(hg:Gl X x)(hm:X.mg x=none)(hv:bootBuiltins x=some (.type T))(ha:PA X (e::es) t)(hn:x ≠ "__name__" := by decide)(hdb:(x==("__debug__" : Str))=false:=by decide)
  (he:starEach (e::es) X.env=(false,eval e X.env)::starEach es X.env:=by rfl) (hpl:(backTo pos (starEach es X.env)).any (·.1)=false:=by rfl):PE X (.Call (.Name x p) (e::es) [] pos) (tCB r t):=by
 intro pins s σ H Q I h
 refine wpAny_Call_Name_kw (DE I hg hm hv ?_ hn hdb)
 exact PyProof.Rows.callWith_type1 (thn (ha pos pins s σ H _ I h) fun us s1 hZ=>hZ.elim fun vs hZ=>hZ.elim fun H1 hZ=>hZ.elim fun I1 hZ=>hZ.elim fun r1 q1=>hc pins s1 σ H1 vs us Q I1 r1 q1) he hpl
end
end L2
namespace HT
open PySem PyProof.Rows
section
open PySem.SeqAt
open PySem.AutoSeq1 (wpAny_loadPart')
open PySem.MeetsSeq PySem.MeetsSeq2 PySem.MeetsSeq3
end
section
variable {prog:Program}{w:World}{A:Around}{E:Value→Shared→Prop}{s:Shared}
def sIx(n d:Nat):Option Int→Nat
 | none=>d
 | some v=>if v<0 then(v+(n:Int)).toNat else min v.toNat n
theorem sIx_none(n d:Nat):sIx n d none=d:=rfl
theorem sIx_nat(n d k:Nat):sIx n d (some (k:Int))=min k n:=by
 show(if(k:Int)<0 then((k:Int)+(n:Int)).toNat else min (k:Int).toNat n)=min k n
 rw[if_neg (by omega),Int.toNat_natCast]
end
end HT
namespace L2
open PySem PySem.Spec PyProof.Rows
abbrev TO:=St→Hp→(Option Int→Hp→Prop)→Prop
def PO(X:Cx)(e:Option Expr)(t:TO):Prop :=
 ∀(pins:List (Addr×Obj)) (s:Shared) (σ:St) (H:Hp) (Q:Option Int→Hp→Prop),Inv X pins σ H s→t σ H Q →
  wpAny (model X.prog X.w) X.A (evalPart e X.env) (fun u s'=>∃ o H',Inv X pins σ H' s'∧IsPart u o∧Q o H') X.xe s
def NN:TO:=fun _ H Q=>Q none H
def tPart(t:TE):TO:=fun σ H Q=>t σ H fun x H1=>∃ i,x = .int i∧Q (some i) H1
section
variable {X:Cx}{e:Expr}{te:TE}{lo hi:Option Expr}{tl th:TO}{pos p2:Pos}
theorem NO:PO X none NN:=by
 intro pins s σ H Q I h
 rw[evalPart_none]
 exact wpAny_pure ⟨none,H,I,.none,h⟩
theorem NP(h:PE X e te):PO X (some e) (tPart te):=by
 intro pins s σ H Q I hw
 rw[evalPart_some]
 refine thn (h pins s σ H _ I hw) ?_
 rintro u s1 ⟨x,H1,I1,r1,q1⟩
 obtain⟨i,rfl,q⟩:=q1
 obtain⟨t,rfl⟩:=r1
 exact⟨some i,H1,I1,.int i t,q⟩
def SlR(X:Cx)(r:V→Option Int→Option Int→Hp→VK→Prop):Prop :=
 ∀(pins:List (Addr×Obj)) (s:Shared) (σ:St) (H:Hp) (x:V) (v vl vu:Value) (lo hi:Option Int) (sl:Addr) (Q:VK),Inv X pins σ H s→RelV x v→s.heap.IsSliceOf sl vl vu .none→IsPart vl lo→IsPart vu hi→r x lo hi H Q →
  ∃ T id,typeLookup (.type T) "__getitem__" = pure (some (.builtin id))∧s.TypeIs v T∧wpAny (model X.prog X.w) X.A (getItem v (.ref sl)) (EP X pins σ Q) X.xe s
theorem SlR.or{r r':V→Option Int→Option Int→Hp→VK→Prop}(h:SlR X r)(h':SlR X r'):SlR X (fun x lo hi H Q=>r x lo hi H Q∨r' x lo hi H Q):=by
 intro pins s σ H x v vl vu lo hi sl Q I rx hs pl pu q
 rcases q with q|q
 · exact h pins s σ H x v vl vu lo hi sl Q I rx hs pl pu q
 · exact h' pins s σ H x v vl vu lo hi sl Q I rx hs pl pu q
def tSl(r:V→Option Int→Option Int→Hp→VK→Prop)(te:TE)(tl th:TO):TE:=fun σ H Q=>te σ H fun x H1=>tl σ H1 fun l H2=>th σ H2 fun u H3=>r x l u H3 Q
theorem EF{r:V→Option Int→Option Int→Hp→VK→Prop}(hr:SlR X r)(he:PE X e te)(hl:PO X lo tl)(hu:PO X hi th):PE X (.Subscript e (.Slice lo hi none p2) pos) (tSl r te tl th):=by
 intro pins s σ H Q I h
 refine Subscript_ (thn (he pins s σ H _ I h) ?_)
 rintro v s1 ⟨x,H1,I1,r1,q1⟩
 refine wpAny_Slice (thn (hl pins s1 σ H1 _ I1 q1) fun vl s2 hZ=>hZ.elim fun l hZ=>hZ.elim fun H2 hZ=>hZ.elim fun I2 hZ=>hZ.elim fun pl q2=>thn (hu pins s2 σ H2 _ I2 q2) ?_)
 rintro vu s3 ⟨u,H3,I3,pu,q3⟩
 rw[evalPart_none]
 refine wpAny_pure ?_
 have I4:Inv X pins σ H3 { s3 with heap:=s3.heap.push { cls := .type "slice",data := .fields #[vl,vu,.none] } }:=I3.kept (t':=s3.toks) fun b ob q=>Heap.get?_push_of_some _ q
 obtain⟨T,id,hT,ht,hg⟩:=hr pins { s3 with heap:=s3.heap.push { cls := .type "slice",data := .fields #[vl,vu,.none] } } σ H3 x v vl vu l u s3.heap.objs.size Q I4 r1 (Heap.IsSliceOf.new ..) pl pu q3
 show wpAny (model X.prog X.w) X.A (subscriptTail e (.Slice lo hi none p2) v (.ref s3.heap.objs.size)) (EP X pins σ Q) X.xe { s3 with heap:=s3.heap.push { cls := .type "slice",data := .fields #[vl,vu,.none] } }
 exact tail_any (ops:=[.ref s3.heap.objs.size,v]) ht hT hg (by with_unfolding_all rfl)
def cutV(xs:List V)(lo hi:Option Int):List V:=(xs.drop (HT.sIx xs.length 0 lo)).take (HT.sIx xs.length xs.length hi-HT.sIx xs.length 0 lo)
theorem EG(xs:List V)(lo hi:Option Int):(cutV xs lo hi).length≤xs.length:=by
 unfold cutV
 rw[List.length_take,List.length_drop]
 omega
end
end L2
namespace L2
open PySem PySem.Spec PyProof.Rows
def ixN(n:Nat)(i:Int):Option Nat:=if 0≤i then(if i<n then some i.toNat else none) else if -(n:Int)≤i then some (i+n).toNat else none
def atI{α:Type}(xs:List α)(i:Int):Option α:=(ixN xs.length i).bind fun j=>xs[j]?
theorem Iy{n:Nat}{i:Int}{j:Nat}(h:ixN n i=some j):seqIndex? i n=some j∧j<n ∧ -(n:Int)≤i∧i<n:=by
 unfold ixN at h
 by_cases h0:0≤i
 · rw[if_pos h0]at h
   by_cases h1:i<n
   · rw[if_pos h1]at h
     have e:i.toNat=j:=Option.some.inj h
     exact⟨by rw[seqIndex_of h0 h1,e],by omega,by omega,h1⟩
   · rw[if_neg h1]at h;cases h
 · rw[if_neg h0]at h
   by_cases h1 : -(n:Int)≤i
   · rw[if_pos h1]at h
     have e:(i+n).toNat=j:=Option.some.inj h
     exact⟨by rw[seqIndex_neg (by omega) h1,e],by omega,h1,by omega⟩
   · rw[if_neg h1]at h;cases h
theorem DG{α:Type}{xs:List α}{i:Int}{v:α}(h:atI xs i=some v):∃ j,seqIndex? i xs.length=some j∧xs[j]?=some v∧j<xs.length ∧ -(xs.length:Int)≤i∧i<xs.length:=by
 unfold atI at h
 cases e:ixN xs.length i with
 | none=>rw[e]at h;cases h
 | some j =>
  rw[e]at h
  obtain⟨h1,h2,h3,h4⟩:=Iy e
  exact⟨j,h1,h,h2,h3,h4⟩
theorem DH{α:Type}{xs:List α}{j:Nat}{v:α}(h:xs[j]?=some v):atI xs (j:Int)=some v:=by
 have hj:j<xs.length:=(List.getElem?_eq_some_iff.mp h).1
 have e:ixN xs.length (j:Int)=some j:=by
  unfold ixN
  rw[if_pos (by omega),if_pos (by omega)];simp
 unfold atI;rw[e];exact h
def Bf(b:Expr):Prop:=∀ o i,subscripted b false o i=operate [o,i] (getItem o i)
def IxR(X:Cx)(r:R2):Prop :=
 ∀(value slice:Expr) (pins:List (Addr×Obj)) (s:Shared) (σ:St) (H:Hp) (x y:V) (v u:Value) (Q:VK),Inv X pins σ H s→RelV x v→RelV y u→r x y H Q →
  subscripted slice false v u=operate [v,u] (getItem v u)→wpAny (model X.prog X.w) X.A (subscriptTail value slice v u) (EP X pins σ Q) X.xe s
def MtR(X:Cx)(id:String)(r:V→List V→Hp→VK→Prop):Prop :=
 ∀(pins:List (Addr×Obj)) (s:Shared) (σ:St) (H:Hp) (x:V) (xs:List V) (v:Value) (us:List Value) (Q:VK),Inv X pins σ H s→RelV x v→Vals xs us→r x xs H Q →
  wpAny (model X.prog X.w) X.A (call (.builtin id) (v::us)) (EP X pins σ Q) X.xe s
section
variable {X:Cx}{a b:Expr}{ta tb:TE}{pos:Pos}
theorem IxR.or{r r':R2}(h:IxR X r)(h':IxR X r'):IxR X (fun x y H Q=>r x y H Q∨r' x y H Q):=by
 intro value slice pins s σ H x y v u Q I rx ry q hs
 rcases q with q|q
 · exact h value slice pins s σ H x y v u Q I rx ry q hs
 · exact h' value slice pins s σ H x y v u Q I rx ry q hs
theorem MtR.or{id:String}{r r':V→List V→Hp→VK→Prop}(h:MtR X id r)(h':MtR X id r'):MtR X id (fun x xs H Q=>r x xs H Q∨r' x xs H Q):=by
 intro pins s σ H x xs v us Q I rx rs q
 rcases q with q|q
 · exact h pins s σ H x xs v us Q I rx rs q
 · exact h' pins s σ H x xs v us Q I rx rs q
theorem pe_ix{r:R2}(hr:IxR X r)(ha:PE X a ta)(hb:PE X b tb)(hs:Bf b):PE X (.Subscript a b pos) (tOp r ta tb):=by
 intro pins s σ H Q I h
 exact Subscript_ (binT ha hb I h fun v u s2 x y H2 I2 rx ry q=>hr a b pins s2 σ H2 x y v u Q I2 rx ry q (hs _ _))
def rIxL(K:PySem.W.Frag):R2:=fun x y H Q=>∃ p xs i v,x = .ref p∧y = .int i∧SqL K H p xs∧atI xs i=some v∧Q v H
def rIxT(K:PySem.W.Frag):R2:=fun x y H Q=>∃ p xs i v,x = .ref p∧y = .int i∧SqT K H p xs∧atI xs i=some v∧Q v H
def rIxS:R2:=fun x y H Q=>∃ z i c,x = .str z∧y = .int i∧z.length≤sizeLine∧atI z.cps.toList i=some c∧Q (.str ⟨#[c]⟩) H
theorem NQ:IxR X (rIxL X.K):=by
 intro value slice pins s σ H x y v u Q I rx ry h hs
 obtain⟨p,xs,i,z,rfl,rfl,hq,he,q⟩:=h
 cases rx
 obtain⟨t,rfl⟩:=ry
 obtain⟨its,r,pl,hz⟩:=I.list hq
 obtain⟨j,h1,h2,h3,h4,h5⟩:=DG he
 obtain⟨w,ew,rw'⟩:=r.get h2
 have hl:=r.length
 have hn:=W3
 have fin:EP X pins σ Q w s:=⟨z,H,I,rw',q⟩
 by_cases h0:0≤i
 · have hj:i.toNat=j:=by
    rw[seqIndex_of h0 h5]at h1
    exact Option.some.inj h1
   exact item_listR pl.isList h0 (by omega) (by rw[hj];simpa using ew) fin hs
 · have hj:(i+(its.toArray.size:Int)).toNat=j:=by
    rw[seqIndex_neg (by omega) h4]at h1
    rw[List.size_toArray,←hl]
    exact Option.some.inj h1
   exact subscriptTail_builtinR (x:=w) pl.isList.typeIs slot_list_getitem.lookup
    (wpAny_getItem_list_neg (Q:=fun r s'=>r=w∧EP X pins σ Q r s') pl.isList (by omega) (by rw[List.size_toArray]<;>omega) (by omega) (by rw[hj];simpa using ew) ⟨rfl,fin⟩) hs
theorem ix_tup:IxR X (rIxT X.K):=by
 intro value slice pins s σ H x y v u Q I rx ry h hs
 obtain⟨p,xs,i,z,rfl,rfl,hq,he,q⟩:=h
 cases rx
 obtain⟨t,rfl⟩:=ry
 obtain⟨its,r,pl,hz⟩:=I.tuple hq
 obtain⟨j,h1,h2,h3,h4,h5⟩:=DG he
 obtain⟨w,ew,rw'⟩:=r.get h2
 have hl:=r.length
 have hn:=W3
 have fin:EP X pins σ Q w s:=⟨z,H,I,rw',q⟩
 exact subscriptTail_builtinR (x:=w) pl.typeIs slot_tuple_getitem.lookup
  (getItem_tuple (j:=j) (Q:=fun r s'=>r=w∧EP X pins σ Q r s') pl (by omega) (by omega) (by rw[List.size_toArray,←hl];exact h1) (by simpa using ew) ⟨rfl,fin⟩) hs
theorem Kg:IxR X rIxS:=by
 intro value slice pins s σ H x y v u Q I rx ry h hs
 obtain⟨z,i,c,rfl,rfl,hz,he,q⟩:=h
 obtain⟨t,rfl⟩:=rx
 obtain⟨t',rfl⟩:=ry
 obtain⟨j,h1,h2,h3,h4,h5⟩:=DG he
 have hl:z.cps.toList.length=z.length:=by simp[Str.length]
 rw[hl]at h1 h4 h5
 have hn:=W3
 exact tail_any (typeIs_str s z t) slot_str_getitem.lookup (getItem_str (c:=c) (by
  have e1:decide (i < -(2 ^ 63:Int))=false:=decide_eq_false (by omega)
  have e2:decide (i≥2 ^ 63)=false:=decide_eq_false (by omega)
  rw[e1,e2,Bool.or_false]) (by rw[h1];simpa using h2) ⟨.str ⟨#[c]⟩,H,I.tok _,⟨_,rfl⟩,q⟩) hs
def rIx(K:PySem.W.Frag):R2:=fun x y H Q=>rIxL K x y H Q∨rIxT K x y H Q∨rIxS x y H Q
theorem ix_seq:IxR X (rIx X.K):=NQ.or (ix_tup.or Kg)
theorem Gf(its:List Value)(n j:Nat)(u:Value):Obj.mapSeq (·.setIfInBounds j u) { cls := .type "list",data := .seq its.toArray n }={ cls := .type "list",data := .seq (its.set j u).toArray n }:=by
 simp[Obj.mapSeq]
theorem Inv.lst{pins:List (Addr×Obj)}{σ:St}{H:Hp}{s:Shared}{p:Addr}{xs:List V}(I:Inv X pins σ H s)(h:H p=some (.lst xs)):
  ∃(its:List Value) (n:Nat),Vals xs its∧s.heap.get? p=some { cls := .type "list",data := .seq its.toArray n }∧xs.length≤sizeLine:=by
 obtain⟨z,its,n,r,e⟩:=I.hok p _ h
 exact⟨its,n,r,e,z⟩
theorem Inv.lstUpd{pins:List (Addr×Obj)}{σ:St}{H:Hp}{s:Shared}{p:Addr}{xs ys:List V}{its its':List Value}{n n':Nat}{f:Obj→Obj}(I:Inv X pins σ H s)(h:H p=some (.lst xs))
  (ho:s.heap.get? p=some { cls := .type "list",data := .seq its.toArray n }) (hf:f { cls := .type "list",data := .seq its.toArray n }={ cls := .type "list",data := .seq its'.toArray n' }) (r:Vals ys its') (hz:ys.length≤sizeLine) (t:Nat) :
  Inv X pins σ (upd H p (.lst ys)) { s with heap:=s.heap.update p f,toks:=t }:=by
 have e:(s.heap.update p f).get? p=some { cls := .type "list",data := .seq its'.toArray n' }:=by
  rw[Heap.get?_update_self f ho (by rw[hf]<;>rfl),hf]
 refine I.write (x:=p) (e:=p) (by rw[h];trivial) (.inl rfl) (fun b u hb q=>(Heap.get?_update_other _ _ (Ne.symm hb)).trans q) ⟨_,e⟩ ?_
 exact⟨hz,its',n',r,e⟩
def rSetL:V→V→V→Hp→(Hp→Prop)→Prop:=fun o i v H Q=>∃ p xs k j,o = .ref p∧i = .int k∧H p=some (.lst xs)∧ixN xs.length k=some j∧Q (upd H p (.lst (xs.set j v)))
theorem Kh:PSet X rSetL:=by
 intro pins s σ H o i v ov iv u Q I ro ri rv h
 obtain⟨p,xs,k,j,rfl,rfl,hp,hj,q⟩:=h
 cases ro
 obtain⟨t,rfl⟩:=ri
 obtain⟨its,n,r,ho,hz⟩:=I.lst hp
 obtain⟨h1,h2,h3,h4⟩:=Iy hj
 have hl:=r.length
 have hn:=W3
 have I':Inv X pins σ (upd H p (.lst (xs.set j v))) { s with heap:=s.heap.update p (Obj.mapSeq (·.setIfInBounds j u)) } :=
   I.lstUpd hp ho (Gf its n j u) (r.set rv j) (by rw[List.length_set];exact hz) s.toks
 by_cases h0:0≤k
 · have hk:k.toNat=j:=by
    rw[seqIndex_of h0 h4]at h1
    exact Option.some.inj h1
   exact PySem.W.ki_setAt ho h0 (by omega) (by rw[List.size_toArray,←hl];exact h4) (by rw[hk];exact⟨_,I',q⟩)
 · have hk:(k+(its.toArray.size:Int)).toNat=j:=by
    rw[seqIndex_neg (by omega) h3]at h1
    rw[List.size_toArray,←hl]
    exact Option.some.inj h1
   exact PySem.W.ki_setBack ho (by omega) (by rw[List.size_toArray,←hl];exact h3) (by omega) (by rw[hk];exact⟨_,I',q⟩)
theorem DI(lo hi:Option Int)(n:Nat):(sliceBounds lo hi none n).1=((HT.sIx n 0 lo:Nat):Int)∧(sliceBounds lo hi none n).2.1=((HT.sIx n n hi:Nat):Int)∧(sliceBounds lo hi none n).2.2=1:=by
 refine⟨?_,?_,rfl⟩
 · cases lo with
   | none=>simp[sliceBounds,HT.sIx]
   | some i =>
    simp only[sliceBounds,HT.sIx,Option.getD_none,show(1:Int) > 0 by decide,if_true]
    by_cases h:i<0
    · simp only[h,if_true]<;>omega
    · simp only[h,if_false]<;>omega
 · cases hi with
   | none=>simp[sliceBounds,HT.sIx]
   | some i =>
    simp only[sliceBounds,HT.sIx,Option.getD_none,show(1:Int) > 0 by decide,if_true]
    by_cases h:i<0
    · simp only[h,if_true]<;>omega
    · simp only[h,if_false]<;>omega
theorem CA(its:List Value)(lo hi:Option Int):slicePick its.toArray lo hi none=((its.drop (HT.sIx its.length 0 lo)).take (HT.sIx its.length its.length hi-HT.sIx its.length 0 lo)).toArray:=by
 obtain⟨h1,h2,h3⟩:=DI lo hi its.toArray.size
 unfold slicePick
 rw[h1,h2,h3]
 simp only[sliceRange_one,pick_run,List.size_toArray]<;>rfl
def rSlL(K:PySem.W.Frag):V→Option Int→Option Int→Hp→VK→Prop:=fun x lo hi H Q=>∃ a xs,x = .ref a∧SqL K H a xs∧∀ p,H p=none→Q (.ref p) (upd H p (.lst (cutV xs lo hi)))
theorem NR:SlR X (rSlL X.K):=by
 intro pins s σ H x v vl vu lo hi sl Q I rx hs pl pu h
 obtain⟨a,xs,rfl,hx,q⟩:=h
 cases rx
 obtain⟨its,r,ht,hz⟩:=I.list hx
 have hlen:=r.length
 refine⟨"list",_,slot_list_getitem.lookup,ht.isList.typeIs,?_⟩
 refine wpAny_getItem_list_slice ht.isList hs pl pu .none (by simp) ?_ (by rw[List.size_toArray]<;>omega)
 rw[CA,←hlen]
 refine⟨.ref s.heap.objs.size,_,I.laid (t':=s.toks) (o := .lst (cutV xs lo hi)) (fun b ob q=>Heap.get?_push_of_some _ q) (Nat.le_refl _) ?_,rfl,q _ (I.hok.fresh (Nat.le_refl _))⟩
 exact⟨Nat.le_trans (EG xs lo hi) hz,_,0,(r.drop (HT.sIx xs.length 0 lo)).take (HT.sIx xs.length xs.length hi-HT.sIx xs.length 0 lo),Heap.get?_push_size _ rfl⟩
def Y2:V→Bool
 | .non=>true
 | .bl _=>true
 | .int _=>true
 | .str _=>true
 | _=>false
def eqV:V→V→Bool
 | .non,.non=>true
 | .bl a,.bl b=>a==b
 | .bl a,.int b=>(if a then 1 else 0)==b
 | .int a,.bl b=>a==(if b then 1 else 0)
 | .int a,.int b=>a==b
 | .str a,.str b=>a==b
 | _,_=>false
theorem eqAt_V{A:Around}{s:Shared}{y x:V}{u v:Value}(ry:RelV y u)(rx:RelV x v)(fy:Y2 y=true)(fx:Y2 x=true):SeqAt.EqAt A s u v (eqV y x):=by
 cases y with
 | non =>
  cases ry
  cases x with
  | non=>cases rx;exact SeqAt.EqAt.same _
  | bl b=>cases rx;exact SeqAt.EqAt.none_bool b
  | int b=>obtain⟨t,rfl⟩:=rx;exact SeqAt.EqAt.none_int b t
  | str b=>obtain⟨t,rfl⟩:=rx;exact SeqAt.EqAt.none_str b t
  | _=>exact absurd (show false=true from fx) Bool.false_ne_true
 | bl a =>
  cases ry
  cases x with
  | non=>cases rx;exact SeqAt.EqAt.bool_none a
  | bl b=>cases rx;exact SeqAt.EqAt.bool_bool a b
  | int b=>obtain⟨t,rfl⟩:=rx;exact SeqAt.EqAt.bool_int a b t
  | str b=>obtain⟨t,rfl⟩:=rx;exact SeqAt.EqAt.bool_str a b t
  | _=>exact absurd (show false=true from fx) Bool.false_ne_true
 | int a =>
  obtain⟨t',rfl⟩:=ry
  cases x with
  | non=>cases rx;exact SeqAt.EqAt.int_none a t'
  | bl b=>cases rx;exact SeqAt.EqAt.int_bool a t' b
  | int b=>obtain⟨t,rfl⟩:=rx;exact SeqAt.EqAt.int_int a t' b t
  | str b=>obtain⟨t,rfl⟩:=rx;exact SeqAt.EqAt.int_str a t' b t
  | _=>exact absurd (show false=true from fx) Bool.false_ne_true
 | str a =>
  obtain⟨t',rfl⟩:=ry
  cases x with
  | non=>cases rx;exact SeqAt.EqAt.str_none a t'
  | bl b=>cases rx;exact SeqAt.EqAt.str_bool a t' b
  | int b=>obtain⟨t,rfl⟩:=rx;exact SeqAt.EqAt.str_int a t' b t
  | str b=>obtain⟨t,rfl⟩:=rx;exact SeqAt.EqAt.str_str a t' b t
  | _=>exact absurd (show false=true from fx) Bool.false_ne_true
 | _=>exact absurd (show false=true from fy) Bool.false_ne_true
def eqU(x:V)(u:Value):Bool:=match u with
 | .none=>eqV .non x
 | .bool b=>eqV (.bl b) x
 | .int i _=>eqV (.int i) x
 | .str z _=>eqV (.str z) x
 | _=>false
theorem Ki{x y:V}{u:Value}(r:RelV y u)(f:Y2 y=true):eqU x u=eqV y x:=by
 cases y with
 | non=>cases r;rfl
 | bl b=>cases r;rfl
 | int i=>obtain⟨t,rfl⟩:=r;rfl
 | str z=>obtain⟨t,rfl⟩:=r;rfl
 | _=>exact absurd (show false=true from f) Bool.false_ne_true
theorem DJ{x:V}:∀{xs:List V} {us:List Value},Vals xs us→xs.all Y2=true→us.any (eqU x)=xs.any fun y=>eqV y x
 | _,_,.nil,_=>rfl
 | y::xs,u::us,.cons r t,f=>by
  rw[List.all_cons,Bool.and_eq_true]at f
  rw[List.any_cons,List.any_cons,Ki r f.1,DJ t f.2]
theorem Bs{A:Around}{s:Shared}{x:V}{v:Value}(rx:RelV x v)(fx:Y2 x=true):∀{xs:List V} {us:List Value},Vals xs us→xs.all Y2=true→∀ u∈us,SeqAt.EqAt A s u v (eqU x u)
 | _,_,.nil,_=>fun u hu=>by cases hu
 | y::xs,u::us,.cons r t,f=>fun u' hu=>by
  rw[List.all_cons,Bool.and_eq_true]at f
  rcases List.mem_cons.mp hu with rfl|hu
  · rw[Ki r f.1];exact eqAt_V r rx f.1 fx
  · exact Bs rx fx t f.2 u' hu
def inV(x:V)(xs:List V):Bool:=xs.any fun y=>eqV y x
def rIn(K:PySem.W.Frag)(neg:Bool):R2:=fun x y H Q=>∃ p xs,y = .ref p∧(SqL K H p xs∨SqT K H p xs)∧Y2 x=true∧xs.all Y2=true∧Q (.bl (if neg then !inV x xs else inV x xs)) H
theorem Ju:OpR X (compareOp .In) (rIn X.K false):=by
 intro pins s σ H x y v u Q I rx ry h
 obtain⟨p,xs,rfl,hq,fx,fs,q⟩:=h
 cases ry
 rcases hq with hq|hq
 · obtain⟨its,r,pl,hz⟩:=I.list hq
   refine SeqAt.in_listAt (eqU x) pl.isList (fun w hw=>Bs rx fx r fs w (by simpa using hw)) ⟨.bl _,H,I,rfl,?_⟩
   rw[show its.toArray.any (eqU x)=its.any (eqU x) by simp,DJ r fs]
   exact q
 · obtain⟨its,r,pl,hz⟩:=I.tuple hq
   refine SeqAt.in_tupleAt (eqU x) pl (fun w hw=>Bs rx fx r fs w (by simpa using hw)) ⟨.bl _,H,I,rfl,?_⟩
   rw[show its.toArray.any (eqU x)=its.any (eqU x) by simp,DJ r fs]
   exact q
theorem N3:CallR X (.builtin "len") (fun xs H Q=>∃ p ys,xs=[.ref p]∧(SqL X.K H p ys∨SqT X.K H p ys)∧Q (.int ys.length) H):=by
 intro pins s σ H xs us Q I r h
 obtain⟨p,ys,rfl,hq,q⟩:=h
 obtain⟨u,rfl,rx⟩:=V1 r
 cases rx
 have hn:=W3
 rcases hq with hq|hq
 · obtain⟨its,r',pl,hz⟩:=I.list hq
   have hlen:=r'.length
   exact Calls.call_len_list pl.isList (by simp only[List.size_toArray]<;>omega) ⟨.int ys.length,H,I.tok _,⟨s.toks+1,by rw[List.size_toArray,hlen]⟩,q⟩
 · obtain⟨its,r',pl,hz⟩:=I.tuple hq
   have hlen:=r'.length
   exact len_tuple pl (by simp only[List.size_toArray]<;>omega) ⟨.int ys.length,H,I.tok _,⟨s.toks+1,by rw[List.size_toArray,hlen]⟩,q⟩
theorem DK:CallR X (.builtin "len") (fun xs H Q=>∃ z,xs=[.str z]∧z.length≤sizeLine∧Q (.int z.length) H):=by
 intro pins s σ H xs us Q I r h
 obtain⟨z,rfl,hz,q⟩:=h
 obtain⟨u,rfl,t,rfl⟩:=V1 r
 have hn:=W3
 exact len_str (by omega) ⟨.int z.length,H,I.tok _,⟨_,rfl⟩,q⟩
theorem CallR.or{f:Value}{r r':List V→Hp→VK→Prop}(h:CallR X f r)(h':CallR X f r'):CallR X f (fun xs H Q=>r xs H Q∨r' xs H Q):=by
 intro pins s σ H xs us Q I rs q
 rcases q with q|q
 · exact h pins s σ H xs us Q I rs q
 · exact h' pins s σ H xs us Q I rs q
theorem Y3:CallR X (.type "list") (fun xs H Q=>∃ p ys,xs=[.ref p]∧(SqL X.K H p ys∨SqT X.K H p ys)∧∀ l,H l=none→Q (.ref l) (upd H l (.lst ys))):=by
 intro pins s σ H xs us Q I r h
 obtain⟨p,ys,rfl,hq,q⟩:=h
 obtain⟨u,rfl,rx⟩:=V1 r
 cases rx
 have fin:∀(its:List Value),Vals ys its→ys.length≤sizeLine→∀(h':Heap) (c':Nat),(∀ b o',s.heap.get? b=some o'→h'.get? b=some o') →
    h'.get? s.heap.objs.size=some { cls := .type "list",dict:=none,data := .seq its.toArray c',slots:=#[] }→EP X pins σ Q (.ref s.heap.objs.size) { s with heap:=h' }:=fun its r' hz h' c' kp e =>
   ⟨.ref s.heap.objs.size,_,I.laid (t':=s.toks) kp (Nat.le_refl _) (show ObjOk X.prog X.w _ h' _ (.lst ys) from⟨hz,its,c',r',e⟩),rfl,q _ (I.hok.fresh (Nat.le_refl _))⟩
 rcases hq with hq|hq
 · obtain⟨its,r',pl,hz⟩:=I.list hq
   have hlen:=r'.length
   obtain⟨o,ho,hc,n,hd⟩:=pl.isList
   exact call_list_seq p (.inl rfl) ho hc hd (fun h' c' kp e=>fin its r' hz h' c' kp e) (by simp only[List.size_toArray]<;>omega)
 · obtain⟨its,r',pl,hz⟩:=I.tuple hq
   have hlen:=r'.length
   obtain⟨o,ho,hc,n,hd⟩:=pl
   exact call_list_seq p (.inr rfl) ho hc hd (fun h' c' kp e=>fin its r' hz h' c' kp e) (by simp only[List.size_toArray]<;>omega)
theorem V2:CallR X (.type "tuple") (fun xs H Q=>∃ p ys,xs=[.ref p]∧((SqL X.K H p ys∧∀ l,H l=none→Q (.ref l) (upd H l (.tup ys)))∨(SqT X.K H p ys∧Q (.ref p) H))):=by
 intro pins s σ H xs us Q I r h
 obtain⟨p,ys,rfl,h⟩:=h
 obtain⟨u,rfl,rx⟩:=V1 r
 cases rx
 rcases h with⟨hq,q⟩|⟨hq,q⟩
 · obtain⟨its,r',pl,hz⟩:=I.list hq
   have hlen:=r'.length
   refine call_tuple_list pl.isList (fun h' kp=>?_) (by simp only[List.size_toArray]<;>omega)
   have I1:Inv X pins σ H { s with heap:=h' }:=I.kept (t':=s.toks) kp
   have I2:Inv X pins σ (upd H h'.objs.size (.tup ys)) { s with heap:=h'.push { cls := .type "tuple",data := .seq its.toArray } } :=
    I1.laid (t':=s.toks) (fun b o e=>Heap.get?_push_of_some _ e) (Nat.le_refl _) (show ObjOk X.prog X.w _ _ _ (.tup ys) from⟨hz,its,r',IsTup.new _ _⟩)
   exact⟨.ref h'.objs.size,_,I2,rfl,q _ (I1.hok.fresh (Nat.le_refl _))⟩
 · obtain⟨its,r',pl,hz⟩:=I.tuple hq
   exact call_tuple_same pl ⟨.ref p,H,I,rfl,q⟩
def tyV(K:PySem.W.Frag)(T:String)(x:V)(H:Hp):Prop:=match x with
 | .str _=>T = "str"
 | .int _=>T = "int"
 | .ref p=>(T = "list" ∧ ∃ xs,SqL K H p xs)∨(T = "tuple" ∧ ∃ o,K.lookup p=some o∧o.cls = .type "tuple" ∧ o.dict=none) ∨
  (T = "dict" ∧ ((∃ kvs,H p=some (.dK kvs))∨∃ kvs,H p=some (.dT kvs)))∨(T = "set" ∧ ∃ S n,H p=some (.set S n))
 | _=>False
theorem tyV_is{pins:List (Addr×Obj)}{σ:St}{H:Hp}{s:Shared}{T:String}{x:V}{v:Value}(I:Inv X pins σ H s)(r:RelV x v)(ty:tyV X.K T x H):
  s.TypeIs v T∧∀ a,v = .ref a→∃ ob,s.heap.get? a=some ob∧ob.dict=none:=by
 cases x with
 | str z =>
  obtain⟨t,rfl⟩:=r
  cases (show T = "str" from ty)
  exact⟨typeIs_str s z t,fun _ e=>nomatch e⟩
 | int i =>
  obtain⟨t,rfl⟩:=r
  cases (show T = "int" from ty)
  exact⟨typeIs_int s i t,fun _ e=>nomatch e⟩
 | ref p =>
  cases r
  rcases ty with⟨rfl,xs,hq⟩|⟨rfl,o,hk,hc,hd⟩|⟨rfl,hk⟩|⟨rfl,S,n,hk⟩
  · obtain⟨its,_,pl,_⟩:=I.list hq
    refine⟨pl.isList.typeIs,fun a e=>?_⟩
    cases e
    obtain⟨o,n,e,c,hd,_⟩:=pl
    exact⟨o,e,hd⟩
  · refine⟨⟨o,I.kIn p o hk,hc⟩,fun a e=>?_⟩
    cases e
    exact⟨o,I.kIn _ o hk,hd⟩
  · have z:∃ o,s.heap.get? p=some o∧o.ExactDict:=by
     rcases hk with⟨kvs,hk⟩|⟨kvs,hk⟩
     · obtain⟨_,_,_,_,o,_,_,e,ex,_⟩:=I.hok p _ hk
       exact⟨o,e,ex⟩
     · obtain⟨_,_,_,_,o,_,_,e,ex,_⟩:=I.hok p _ hk
       exact⟨o,e,ex⟩
    obtain⟨o,e,ex⟩:=z
    refine⟨⟨o,e,ex.1⟩,fun a e2=>?_⟩
    cases e2
    exact⟨o,e,ex.2.1⟩
  · obtain⟨o,_,_,_,e,ex,_⟩:=I.hok p _ hk
    refine⟨⟨o,e,ex.1⟩,fun a e2=>?_⟩
    cases e2
    exact⟨o,e,ex.2.1⟩
 | _=>exact False.elim ty
def tBM(K:PySem.W.Frag)(T:String)(r:V→List V→Hp→VK→Prop)(to:TE)(t:TA):TE:=fun σ H Q=>to σ H fun x H1=>tyV K T x H1∧t σ H1 fun xs H2=>r x xs H2 Q
variable {o e:Expr}{es:List Expr}{to:TE}{t:TA}{name:Str}{apos cpos:Pos}{T id:String}{r:V→List V→Hp→VK→Prop}
theorem Kj(pa:PlainAttrs T)(slot:Slot T name id)(hty:typeOf (.builtin id)=pure (.type "method_descriptor"))(hm:MtR X id r)(ho:PE X o to)(ha:PA X (e::es) t)
  (hbase:attributeBase o name X.env (eval o X.env)=eval o X.env:=by rfl)
  (hfew:((backTo cpos (starEach (e::es) X.env)).all (fun x=>!x.1)&&(backToKw cpos (keywordEach [] X.env)).all (fun x=>x.1.isSome)
   && decide ((e::es).length+([]:List Keyword).length+(if([]:List Keyword).isEmpty then 0 else 1)<30))=true:=by rfl)
  (hline:(apos.endLine==cpos.line)=true:=by rfl) (hs:starEach (e::es) X.env=(false,eval e X.env)::starEach es X.env:=by rfl) (hplain:(backTo cpos (starEach es X.env)).any (·.1)=false:=by rfl) :
  PE X (.Call (.Attribute o name apos) (e::es) [] cpos) (tBM X.K T r to t):=by
 intro pins s σ H Q I h
 refine wpAny_Call_method_late hbase hfew hline rfl (thn (ho pins s σ H _ I h) ?_)
 rintro v s1 ⟨x,H1,I1,r1,ty,q1⟩
 obtain⟨h1,h2⟩:=tyV_is I1 r1 ty
 refine⟨T,id,pa,slot,hty,h1,h2,?_⟩
 have hA:=ha cpos pins s1 σ H1 _ I1 q1
 rw[hs]at hA ⊢
 refine Calls.callWith_builtin (by show(false||(backTo cpos (starEach es X.env)).any (·.1))=false;rw[hplain]<;>rfl) (Calls.evalArgs_plain ?_)
 exact thn hA fun us s2 hZ=>hZ.elim fun vs hZ=>hZ.elim fun H2 hZ=>hZ.elim fun I2 hZ=>hZ.elim fun r2 q2=>hm pins s2 σ H2 x vs v us Q I2 r1 r2 q2
end
end L2
namespace L2
open PySem PySem.Spec PyProof.Rows
def MtM(X:Cx)(id:String)(r:V→List V→Hp→VK→Prop):Prop :=
 ∀(pins:List (Addr×Obj)) (s:Shared) (σ:St) (H:Hp) (x:V) (xs:List V) (v:Value) (us:List Value) (Q:VK),Inv X pins σ H s→RelV x v→Vals xs us→r x xs H Q →
  wpAny (model X.prog X.w) X.A (call (.builtin id) (v::us)) (EP X pins σ Q) X.xe s
theorem Vals.zero:∀{us:List Value},Vals [] us→us=[]
 | _,.nil=>rfl
theorem Vals.uncons{x:V}{xs:List V}{us:List Value}(h:Vals (x::xs) us):∃ u vs,us=u::vs∧RelV x u∧Vals xs vs:=by
 cases h with
 | cons r t=>exact⟨_,_,rfl,r,t⟩
theorem Vals.one{x:V}{us:List Value}(h:Vals [x] us):∃ u,us=[u]∧RelV x u:=by
 obtain⟨u,vs,e,r,t⟩:=h.uncons
 rw[t.zero]at e
 exact⟨u,e,r⟩
theorem Vals.two{x y:V}{us:List Value}(h:Vals [x,y] us):∃ u v,us=[u,v]∧RelV x u∧RelV y v:=by
 obtain⟨u,vs,e,r,t⟩:=h.uncons
 obtain⟨v,e2,q⟩:=t.one
 rw[e2]at e
 exact⟨u,v,e,r,q⟩
theorem Vals.dropLast{xs:List V}{us:List Value}(h:Vals xs us):Vals xs.dropLast us.dropLast:=by
 induction h with
 | nil=>exact .nil
 | cons r t ih =>
  cases t with
  | nil=>exact .nil
  | cons q t'=>exact .cons r ih
theorem Vals.reverse{xs:List V}{us:List Value}(h:Vals xs us):Vals xs.reverse us.reverse:=by
 induction h with
 | nil=>exact .nil
 | cons r t ih=>rw[List.reverse_cons,List.reverse_cons];exact Vals.append ih (.cons r .nil)
section
variable {X:Cx}{pins:List (Addr×Obj)}{σ:St}{H:Hp}{s:Shared}{l b:Addr}{xs ys zs:List V}
theorem Inv.lset{its its':List Value}{n:Nat}{f:Array Value→Array Value}{t':Nat}(I:Inv X pins σ H s)(hH:H l=some (.lst xs))
  (e:s.heap.get? l=some { cls := .type "list",data := .seq its.toArray n }) (hf:f its.toArray=its'.toArray) (hv:Vals ys its') (hz:ys.length≤sizeLine) :
  Inv X pins σ (upd H l (.lst ys)) { s with heap:=s.heap.update l (Obj.mapSeq f),toks:=t' }:=by
 have q:=PySem.IsL.update e f
 rw[hf]at q
 refine I.write (x:=l) (e:=l) (by rw[hH];exact trivial) (.inl rfl) (fun b' u hb hu=>(Heap.get?_update_other s.heap (Obj.mapSeq f) (Ne.symm hb)).trans hu) ⟨_,q⟩ ?_
 exact⟨hz,its',_,hv,q⟩
theorem Inv.lnew{its:List Value}{t':Nat}(I:Inv X pins σ H s)(hv:Vals ys its)(hz:ys.length≤sizeLine):
  Inv X pins σ (upd H s.heap.objs.size (.lst ys)) { s with heap:=s.heap.push { cls := .type "list",data := .seq its.toArray },toks:=t' } :=
 I.laid (fun _ _ q=>Heap.get?_push_of_some _ q) (Nat.le_refl _) ⟨hz,its,0,hv,Heap.get?_push_size _ rfl⟩
theorem Inv.fresh(I:Inv X pins σ H s):H s.heap.objs.size=none:=I.hok.fresh (Nat.le_refl _)
theorem Inv.lstM(I:Inv X pins σ H s)(hH:H l=some (.lst xs)):xs.length≤sizeLine∧∃(its:List Value) (n:Nat),Vals xs its∧xs.length=its.length∧s.heap.get? l=some { cls := .type "list",data := .seq its.toArray n }:=by
 obtain⟨z,its,n,r,e⟩:=I.hok l _ hH
 exact⟨z,its,n,r,r.length,e⟩
end
section
variable {X:Cx}
def NS:V→List V→Hp→VK→Prop:=fun x vs H Q=>∃ l xs y,x = .ref l∧vs=[y]∧H l=some (.lst xs)∧xs.length<sizeLine∧Q .non (upd H l (.lst (xs++[y])))
theorem T9:MtM X "list.append" NS:=by
 intro pins s σ H x vs v us Q I rx rv h
 obtain⟨l,xs,y,rfl,rfl,hH,hz,q⟩:=h
 cases rx
 obtain⟨u,rfl,ru⟩:=rv.one
 obtain⟨z,its,n,r,hl,e⟩:=I.lstM hH
 refine call_meets F.slot_list_append ⟨_,e,rfl⟩ F.entry_list_append (F.args_list_append_2 _ _) (PySem.list_append l its.toArray n u (by rw[List.size_toArray];omega)) ⟨e,?_⟩
 refine⟨.non,_,I.lset (its':=its++[u]) hH e (by simp) (r.append (.cons ru .nil)) ?_,rfl,q⟩
 rw[List.length_append,List.length_singleton]
 omega
def rCat:R2:=fun x y H Q=>∃ l b xs zs,x = .ref l∧y = .ref b∧H l=some (.lst xs)∧H b=some (.lst zs)∧xs.length+zs.length≤sizeLine∧∀ p,H p=none→Q (.ref p) (upd H p (.lst (xs++zs)))
theorem op_cat:OpR X (binaryOp .Add) rCat:=by
 intro pins s σ H x y v u Q I rx ry h
 obtain⟨l,b,xs,zs,rfl,rfl,hH,hB,hz,q⟩:=h
 cases rx
 cases ry
 obtain⟨z,its,n,r,hl,e⟩:=I.lstM hH
 obtain⟨z2,its2,n2,r2,hl2,e2⟩:=I.lstM hB
 refine PySem.P.add_list e e2 ?_ (by rw[List.size_toArray,List.size_toArray];omega)
 have ea:its.toArray++its2.toArray=(its++its2).toArray:=by simp
 rw[ea]
 exact⟨.ref _,_,I.lnew (t':=s.toks) (r.append r2) (by rw[List.length_append];omega),rfl,q _ I.fresh⟩
end
section
variable {prog:Program}{w:World}{A:Around}{E:Value→Shared→Prop}{s:Shared}
end
section
variable {X:Cx}
end
end L2
namespace Att
open PySem PySem.W PySem.Calls PyProof.Rows
theorem Be{P:Params}{h:Heap}:∀(ns:List Int) (vs:List Value),WellAll P h vs (ns.map WData.int)→IntsAre vs ns:=by
 intro ns
 induction ns with
 | nil =>
  intro vs w
  rw[List.map_nil]at w
  cases w
  exact .nil
 | cons n ns ih =>
  intro vs w
  rw[List.map_cons]at w
  cases w with
  | cons a b =>
   cases a
   exact .cons _ _ (ih _ b)
theorem Jv{l:OpenLaw}{n:Nat}(hn:l.most=some n){P:Params}{h:Heap}{args:List WData}{vals:List Value}
  (hpre:l.row.toRowW.claim.pre args=true) (hwl:WellAll P h vals args) :
  ∃ a vs ns,vals=[Value.ref a]∧args=[WData.list (ns.map WData.int)]∧h.get? a=some { cls := .type "list",data := .seq vs.toArray }∧IntsAre vs ns∧ns.length≤n:=by
 have hsh:WShape.hasAll [] args [.list .int]=true:=(pre_splitW hpre).1
 have hc:l.pre.holds [] { args:=args }=true:=(pre_splitW hpre).2
 obtain⟨d,r,rfl,h1,h2⟩:=hasAllW_cons hsh
 obtain rfl:=hasAllW_nil h2
 obtain⟨xs,rfl,h3⟩:=hasW_list h1
 obtain⟨ns,rfl⟩:=items_int h3
 have hlen:ns.length≤n:=by
  unfold OpenLaw.pre at hc
  have h4:(WTm.not (.lt (.lit (.int (n:Int))) (.len (.arg 0)))).holds [] { args:=[.list (ns.map .int)] }=true:=by
   have h4:=(holds_andW hc).1
   rw[hn]at h4
   exact h4
  have h5:=condW_of h4 (w_not (w_lt w_lit (w_len_list (w_arg rfl))))
  rw[List.length_map]at h5
  refine Nat.le_of_not_lt fun q=>?_
  have q':(n:Int)<((ns.length:Nat):Int):=by omega
  first
   | (rw[decide_eq_true q']at h5;exact absurd h5 (by decide))
   | (simp at h5;omega)
 cases hwl with
 | cons w1 w2 =>
  cases w2
  cases w1 with
  | list ho hall=>exact⟨_,_,ns,rfl,rfl,ho,Be ns _ hall,hlen⟩
theorem Jw(l:OpenLaw)(args:List WData):l.row.toRowW.claim.post args (.bool true) args=true :=
 postW_of (r:=l.row.toRowW) (X:=(true==true))
  (show WShape.has [] (.bool true) .bool=true by first|rfl|decide|simp[WShape.has,WShape.arms,WShape.armsAll])
  (show(WTm.eq .res (.lit (.bool true))).value [] { args:=args,res:=some (.bool true),after:=args }=some (.bool (true==true))from w_eq_bool (w_res rfl) w_lit) rfl
theorem attach_call{l:OpenLaw}{n:Nat}{q:Program}{loose:List Str}{XP:(Str→Option Value)→Heap→Prop}{YP:World→Heap→Prop}{d:DefRec}
  (hn:l.most=some n) (hdf:d.params.defaults=[])
  (call:∀(w:World) (s₀ s₁:Shared) (mg mb:Str→Option Value) (fa:Addr) (o:Obj) (pm cd doc:Value) (a:Addr) (vs:List Value) (ns:List Int),
   Ground q loose [] XP w s₀ mg mb s₁.heap→YP w s₁.heap →
   s₁.heap.get? fa=some o→o.data = .func (docDef d.name d.params d.body d.scope pm cd doc)→s₁.heap.CodeRec cd d.name→mg d.name=some (.ref fa) →
   s₁.heap.get? a=some { cls := .type "list",data := .seq vs.toArray }→IntsAre vs ns→ns.length≤n→s₁.gens=#[] →
   codeAny (model l.prog w) callerA (.call (.ref fa) ⟨[.ref a],[]⟩) (fun r s'=>r = .ok (.ret (.bool true))∧OldK s₁.heap s'.heap∧s'.os=s₁.os∧AllBare s'.gens) s₁) :
  WalkO q loose XP YP l.row.toRowW d [] (fun f vs=>PySem.call f vs):=by
 intro w s₀ s₁ mg mb G Y fa o pm cd doc dV kV ho hd hcd hD hmg hg args vals as hpre hlay hrd hwl hlo
 obtain rfl:dV = .none:=Dflts.none hD hdf
 obtain rfl:kV = .none:=Dflts.noKw hD
 obtain⟨a,vs,ns,rfl,rfl,hobj,hints,hlen⟩:=Jv hn hpre hwl
 refine enter_call (codeAny_mono (call w s₀ s₁ mg mb fa o pm cd doc a vs ns G Y ho (fd_plain hd) hcd hmg hobj hints hlen hg) fun r s' hq=>?_)
 obtain⟨rfl,h2,h3,h4⟩:=hq
 exact⟨.inl ⟨.bool true,.bool true,[],rfl,fun _=>rfl,.bool true,Jw l _,fun _=>⟨List.Pairwise.nil,fun _ hm=>(nomatch hm)⟩⟩,h2,h3,h4⟩
section
variable {prog:Program}{w:World}{A:Around}{E:Value→Shared→Prop}{s:Shared}{K:Frag}
end
end Att
namespace L2
open PySem PySem.Spec PyProof.Rows
theorem CP:∀{vs:List Value} {ns:List Int},IntsAre vs ns→Vals (ns.map V.int) vs
 | _,_,.nil => .nil
 | _,_,.cons n t h => .cons ⟨t,rfl⟩ (CP h)
def Only(H:Hp):Prop:=∀ b,H b=none∨∃ o xs,H b=some (.frz o (.lst xs))
theorem Kk{P:Program}{w:World}{K:PySem.W.Frag}{mg mb:Str→Option Value}{CX:CXT}{k:Nat}{fa a:Addr}{fd:FuncData}{x:Str}{sp:Sp}{s₁:Shared}{vs:List Value}{ns:List Int}
  (KX:K.In s₁.heap) (hns:s₁.heap.Ns mainGlobals mg) (hb:s₁.heap.Ns builtinsNs mb) (hbb:∀ x:Str,x ≠ "__name__" → mb x=bootBuiltins x) (hlim:s₁.heap.NoLimit) (hg:s₁.gens=#[])
  (ha:s₁.heap.get? a=some { cls := .type "list",data := .seq vs.toArray }) (hi:IntsAre vs ns) (hl:ns.length≤sizeLine) (hr:Room k callerA)
  (F:∀ base:Heap,K.In base→base.Ns mainGlobals mg→FnOk P w K mg base CX k fa fd [x] sp) (hbind:∀(s:Shared) (u:Value),BindsTo s fd ⟨[u],[]⟩ [(x,u)])
  (hsp:∀ H:Hp,Only H→SqL K H a (ns.map V.int)→sp [.ref a] H (fun v _=>v = .bl true) fun _ _ _=>False)
  (hCX:∀ H e s',CX [] H s₁ (fun _ _ _=>False) e s'→False) :
  codeAny (model P w) callerA (.call (.ref fa) ⟨[.ref a],[]⟩) (fun r s'=>r = .ok (.ret (.bool true))∧OldK s₁.heap s'.heap∧s'.os=s₁.os∧AllBare s'.gens) s₁:=by
 have rv:=CP hi
 have lenV:=hi.length
 have core:∀ H:Hp,Only H→SqL K H a (ns.map V.int)→HOk P w H s₁.heap→(∀ b,H b≠none→b=a)→(H a≠none→K.lookup a=none) →
    codeAny (model P w) callerA (.call (.ref fa) ⟨[.ref a],[]⟩) (fun r s'=>r = .ok (.ret (.bool true))∧OldK s₁.heap s'.heap∧s'.os=s₁.os∧AllBare s'.gens) s₁:=by
  intro H hO hS hok hA hK
  have base_of:∀{b:Addr} {o:Obj},s₁.heap.get? b=some o→H b=none→(hidT s₁.heap H).get? b=some o:=fun e n=>JT e n
  have noA:∀{b:Addr} {o:Obj} {es:Array DictEntry} {ep:Nat},s₁.heap.get? b=some o→o.data = .dict es ep→H b=none:=fun{b o es ep} e d=>by
    cases q:H b with
    | none=>rfl
    | some u =>
      have e':b=a:=hA b (by rw[q];simp)
      subst e'
      rw[ha]at e;cases e
      have d':Data.seq vs.toArray _=Data.dict es ep:=d
      cases d'
  have nsK:∀{b:Addr} {m:Str→Option Value},s₁.heap.Ns b m→(hidT s₁.heap H).Ns b m:=fun{b m} ⟨o,es,ep,e,d,r⟩=>⟨o,es,ep,base_of e (noA e d),d,r⟩
  have hKb:K.In (hidT s₁.heap H):=fun b o e=>base_of (KX b o e) (by
    cases q:H b with
    | none=>rfl
    | some u =>
      have e':b=a:=hA b (by rw[q];simp)
      subst e'
      rw[hK (by rw[q];simp)]at e;cases e)
  have hM:Mod K mg (hidT s₁.heap H):=⟨hKb,nsK hns,⟨mb,nsK hb,hbb⟩,let ⟨mc,h1,h2⟩:=hlim;⟨mc,nsK h1,h2⟩⟩
  have e0:Env0 P w K mg (hidT s₁.heap H) callerA [] s₁ H:=⟨rfl,hM,fun b o e=>NB e,Nat.le_of_eq (Jn _ _),trivial,fun b hb=>absurd (show b∈([]:List Addr)from hb) (by simp),hok,.of_eq hg⟩
  refine codeAny_mono ((F _ hKb (nsK hns)).run callerA [] s₁ H ⟨[.ref a],[]⟩ [.ref a] [.ref a] _ _ hr e0 (hbind s₁ (.ref a)) (.cons rfl .nil) (hsp H hO hS)) fun r s' h=>?_
  cases r with
  | error e=>exact(hCX H e s' h).elim
  | ok fl =>
    cases fl with
    | next=>exact False.elim h
    | brk=>exact False.elim h
    | cont=>exact False.elim h
    | ret u =>
      obtain⟨v,H',os,bare,un,hok',r',q⟩:=h
      have q':v = .bl true:=q
      subst q'
      obtain rfl:u=Value.bool true:=r'
      refine⟨rfl,OldK.of_keep fun b o e=>?_,os,bare⟩
      cases q:H b with
      | none=>exact un.keep b o e q (by intro z;exact absurd (show b∈([]:List Addr)from z) (by simp)) (by simp)
      | some u =>
       rcases hO b with z|⟨ob,xs,z⟩
       · rw[q]at z;cases z
       · have z2:=un.frzs b ob _ z
         obtain⟨e1,_⟩:=hok b _ z
         obtain⟨e2,_⟩:=hok' b _ z2
         rw[e]at e1;cases e1
         exact e2
 cases hk:K.lookup a with
 | some o =>
  have e:=KX a o hk
  rw[ha]at e
  cases e
  refine core (fun _=>none) (fun _ => .inl rfl) (.inr ⟨_,vs.toArray,_,hk,rfl,rfl,rfl,by rw[List.size_toArray,lenV];exact hl,by simpa using rv⟩) (fun b u z=>by have z':(none:Option HO)=some u:=z;cases z') (fun b z=>absurd rfl z) fun z=>absurd rfl z
 | none =>
  refine core (fun b=>if b=a then some (.frz { cls := .type "list",data := .seq vs.toArray } (.lst (ns.map V.int))) else none) (fun b=>?_) (.inl (.inr ⟨{ cls := .type "list",data := .seq vs.toArray },if_pos rfl⟩)) (fun b u z=>?_) (fun b z=>?_) fun _=>hk
  · by_cases hb:b=a
    · exact .inr ⟨_,_,if_pos hb⟩
    · exact .inl (if_neg hb)
  · by_cases hb:b=a
    · have z':=(if_pos hb).symm.trans z
      cases z'
      subst hb
      exact⟨ha,by rw[List.length_map];exact hl,vs,_,rv,ha⟩
    · have z':=(if_neg hb).symm.trans z
      cases z'
  · by_cases hb:b=a
    · exact hb
    · exact absurd (if_neg hb) z
end L2
namespace L2
open PySem PySem.Spec PyProof.Rows
theorem NT{l:PySem.W.OpenLaw}{n k:Nat}{q:Program}{loose:List Str}{XP:(Str→Option Value)→Heap→Prop}{YP:World→Heap→Prop}{d:DefRec}{K:Params→PySem.W.Frag}{CX:World→CXT}{sp:World→Sp}{x:Str}
  (hn:l.most=some n) (hn2:n≤sizeLine) (hdf:d.params.defaults=[]) (hr:Room k callerA)
  (hY:∀(w:World) (h:Heap),YP w h→(K w.params).In h)
  (F:∀(w:World) (mg:Str→Option Value) (fa:Addr) (h:Heap),(K w.params).In h→h.Ns mainGlobals mg→mg d.name=some (.ref fa) →
   ∃ fd:FuncData,(∀(s:Shared) (u:Value),BindsTo s fd ⟨[u],[]⟩ [(x,u)]) ∧
    ∀ base:Heap,(K w.params).In base→base.Ns mainGlobals mg→FnOk l.prog w (K w.params) mg base (CX w) k fa fd [x] (sp w))
  (hsp:∀(w:World) (H:Hp) (a:Addr) (ns:List Int),ns.length≤n→Only H→SqL (K w.params) H a (ns.map V.int)→sp w [.ref a] H (fun v _=>v = .bl true) fun _ _ _=>False)
  (hCX:∀(w:World) (H:Hp) (s:Shared) (e:Value) (s':Shared),CX w [] H s (fun _ _ _=>False) e s'→False) :
  PySem.W.WalkO q loose XP YP l.row.toRowW d [] (fun f vs=>PySem.call f vs):=by
 refine Att.attach_call hn hdf fun w s₀ s₁ mg mb fa o pm cd doc a vs ns G Y ho hd hcd hmg hobj hints hlen hg=>?_
 have KX:=hY w _ Y
 obtain⟨fd,hb,hF⟩:=F w mg fa _ KX G.T.g hmg
 exact Kk KX G.T.g G.T.b G.T.builtins G.T.nolimit hg hobj hints (Nat.le_trans hlen hn2) hr hF hb (fun H hO hS=>hsp w H a ns hlen hO hS) fun H e s'=>hCX w H s₁ e s'
end L2
namespace L2
open PySem PySem.Spec PyProof.Rows
def D5(s:Stmt):Arguments:=match s with
 | .FunctionDef _ a _ _ _ _ _ _ _ _=>a
 | _=>{ posonlyargs:=[],args:=[],vararg:=none,kwonlyargs:=[],kw_defaults:=[],kwarg:=none,defaults:=[] }
def v6(s:Stmt):List Stmt:=match s with
 | .FunctionDef _ _ b _ _ _ _ _ _ _=>b
 | _=>[]
def g6(s:Stmt):Scope:=match s with
 | .FunctionDef _ _ _ _ _ _ sc _ _ _=>sc
 | _=>{ kind := .function,names:=[],isGenerator:=false,isCoroutine:=false }
abbrev CX0:CXT:=fun _ _ _ _ _ _=>False
abbrev E0:XK:=fun _ _ _=>False
theorem pass0{X:Cx}:D9 CX0 X E0:=fun _ _ _ _ _ _ _ h=>h.elim
structure Fun(K:PySem.W.Frag)(x qual:Str)(st:Stmt)(f:Addr)(fd:FuncData):Prop where
 ex:∃(oc:Value) (od:Option Addr) (kV doc pm:Value) (an:Option Addr) (cdv ct:Value) (osl:Array (Option Value)),
  fd=PySem.W.fnOf x qual (D5 st) (v6 st) (g6 st) .none kV doc pm an cdv ct∧K.lookup f=some ⟨oc,od,.func fd,osl⟩∧PySem.W.codeIn K cdv qual=true
 kp:PySem.W.keepIn K (.ref f)=true
section
variable {P:Program}{w:World}{K:PySem.W.Frag}{mg:Str→Option Value}{base:Heap}
theorem Fun.ok{x qual:Str}{st:Stmt}{f:Addr}{fd:FuncData}{N ps:List Str}{k:Nat}{sp:Sp}(F:Fun K x qual st f fd)(S:FnScope N ps (g6 st))(len:∀ vs H Q E,sp vs H Q E→vs.length=ps.length)
  (hbody:∀(cdv:Value) (A:Around) (outer:List Env) (s:Shared) (H:Hp) (vs:List V) (Q:VK) (E:XK),Room k (A.deeper (envOfC qual (g6 st) s.heap.objs.size f cdv))→sp vs H Q E →
   ∃ t,PSs (cxOf CX0 P w K mg base N qual (g6 st) f cdv A outer s H E).nox (v6 st) t∧t { nx:=fun _ H'=>Q .non H',rt:=Q } (start N vs) H):FnOk P w K mg base CX0 (k+1) f fd ps sp:=by
 obtain⟨oc,od,kV,doc,pm,an,cdv,ct,osl,rfl,lk,hcd⟩:=F.ex
 refine fn_of lk hcd S len fun A outer s H vs Q E hr hsp=>?_
 obtain⟨t,h,q⟩:=hbody cdv A outer s H vs Q E hr hsp
 exact⟨t,h.nox,q⟩
theorem Fun.binds{x qual:Str}{st:Stmt}{f:Addr}{fd:FuncData}{ps:List Str}(F:Fun K x qual st f fd)
  (h:∀(kV doc pm:Value) (an:Option Addr) (cdv ct:Value) (us:List Value),us.length=ps.length→bindArgs (PySem.W.fnOf x qual (D5 st) (v6 st) (g6 st) .none kV doc pm an cdv ct) ⟨us,[]⟩=pure (ps.zip us)):Binds K fd ps []:=by
 obtain⟨oc,od,kV,doc,pm,an,cdv,ct,osl,rfl,lk,hcd⟩:=F.ex
 exact .all (h kV doc pm an cdv ct)
theorem Kl{x qual:Str}{st:Stmt}{f:Addr}{oc:Value}{od an:Option Addr}{osl:Array (Option Value)}{kV doc pm cdv ct:Value}(l:K.lookup f=some ⟨oc,od,.func (PySem.W.fnOf x qual (D5 st) (v6 st) (g6 st) .none kV doc pm an cdv ct),osl⟩)
 (c:PySem.W.codeIn K cdv qual=true) (k:PySem.W.keepIn K (.ref f)=true):Fun K x qual st f (PySem.W.fnOf x qual (D5 st) (v6 st) (g6 st) .none kV doc pm an cdv ct):=⟨⟨oc,od,kV,doc,pm,an,cdv,ct,osl,rfl,l,c⟩,k⟩
end
section
variable {X:Cx}
end
def Same(H H':Hp):Prop:=∀ b o,H b=some o→H' b=some o
theorem Same.refl(H:Hp):Same H H:=fun _ _ h=>h
theorem Same.trans{H H1 H2:Hp}(a:Same H H1)(b:Same H1 H2):Same H H2:=fun c o h=>b c o (a c o h)
theorem Same.free{H H':Hp}(e:Same H H'){l:Addr}(h:H' l=Option.none):H l=Option.none:=by
 cases q:H l with
 | none=>rfl
 | some o =>
  rw[e l o q]at h
  cases h
theorem Same.seq{K:PySem.W.Frag}{H H':Hp}{a:Addr}{xs:List V}(e:Same H H')(h:SqL K H a xs):SqL K H' a xs:=by
 rcases h with(h|⟨o,h⟩)|h
 · exact .inl (.inl (e _ _ h))
 · exact .inl (.inr ⟨o,e _ _ h⟩)
 · exact .inr h
end L2

end
section
set_option Elab.async false
set_option linter.all false
set_option maxRecDepth 100000
namespace L2
open PySem PySem.Spec PyProof.Rows
theorem Km{x:Str}{lo:Nat}:∀(names:List (Str×NameKind)) (n:Nat) (acc:List (Str×Addr)) (c:Addr),lo≤n→(∀ c,acc.lookup x=some c→lo≤c)→(cellsFrom n names acc).lookup x=some c→lo≤c
 | [],_,_,_,_,h,e=>h _ e
 | (y,k)::r,n,acc,c,hn,h,e=>by
  unfold cellsFrom at e
  split at e
  · refine Km r (n+1) _ c (Nat.le_succ_of_le hn) (fun c' e'=>?_) e
    rw[List.lookup_cons]at e'
    split at e'
    · cases e';exact hn
    · exact h c' e'
  · exact Km r n acc c hn h e
theorem Gg{x:Str}:∀(names:List (Str×NameKind)) (n:Nat) (acc:List (Str×Addr)) (c:Addr),names.lookup x=some .cell→(cellsFrom n names acc).lookup x=some c→n≤c
 | [],_,_,_,h,_=>by cases h
 | (y,k)::r,n,acc,c,h,e=>by
  rw[List.lookup_cons]at h
  unfold cellsFrom at e
  cases hb:x==y with
  | true =>
   rw[hb]at h
   have hk:k = .cell:=by cases h;rfl
   subst hk
   rw[if_pos (show(NameKind.cell==NameKind.cell)=true from rfl)]at e
   refine Km r (n+1) _ c (Nat.le_succ _) (fun c' e'=>?_) e
   rw[List.lookup_cons,hb]at e'
   cases e'
   exact Nat.le_refl _
  | false =>
   rw[hb]at h
   split at e
   · exact Nat.le_of_succ_le (Gg r (n+1) _ c h e)
   · exact Gg r n acc c h e
theorem Gh{x:Str}:∀(names:List (Str×NameKind)) (n:Nat) (acc:List (Str×Addr)),(∀ y∈names,y.1=x→y.2 ≠ .cell)→(cellsFrom n names acc).lookup x=acc.lookup x
 | [],_,_,_=>rfl
 | (y,k)::r,n,acc,h=>by
  unfold cellsFrom
  have hr:∀ y∈r,y.1=x→y.2 ≠ .cell:=fun z hz=>h z (List.mem_cons_of_mem _ hz)
  split
  · rename_i hk
    rw[Gh r (n+1) _ hr,List.lookup_cons]
    have hne:(x==y)=false:=by
     cases hb:x==y with
     | false=>rfl
     | true=>exact absurd (beq_iff_eq.mp hk) (h (y,k) List.mem_cons_self (beq_iff_eq.mp hb).symm)
    rw[hne]
  · exact Gh r n acc hr
theorem Gi:∀(names:List (Str×NameKind)) (n:Nat) (acc:List (Str×Addr)) (p:Str×Addr),p∈cellsFrom n names acc→n≤p.2∨p∈acc
 | [],_,_,_,e => .inr e
 | (y,k)::r,n,acc,p,e=>by
  unfold cellsFrom at e
  split at e
  · rcases Gi r (n+1) _ p e with q|q
    · exact .inl (Nat.le_of_succ_le q)
    · rcases List.mem_cons.mp q with q|q
      · subst q;exact .inl (Nat.le_refl _)
      · exact .inr q
  · exact Gi r n acc p e
theorem Bt:∀(names:List (Str×NameKind)) (n:Nat) (acc:List (Str×Addr)),(∀ p∈acc,p.2<n)→(acc.Pairwise fun x y=>x.2≠y.2)→(cellsFrom n names acc).Pairwise fun x y=>x.2≠y.2
 | [],_,_,_,h=>h
 | (y,k)::r,n,acc,hl,h=>by
  unfold cellsFrom
  split
  · refine Bt r (n+1) _ (fun p hp=>?_) (List.pairwise_cons.mpr ⟨fun p hp e=>?_,h⟩)
    · rcases List.mem_cons.mp hp with q|q
      · subst q;exact Nat.lt_succ_self _
      · exact Nat.lt_succ_of_lt (hl p q)
    · have e':n=p.2:=e
      have q:=hl p hp
      rw[←e']at q
      exact absurd q (Nat.lt_irrefl _)
  · exact Bt r n acc hl h
theorem Bu:∀(names:List (Str×NameKind)) (n:Nat) (acc:List (Str×Addr)),cellsFrom n names acc=cellsFrom n names []++acc
 | [],_,_=>rfl
 | (y,k)::r,n,acc=>by
  unfold cellsFrom
  split
  · rw[Bu r (n+1) ((y,n)::acc),Bu r (n+1) [(y,n)],List.append_assoc]
    rfl
  · exact Bu r n acc
def o0(env:Env):List (Str×NameKind)→List (Str×Addr)→List (Str×Addr)
 | [],acc=>acc
 | (y,k)::r,acc=>if k == .free then o0 env r (match env.cells.lookup y with|some c=>(y,c)::acc|none=>acc) else o0 env r acc
theorem K8{env:Env}{x:Str}:∀(names:List (Str×NameKind)) (acc:List (Str×Addr)),(∀ c,acc.lookup x=some c→env.cells.lookup x=some c)→∀ c,(o0 env names acc).lookup x=some c→env.cells.lookup x=some c
 | [],_,h=>h
 | (y,k)::r,acc,h=>by
  unfold o0
  split
  · refine K8 r _ fun c e=>?_
    cases hy:env.cells.lookup y with
    | none=>rw[hy]at e;exact h c e
    | some d =>
     rw[hy]at e
     dsimp only at e
     rw[List.lookup_cons]at e
     split at e
     · rename_i hb
       cases e
       rw[beq_iff_eq.mp hb];exact hy
     · exact h c e
  · exact K8 r acc h
theorem W4{env:Env}:∀(names:List (Str×NameKind)) (acc:List (Str×Addr)) (p:Str×Addr),p∈o0 env names acc→p∈acc∨env.cells.lookup p.1=some p.2
 | [],_,_,h => .inl h
 | (y,k)::r,acc,p,h=>by
  unfold o0 at h
  split at h
  · rcases W4 r _ p h with q|q
    · cases hy:env.cells.lookup y with
      | none=>rw[hy]at q;exact .inl q
      | some d =>
       rw[hy]at q
       rcases List.mem_cons.mp q with q|q
       · subst q;exact .inr hy
       · exact .inl q
    · exact .inr q
  · exact W4 r acc p h
theorem N4{env:Env}{x:Str}:∀(names:List (Str×NameKind)) (acc:List (Str×Addr)),(acc.lookup x).isSome=true→((o0 env names acc).lookup x).isSome=true
 | [],_,h=>h
 | (y,k)::r,acc,h=>by
  unfold o0
  split
  · refine N4 r _ ?_
    cases hy:env.cells.lookup y with
    | none=>exact h
    | some d =>
     show(List.lookup x ((y,d)::acc)).isSome=true
     rw[List.lookup_cons]
     split
     · rfl
     · exact h
  · exact N4 r acc h
theorem W5{env:Env}{x:Str}{c:Addr}:∀(names:List (Str×NameKind)) (acc:List (Str×Addr)),names.lookup x=some .free→env.cells.lookup x=some c→((o0 env names acc).lookup x).isSome=true
 | [],_,h,_=>by cases h
 | (y,k)::r,acc,h,hc=>by
  rw[List.lookup_cons]at h
  unfold o0
  cases hb:x==y with
  | true =>
   rw[hb]at h
   have hk:k = .free:=by cases h;rfl
   subst hk
   rw[if_pos (show(NameKind.free==NameKind.free)=true from rfl)]
   refine N4 r _ ?_
   have hxy:x=y:=beq_iff_eq.mp hb
   subst hxy
   rw[hc]
   show(List.lookup x ((x,c)::acc)).isSome=true
   rw[List.lookup_cons,hb];rfl
  | false =>
   rw[hb]at h
   split
   · exact W5 r _ h hc
   · exact W5 r _ h hc
theorem W6{env:Env}:∀(names:List (Str×NameKind)) (acc:List (Str×Addr)) (f:Str×NameKind→List (Str×Addr)→Sem (ForInStep (List (Str×Addr)))),
  (∀ name kind cs,f (name,kind) cs=if kind == .free then(do let a ←cellOf env name;pure (.yield ((name,a)::cs))) else pure (.yield cs)) →
  (∀ y∈names,y.2 = .free→∃ c,env.cells.lookup y.1=some c)→forIn names acc f=(pure (o0 env names acc):Sem _)
 | [],acc,f,hf,h=>by rw[List.forIn_nil];rfl
 | (y,k)::r,acc,f,hf,h=>by
  have hr:∀ z∈r,z.2 = .free→∃ c,env.cells.lookup z.1=some c:=fun z hz=>h z (List.mem_cons_of_mem _ hz)
  rw[List.forIn_cons,hf]
  unfold o0
  by_cases hk:(k==NameKind.free)=true
  · rw[if_pos hk,if_pos hk]
    obtain⟨c,hc⟩:=h (y,k) List.mem_cons_self (beq_iff_eq.mp hk)
    have hc':env.cells.lookup y=some c:=hc
    have e:cellOf env y=(pure c:Sem Addr):=by unfold cellOf;rw[hc']
    rw[e,hc']
    simp only[pure_bind]
    exact W6 r _ f hf hr
  · rw[if_neg hk,if_neg hk]
    simp only[pure_bind]
    exact W6 r _ f hf hr
theorem Gj{scope:Scope}{env:Env}(h:∀ y∈scope.names,y.2 = .free→∃ c,env.cells.lookup y.1=some c):closureFor scope env=pure (o0 env scope.names []):=by
 unfold closureFor
 simp only[]
 rw[W6 scope.names [] _ (fun name kind cs=>by cases hk:kind==NameKind.free<;>simp[hk]) h]
 rfl
end L2

end
section
set_option linter.all false
namespace L2
open PySem
section
variable {prog:Program}{w:World}{A:Around}{R:Result→Shared→Prop}{s:Shared}
theorem N5{elt target iter:Expr}{ifs:List Expr}{scope:Scope}{pos:Pos}{it acc:Value}{env:Env}(I:Nat→Shared→Prop)
  (turn:∀ n s,I n s→wpAny (model prog w) A (pyNext it) (fun r s₁=>match r with
   | none=>R (.ok .next) s₁
   | some v=>wpAny (model prog w) A (letOwnedTupleGo target it v) (fun _ s₁'=>wpAny (model prog w) A (assign target env v) (fun _ s₂ =>
    wpAny (model prog w) A (forIn ifs true fun c r=>if r=true then do let ok ←isTrue c env (eval c env);pure (ForInStep.yield ok) else pure (ForInStep.yield r)) (fun ok s₃ =>
     if ok=true then wpAny (model prog w) A (eval elt env) (fun x s₄ =>
      wpAny (model prog w) A (call (.builtin "list.append") [acc,x]) (fun _ s₅=>∃ m,m<n∧I m s₅) (notedBy (model prog w) A env fun e s'=>R (.error e) s') s₄) (notedBy (model prog w) A env fun e s'=>R (.error e) s') s₃
     else ∃ m,m<n∧I m s₃) (notedBy (model prog w) A env fun e s'=>R (.error e) s') s₂) (notedBy (model prog w) A env fun e s'=>R (.error e) s') s₁')
    (notedBy (model prog w) A env fun e s'=>R (.error e) s') s₁) (notedBy (model prog w) A env fun e s'=>R (.error e) s') s)
  (n:Nat) (h:I n s) :
  codeAny (model prog w) A (.compLoop (.ListComp elt [⟨target,iter,ifs,0⟩] scope pos) 0 it acc env) R s:=by
 refine codeAny_loop rfl I (fun n s hI=>?_) n h
 show wpAny _ A ((compTurn (.ListComp elt [⟨target,iter,ifs,0⟩] scope pos) 0 it acc env).onRaise (fun x=>do noteFrame x env;theTreesLotGoes x)) _ _ s
 refine wpAny_noted ?_
 rw[compTurn_list]
 refine wpAny_bind (wpAny_standAt (wpAny_bind (wpAny_mono (turn n s hI) (fun r s₁ h₁=>?_) fun _ _ h'=>h')))
 cases r with
 | none=>exact wpAny_pure h₁
 | some v =>
  refine wpAny_bind (wpAny_mono h₁ (fun _ s₁' h₁'=>?_) fun _ _ h'=>h')
  refine wpAny_bind (wpAny_mono h₁' (fun _ s₂ h₂=>wpAny_bind (wpAny_mono h₂ (fun ok s₃ h₃=>?_) fun _ _ h'=>h')) fun _ _ h'=>h')
  cases ok with
  | false=>exact wpAny_pure ⟨rfl,h₃⟩
  | true =>
   exact wpAny_bind (wpAny_bind (wpAny_mono h₃ (fun x s₄ h₄=>wpAny_bind (wpAny_mono h₄ (fun _ s₅ h₅=>wpAny_pure (wpAny_pure ⟨rfl,h₅⟩)) fun _ _ h'=>h')) fun _ _ h'=>h'))
theorem Bv{M:Model}{E:Value→Shared→Prop}{scope:Scope}{globals:Addr}{cl:List (Str×Addr)}{qual:Str}{func:Option Addr}{code:Value}{env:Env}{Q:Env→Shared→Prop}
  (hQ:∀ h',h'.Ns s.heap.objs.size (fun _=>none)→(∀ b o,s.heap.get? b=some o→h'.get? b=some o)→(∀ n c,(n,c)∈cellsFrom (s.heap.objs.size+1) scope.names []→h'.IsCell c none) →
   Q (newEnv scope s.heap.objs.size globals (cellsFrom (s.heap.objs.size+1) scope.names cl) qual func code (some env) builtinsNs) { s with heap:=h' }) :
  wpAny M A (newFunctionEnv scope globals cl [] qual func code (some env)) Q E s:=by
 simp only[newFunctionEnv,Option.isSome_some,if_true]
 refine wpAny_bind (wpAny_alloc ?_)
 refine wpAny_bind (wpAny_layCells _ (fun name kind cells=>by cases hkc:kind==NameKind.cell<;>simp[hkc]) _ _ _ _ ?_)
 have ok:=cellsFrom_ok scope.names (s.heap.push { cls := .type "dict",data := .dict #[] }) (s.heap.objs.size+1) [] ⟨fun _ _ hm=>(nomatch hm),List.Pairwise.nil⟩ (by rw[Heap.size_push];exact Nat.le_refl _)
 rw[Heap.size_push]at ok
 rw[show({ s with heap:=s.heap.push { cls := .type "dict",data := .dict #[] } }:Shared).heap.objs.size=s.heap.objs.size+1 from Heap.size_push ..]
 refine wpAny_bind ?_
 rw[List.forIn_nil]
 refine wpAny_pure (wpAny_pure ?_)
 exact hQ _ ((Heap.Ns.new s.heap (.type "dict")).keeps (pushCells_keeps _ _)) (fun b o e=>pushCells_keeps _ _ b o (Heap.get?_push_of_some _ e)) fun n c hm=>(ok.empty n c hm).1
end
end L2

end
section
set_option Elab.async false
set_option linter.all false
set_option maxRecDepth 100000
namespace L2
open PySem PySem.Spec PyProof.Rows
def o3(X:Cx)(N:List Str)(scope:Scope)(cl:List (Str×Addr))(C:Addr)(fp:List Addr)(s:Shared)(H:Hp):Cx where
 prog:=X.prog
 w:=X.w
 K:=X.K
 mg:=X.mg
 base:=X.base
 A:=X.A
 N:=N
 s₀:=s
 H₀:=H
 env:=compEnvC scope cl C X.env
 outer:=X.stack
 stack:=X.stack
 ex:=fp
 fn:=fun x=>scope.names.lookup x==some .cell
 calm:=X.calm
 pn:=[]
 xe:=fun _ _=>False
structure CompScope(X:Cx)(N:List Str)(scope:Scope)(nt:Nat)(js:List Nat):Prop where
 kind:scope.kind = .function
 nd:(scope.names.map (·.1)).Nodup
 loc:∀ x∈scope.names,x.2 = .local→scope.names.lookup x.1=some .local
 len:N.length=nt+js.length
 names:∀ k j,js[k]?=some j→∃ x,N[nt+k]?=some x∧X.N[j]?=some x∧scope.names.lookup x=some .free
 fre:∀ x∈scope.names,x.2 = .free→X.env.kindOf x.1=some .cell∨X.env.kindOf x.1=some .free
def sig(nt:Nat)(js:List Nat)(σ:St):St:=List.replicate nt none++js.map fun j=>(σ[j]?).join
def PTs(X:Cx)(ifs:List Expr)(t:TT):Prop :=
 ∀(pins:List (Addr×Obj)) (s:Shared) (σ:St) (H:Hp) (Q:Bool→Hp→Prop),Inv X pins σ H s→t σ H Q →
  wpAny (model X.prog X.w) X.A (forIn ifs true fun c r=>if r=true then do let ok ←isTrue c X.env (eval c X.env);pure (ForInStep.yield ok) else pure (ForInStep.yield r)) (TP X pins σ Q) X.xe s
def tYes:TT:=fun _ H Q=>Q true H
theorem NU{X:Cx}:PTs X [] tYes:=fun pins s σ H Q I h=>wpAny_tests_nil ⟨H,I,h⟩
theorem nlt{a b:Nat}(h1:a+1≤b)(h2:b<a):False:=by omega
theorem E3{α:Type}:∀{l:List (Str×α)} {p:Str×α},(l.map (·.1)).Nodup→p∈l→l.lookup p.1=some p.2
 | [],_,_,h=>by cases h
 | (y,k)::r,p,nd,h=>by
  have nd:(y::r.map (·.1)).Nodup:=nd
  obtain⟨n1,n2⟩:=List.nodup_cons.mp nd
  rw[List.lookup_cons]
  rcases List.mem_cons.mp h with e|e
  · subst e
    show(match y==y with|true=>some k|false=>_)=some k
    rw[beq_self_eq_true]
  · cases hb:p.1==y with
    | true =>
     rw[←beq_iff_eq.mp hb]at n1
     exact absurd (List.mem_map.mpr ⟨p,e,rfl⟩) n1
    | false=>exact E3 n2 e
theorem Q1{env:Env}{x:Str}:∀{names:List (Str×NameKind)} {k:NameKind},names.lookup x=some k →
  (names.map fun(n,k)=>if(k==NameKind.free&&env.scope.kind == .function&&env.kindOf n==some .cell) then(n,NameKind.cell) else(n,k)).lookup x=some (if(k==NameKind.free&&env.scope.kind == .function&&env.kindOf x==some .cell)=true then .cell else k)
 | [],_,h=>by cases h
 | (y,k')::r,k,h=>by
  rw[List.lookup_cons]at h
  show List.lookup x ((if(k'==NameKind.free&&env.scope.kind == .function&&env.kindOf y==some .cell)=true then(y,NameKind.cell) else(y,k'))::_)=_
  cases hb:x==y with
  | true =>
   rw[hb]at h
   have hk:k'=k:=by cases h;rfl
   have hxy:x=y:=beq_iff_eq.mp hb
   subst hk;subst hxy
   split<;>(rw[List.lookup_cons];rw[hb])
  | false =>
   rw[hb]at h
   have ih:=@Q1 env x r k h
   split<;>(rw[List.lookup_cons];rw[hb];exact ih)
theorem N6{env:Env}{x:Str}{k:NameKind}:∀{names:List (Str×NameKind)},
  (names.map fun(n,k)=>if(k==NameKind.free&&env.scope.kind == .function&&env.kindOf n==some .cell) then(n,NameKind.cell) else(n,k)).lookup x=some k→∃ k',names.lookup x=some k'∧(k=k'∨(k' = .free∧k = .cell))
 | [],h=>by cases h
 | (y,k')::r,h=>by
  have h:List.lookup x ((if(k'==NameKind.free&&env.scope.kind == .function&&env.kindOf y==some .cell)=true then(y,NameKind.cell) else(y,k'))::r.map fun(n,k)=>if(k==NameKind.free&&env.scope.kind == .function&&env.kindOf n==some .cell) then(n,NameKind.cell) else(n,k))=some k:=h
  rw[List.lookup_cons]
  cases hb:x==y with
  | true =>
   split at h
   · rename_i hc
     rw[List.lookup_cons,hb]at h
     have hf:(k'==NameKind.free)=true:=by
      rw[Bool.and_eq_true,Bool.and_eq_true]at hc
      exact hc.1.1
     cases h
     exact⟨k',rfl,.inr ⟨beq_iff_eq.mp hf,rfl⟩⟩
   · rw[List.lookup_cons,hb]at h
     cases h
     exact⟨k,rfl,.inl rfl⟩
  | false =>
   split at h
   all_goals
     rw[List.lookup_cons,hb]at h
     exact N6 h
section
variable {X:Cx}{N:List Str}{scope:Scope}{nt:Nat}{js:List Nat}{pins:List (Addr×Obj)}{σ:St}{H:Hp}{s:Shared}{fp:List Addr}
theorem Bw{s2:Shared}{H2:Hp}(S:CompScope X N scope nt js)(I2:Inv X pins σ H2 s2)(I:Inv X pins σ H s)(hu:Un (frs X.stack) fp H2 H s2.heap s.heap)(hos:s.os=s2.os)(hz:s2.heap.objs.size≤s.heap.objs.size)
   (hf:∀ b∈fp,FpOk X pins H b) (ho:∀ b∈fp,∃ o,s.heap.get? b=some o) {h':Heap}
   (ns:h'.Ns s.heap.objs.size (fun _=>none)) (k:∀ b o,s.heap.get? b=some o→h'.get? b=some o) (nc:∀ n c,(n,c)∈cellsFrom (s.heap.objs.size+1) scope.names []→h'.IsCell c none) :
   Inv (o3 X N scope (cellsFrom (s.heap.objs.size+1) scope.names (o0 X.env scope.names [])) s.heap.objs.size fp s2 H2) [] (sig nt js σ) H { s with heap:=h' }:=by
 have ok:=I.ok
 have hcl:∀ p∈o0 X.env scope.names [],X.env.cells.lookup p.1=some p.2:=fun p hp=>(W4 _ _ p hp).resolve_left (by simp)
 have hlt:∀ x c,X.env.cells.lookup x=some c→c<s.heap.objs.size:=fun x c e=>by
   obtain⟨v,o,ho,_⟩:=I.cell x c e
   exact Heap.lt_size ho
 have mem:∀ x c,(cellsFrom (s.heap.objs.size+1) scope.names (o0 X.env scope.names [])).lookup x=some c→s.heap.objs.size+1≤c∨X.env.cells.lookup x=some c:=fun x c e=>by
   rcases Gi _ _ _ _ (PySem.mem_of_lookup e)with q|q
   · exact .inl q
   · exact .inr (hcl _ q)
 have frec:∀ x,scope.names.lookup x=some .free→∃ c,X.env.cells.lookup x=some c∧(cellsFrom (s.heap.objs.size+1) scope.names (o0 X.env scope.names [])).lookup x=some c:=fun x hx=>by
   obtain⟨c,hc⟩:=ok.has x (S.fre (x,.free) (PySem.mem_of_lookup hx) rfl)
   refine⟨c,hc,?_⟩
   rw[Gh _ _ _ fun y hy e=>?_]
   · obtain⟨d,hd⟩:=Option.isSome_iff_exists.mp (W5 (env:=X.env) scope.names [] hx hc)
     have:=K8 (env:=X.env) (x:=x) scope.names [] (fun c e=>by simp at e) d hd
     rw[hc]at this
     cases this
     exact hd
   · have q:=E3 S.nd hy
     rw[e,hx]at q
     intro z
     rw[z]at q
     cases q
 refine⟨⟨ok.mod,S.kind,ok.glob,ok.blt,hz,fun x y c hx hy=>?_,fun x hx=>?_,fun x c hx e=>?_,ok.hd,ok.frames,.inl rfl,fun b hb=>⟨?_,fun x c e=>?_⟩,fun b o e=>?_,?_,fun b o e hb=>?_,fun b hb=>?_,I2.stack,I2.stkFree⟩,
   hos,I.bare,hu.trans (Un.kept k),⟨_,ns,fun i x v h1 h2 h3=>?_⟩,fun x c e=>?_,?_,fun x c e=>?_,fun p hp=>absurd (show p∈([]:List (Addr×Obj))from hp) (by simp),I.hok.kept k,?_⟩
 ·
   rcases mem x c hx with q|q
   · rcases mem y c hy with q'|q'
     · have in1:∀ z:Str,(z,c)∈cellsFrom (s.heap.objs.size+1) scope.names (o0 X.env scope.names [])→(z,c)∈cellsFrom (s.heap.objs.size+1) scope.names []:=fun z hz=>by
         rw[Bu]at hz
         rcases List.mem_append.mp hz with hz|hz
         · exact hz
         · exact(nlt q (hlt _ _ (hcl _ hz))).elim
       exact name_of_addr (Bt scope.names (s.heap.objs.size+1) [] (fun p hp=>by simp at hp) List.Pairwise.nil) (in1 x (PySem.mem_of_lookup hx)) (in1 y (PySem.mem_of_lookup hy))
     · exact(nlt q (hlt _ _ q')).elim
   · rcases mem y c hy with q'|q'
     · exact(nlt q' (hlt _ _ q)).elim
     · exact ok.inj x y c q q'
 ·
   have hx:(relabel scope X.env).names.lookup x=some .cell∨(relabel scope X.env).names.lookup x=some .free:=hx
   have cs:scope.names.lookup x=some .cell∨scope.names.lookup x=some .free:=by
     rcases hx with q|q
     · obtain⟨k',e1,e2⟩:=N6 q
       rcases e2 with e2|⟨e2,_⟩
       · rw[←e2]at e1;exact .inl e1
       · rw[e2]at e1;exact .inr e1
     · obtain⟨k',e1,e2⟩:=N6 q
       rcases e2 with e2|⟨_,e2⟩
       · rw[←e2]at e1;exact .inr e1
       · cases e2
   rcases cs with q|q
   · exact Option.isSome_iff_exists.mp (PySem.W.cellsFrom_some scope.names _ _ (.inl q))
   · obtain⟨c,_,e⟩:=frec x q
     exact⟨c,e⟩
 ·
   have hx:(scope.names.lookup x==some .cell)=true:=hx
   exact Nat.le_trans hz (Nat.le_of_succ_le (Gg scope.names _ _ c (beq_iff_eq.mp hx) e))
 ·
   intro e
   obtain⟨o,hb'⟩:=ho b hb
   exact absurd (Heap.lt_size hb') (by rw[e];exact Nat.lt_irrefl _)
 · rcases mem x c e with q|q
   · intro z
     obtain⟨o,hb'⟩:=ho b hb
     have:=Heap.lt_size hb'
     rw[←z]at this
     exact nlt q this
   · exact(hf b hb).2.2.2.2.1 x c q
 · exact I2.bs b o e
 · exact Nat.le_trans ok.bsz I2.sz
 ·
   rcases(hf b hb).2.2.2.1 with q|q
   · exact ok.noex b o e q
   · exact absurd (Nat.lt_of_lt_of_le (Heap.lt_size e) (Nat.le_trans ok.bsz q)) (Nat.lt_irrefl _)
 ·
   intro z
   rcases List.mem_cons.mp (I.stkSub b z)with q|q
   · exact(hf b hb).2.1 q
   · exact(hf b hb).2.2.1 q
 ·
   have hi:nt≤i:=by
     by_cases hi:i<nt
     · unfold sig at h2
       rw[List.getElem?_append_left (by simpa using hi),List.getElem?_replicate]at h2
       split at h2<;>cases h2
     · omega
   unfold sig at h2
   rw[List.getElem?_append_right (by simpa using hi),List.length_replicate,List.getElem?_map]at h2
   cases ej:js[i-nt]? with
   | none=>rw[ej]at h2;cases h2
   | some j =>
     rw[ej]at h2
     have h2:(σ[j]?).join=some v:=Option.some.inj h2
     obtain⟨y,n1,n2,n3⟩:=S.names _ _ ej
     have hxy:x=y:=by
       have e:nt+(i-nt)=i:=by omega
       rw[e]at n1
       have h1:N[i]?=some x:=h1
       rw[h1]at n1
       exact Option.some.inj n1
     subst hxy
     have h2':σ[j]?=some (some v):=by
       cases eσ:σ[j]? with
       | none=>rw[eσ]at h2;cases h2
       | some a =>
         rw[eσ]at h2
         have h2:a=some v:=h2
         rw[h2]
     obtain⟨m,hn,hl⟩:=I.loc
     have kd:=S.fre (x,.free) (PySem.mem_of_lookup n3) rfl
     obtain⟨u,ru,lk⟩:=hl j x v n2 h2' (.inr kd)
     refine⟨u,ru,?_⟩
     obtain⟨c,c1,c2⟩:=frec x n3
     rcases lk with⟨z,_⟩|⟨_,d,d1,d2⟩
     · have kd':X.env.kindOf x=some .cell∨X.env.kindOf x=some .free:=kd
       rw[z]at kd'
       rcases kd' with q|q<;>cases q
     · rw[c1]at d1
       cases d1
       refine .inr ⟨?_,c,c2,d2.keeps k⟩
       have:=Q1 (env:=X.env) n3
       show(relabel scope X.env).names.lookup x=some .cell∨(relabel scope X.env).names.lookup x=some .free
       unfold relabel
       dsimp only
       rw[this]
       split
       · exact .inl rfl
       · exact .inr rfl
 ·
   have e:(cellsFrom (s.heap.objs.size+1) scope.names (o0 X.env scope.names [])).lookup x=some c:=e
   have hm:=PySem.mem_of_lookup e
   rw[Bu]at hm
   rcases List.mem_append.mp hm with q|q
   · exact⟨none,nc x c q⟩
   · obtain⟨v,hv⟩:=I.cell x c (hcl _ q)
     exact⟨v,hv.keeps k⟩
 · exact I.hok.fresh (Nat.le_refl _)
 · rcases mem x c e with q|q
   · exact I.hok.fresh (Nat.le_of_succ_le q)
   · exact I.freeC x c q
 · show(sig nt js σ).length=N.length
   unfold sig
   rw[List.length_append,List.length_replicate,List.length_map,S.len]
end
end L2

end
section
set_option Elab.async false
set_option linter.all false
set_option maxRecDepth 100000
namespace L2
open PySem PySem.Spec PyProof.Rows
def Iz(nt:Nat)(js:List Nat)(wi:TI)(g:TG)(tc:Hp→TT)(te:Hp→TE):TE:=fun σ H Q=>wi σ H fun J H1=>∀ D,H1 D=none →
 ∃ W:Nat→Nat→List V→Hp→Prop,(∃ m,W 0 m [] (upd H1 D (.lst [])))∧∀ i m ys H,W i m ys H →
  (J.stop i H∧Q (.ref D) H)∨(J.go i H∧∀ x H',J.yld i H x H'→g x (sig nt js σ) H' fun σ2 H2=>tc H1 σ2 H2 fun b H3 =>
   if b=true then te H1 σ2 H3 fun v H4=>H4 D=some (.lst ys)∧ys.length<sizeLine∧∃ m',m'<m∧W (i+1) m' (ys++[v]) (upd H4 D (.lst (ys++[v])))
   else ∃ m',m'<m∧W (i+1) m' ys H3)
section
variable {X:Cx}{N:List Str}{scope:Scope}{nt:Nat}{js:List Nat}{tg elt iter:Expr}{ifs:List Expr}{wi:TI}{g:TG}{tc:Hp→TT}{te:Hp→TE}{pos:Pos}
theorem Bx{σ σ2:St}(hl:σ2.length=(sig nt js σ).length)(h:∀ i,nt≤i→σ2[i]?=(sig nt js σ)[i]?):∀(i:Nat) v,(sig nt js σ)[i]?=some (some v)→σ2[i]?=some (some v):=fun i v e=>by
 by_cases hi:nt≤i
 · rw[h i hi];exact e
 · unfold sig at e
   rw[List.getElem?_append_left (by rw[List.length_replicate];omega),List.getElem?_replicate]at e
   split at e<;>cases e
def TgOk(nt:Nat)(g:TG):Prop:=∀ x σ H (Q:St→Hp→Prop),g x σ H Q→g x σ H fun σ2 H2=>(σ2.length=σ.length∧∀ i,nt≤i→σ2[i]?=σ[i]?)∧Q σ2 H2
theorem EH(S:CompScope X N scope nt js)(hc:X.calm=true)(hi:PI X tg iter wi)
  (hg:∀ cl C fp s H,PG (o3 X N scope cl C fp s H) tg g) (ht:TgOk nt g) (hcs:∀ cl C fp s H,PTs (o3 X N scope cl C fp s H) ifs (tc H)) (he:∀ cl C fp s H,PE (o3 X N scope cl C fp s H) elt (te H))
  {use:Option (Value→Sem Unit)} {pins:List (Addr×Obj)} {s:Shared} {σ:St} {H:Hp} {Q:VK} {Q':Value→Shared→Prop} (I:Inv X pins σ H s) (h:Iz nt js wi g tc te σ H Q)
  (hs:∀ x,foldedSetIterable iter X.env x=pure x)
  (fin:∀(D C:Addr) (H':Hp) (s':Shared),Inv X pins σ H' s'→Q (.ref D) H'→H' C=none→C≠X.env.locals→(X.s₀.heap.objs.size≤C)→(∀ x c,X.env.cells.lookup x=some c→c≠C)→(∀ p∈X.pn++pins,p.1≠C)→(∃ m,s'.heap.Ns C m) →
    compPost (model X.prog X.w) X.A X.xe use Q' (.ref D) C (.ok .next) s') :
  wpAny (model X.prog X.w) X.A (comprehension (.ListComp elt [⟨tg,iter,ifs,0⟩] scope pos) scope X.env (firstIterPos [⟨tg,iter,ifs,0⟩] pos) (newList []) false (eval iter X.env) use) Q' X.xe s:=by
 have clo:closureFor scope X.env=pure (o0 X.env scope.names []):=Gj fun y hy e=>I.ok.has y.1 (S.fre y hy e)
 refine wpAny_comprehension_free (cl:=o0 X.env scope.names []) rfl hs clo S.kind S.loc (thn (hi pins s σ H _ I h) fun xv s1 h1=>thn h1 fun itv s2 h2=>?_)
 obtain⟨it,fp,tn,J,H2,rfl,I2,T,st2,f2,q2⟩:=h2
 refine wpAny_newObj_type (hd:=by size_fits) ?_
 have fresh2:H2 s2.heap.objs.size=none:=I2.fresh
 have I3:=I2.lnew (ys:=[]) (its:=[]) (t':=s2.toks) .nil (Nat.zero_le _)
 obtain⟨W,⟨m0,w0⟩,turn⟩:=q2 s2.heap.objs.size fresh2
 have ltf:∀ b∈fp,b<s2.heap.objs.size:=fun b hb=>by
  obtain⟨o,e,_⟩:=T.obj 0 _ st2 b hb
  exact Heap.lt_size e
 have ned:∀ b∈fp,b≠s2.heap.objs.size:=fun b hb=>Nat.ne_of_lt (ltf b hb)
 have f3:∀ b∈fp,FpOk X pins (upd H2 s2.heap.objs.size (.lst [])) b:=fun b hb=>⟨by rw[o6 (ned b hb)];exact(f2 b hb).1,(f2 b hb).2⟩
 generalize e3:({ s2 with heap:=s2.heap.push { cls := .type "list",dict:=none,data := .seq ([]:List Value).toArray } }:Shared)=s3 at *
 have k3:∀ b o,s2.heap.get? b=some o→s3.heap.get? b=some o:=fun b o e=>by rw[←e3];exact Heap.get?_push_of_some _ e
 have os3:s3.os=s2.os:=by rw[←e3]
 have sz3:s2.heap.objs.size<s3.heap.objs.size:=by rw[←e3];show _<(s2.heap.push _).objs.size;rw[Heap.size_push];exact Nat.lt_succ_self _
 refine Bv fun h4 ns4 k4 nc4=>?_
 have I4:=Bw S I2 I3 (Un.laid k3 (Nat.le_refl _) fresh2) os3 (Nat.le_of_lt sz3) f3 (fun b hb=>by obtain⟨o,e,_⟩:=T.obj 0 _ st2 b hb;exact⟨o,k3 b o e⟩) ns4 k4 nc4
 have st4:tn 0 h4:=T.keep _ _ _ st2 fun b _ o e=>k4 b o (k3 b o e)
 generalize eC:s3.heap.objs.size=C at *
 have stat:∀{H':Hp},(∀ b∈fp,H' b=none)→∀ b∈fp,FpOk (o3 X N scope (cellsFrom (C+1) scope.names (o0 X.env scope.names [])) C fp s2 H2) [] H' b:=fun hn b hb =>
  ⟨hn b hb,(I4.ok.exf b hb).1,I4.ok.exfs b hb,.inl hb,(I4.ok.exf b hb).2,fun p hp=>absurd (show p∈([]:List (Addr×Obj))from hp) (by simp)⟩
 have loop:∀ s4:Shared,s4={ s3 with heap:=h4 }→codeAny (model X.prog X.w) X.A (.compLoop (.ListComp elt [⟨tg,iter,ifs,0⟩] scope pos) 0 (.ref it) (.ref s2.heap.objs.size) (compEnvC scope (cellsFrom (C+1) scope.names (o0 X.env scope.names [])) C X.env))
    (compPost (model X.prog X.w) X.A X.xe use Q' (.ref s2.heap.objs.size) C) s4:=by
  rintro s4 rfl
  refine N5 (fun n s'=>∃ i ys H',Inv (o3 X N scope (cellsFrom (C+1) scope.names (o0 X.env scope.names [])) C fp s2 H2) [] (sig nt js σ) H' s'∧tn i s'.heap∧(∀ b∈fp,H' b=none)∧W i n ys H') ?_ m0
    ⟨0,[],_,I4,st4,fun b hb=>(f3 b hb).1,w0⟩
  rintro n s5 ⟨i,ys,H5,I5,st5,fr5,w5⟩
  rcases turn i n ys H5 w5 with⟨stop,q⟩|⟨go,step⟩
  · refine wpAny_mono (T.done (o3 X N scope (cellsFrom (C+1) scope.names (o0 X.env scope.names [])) C fp s2 H2) rfl rfl rfl hc i [] s5 _ H5 _ I5 (stat fr5) st5 stop) (fun r s6 hZ=>hZ.elim fun hr I6=>?_) fun _ _ z=>z
    subst hr
    have u:Un (frs X.stack) fp H2 H5 s2.heap s6.heap:=I6.base
    have J6:Inv X pins σ H5 s6:=I2.call' I6.os u I6.hok I6.bare fun b hb=>⟨(f2 b hb).2.2.2.1,(f2 b hb).2.1,(f2 b hb).2.2.2.2.1,(f2 b hb).2.2.2.2.2⟩
    have hCs:s2.heap.objs.size≤C:=Nat.le_of_lt sz3
    refine fin _ C H5 s6 J6 q I6.free (fun z=>?_) (Nat.le_trans I2.sz hCs) (fun x c e z=>?_) (fun p hp z=>?_) ?_
    · exact absurd I2.lt (by rw[←z];exact Nat.not_lt.mpr hCs)
    · obtain⟨v,o,ho,_⟩:=I2.cell x c e
      exact absurd (Heap.lt_size ho) (by rw[z];exact Nat.not_lt.mpr hCs)
    · exact absurd (Heap.lt_size (I2.pin p hp).1) (by rw[z];exact Nat.not_lt.mpr hCs)
    · obtain⟨m,hm,_⟩:=I6.loc
      exact⟨m,hm⟩
  · refine wpAny_mono (T.item (o3 X N scope (cellsFrom (C+1) scope.names (o0 X.env scope.names [])) C fp s2 H2) rfl rfl rfl hc i [] s5 _ H5 _ I5 (stat fr5) st5 go) (fun r s6 hZ=>hZ.elim fun u hZ=>hZ.elim fun hr h6=>?_) fun _ _ z=>z
    subst hr
    refine wpAny_mono h6 (fun _ s7 hZ=>hZ.elim fun x hZ=>hZ.elim fun H7 hZ=>hZ.elim fun I7 hZ=>hZ.elim fun r7 hZ=>hZ.elim fun y7 hZ=>hZ.elim fun st7 fr7=>?_) fun _ _ z=>z
    have I7':=I7.pinned (stat fr7) (T.obj _ _ st7)
    refine wpAny_mono (hg _ _ _ _ _ _ s7 _ H7 x u _ I7' r7 (ht _ _ _ _ (step x H7 y7))) (fun _ s8 ⟨σ8,H8,I8,⟨l8,o8⟩,q8⟩=>?_) fun _ _ z=>z.elim
    have again:∀{s9:Shared} {H9:Hp} {ys9:List V},Inv (o3 X N scope (cellsFrom (C+1) scope.names (o0 X.env scope.names [])) C fp s2 H2) ([]++Bo fp s7.heap) σ8 H9 s9→(∃ m',m'<n∧W (i+1) m' ys9 H9) →
       ∃ m,m<n∧∃ i ys H',Inv (o3 X N scope (cellsFrom (C+1) scope.names (o0 X.env scope.names [])) C fp s2 H2) [] (sig nt js σ) H' s9∧tn i s9.heap∧(∀ b∈fp,H' b=none)∧W i m ys H':=fun{s9 H9 ys9} I9 ⟨m',hm,w9⟩=>by
      refine⟨m',hm,i+1,ys9,H9,I9.unpinned.weak l8.symm (Bx l8 o8),T.keep _ _ _ st7 fun b hb o e=>(I9.pin (b,o) (List.mem_append_right _ (List.mem_append_right _ (z8 hb e)))).1,fun b hb=>?_,w9⟩
      obtain⟨o,e,_⟩:=T.obj _ _ st7 b hb
      exact(I9.pin (b,o) (List.mem_append_right _ (List.mem_append_right _ (z8 hb e)))).2.1
    refine wpAny_mono (hcs _ _ _ _ _ _ s8 σ8 H8 _ I8 q8) (fun ok s9 hZ=>hZ.elim fun H9 hZ=>hZ.elim fun I9 q9=>?_) fun _ _ z=>z.elim
    cases ok with
    | false =>
      rw[if_neg Bool.false_ne_true]at q9 ⊢
      exact again I9 q9
    | true =>
      rw[if_pos rfl]at q9 ⊢
      refine wpAny_mono (he _ _ _ _ _ _ s9 σ8 H9 _ I9 q9) (fun y s10 hZ=>hZ.elim fun v hZ=>hZ.elim fun H10 hZ=>hZ.elim fun I10 hZ=>hZ.elim fun r10 hZ=>hZ.elim fun d10 hZ=>hZ.elim fun l10 w10=>?_) fun _ _ z=>z.elim
      refine wpAny_mono (T9 (X:=o3 X N scope (cellsFrom (C+1) scope.names (o0 X.env scope.names [])) C fp s2 H2) _ s10 σ8 H10 (.ref s2.heap.objs.size) [v] (.ref s2.heap.objs.size) [y] (fun z H'=>∃ m',m'<n∧W (i+1) m' (ys++[v]) H') I10 rfl (.cons r10 .nil) ⟨_,ys,v,rfl,rfl,d10,l10,w10⟩) (fun _ s11 hZ=>hZ.elim fun _ hZ=>hZ.elim fun H11 hZ=>hZ.elim fun I11 hZ=>hZ.elim fun _ w11=>?_) fun _ _ z=>z.elim
      exact again I11 w11
 exact codeAny_compStart_list (loop _ rfl) (T.self _ _ _ _ _ st4 (loop _ rfl))
theorem NV(S:CompScope X N scope nt js)(hc:X.calm=true)(hi:PI X tg iter wi)
  (hg:∀ cl C fp s H,PG (o3 X N scope cl C fp s H) tg g) (ht:TgOk nt g) (hcs:∀ cl C fp s H,PTs (o3 X N scope cl C fp s H) ifs (tc H)) (he:∀ cl C fp s H,PE (o3 X N scope cl C fp s H) elt (te H))
  (hs:∀ x,foldedSetIterable iter X.env x=pure x:=by intro _;rfl):PE X (.ListComp elt [⟨tg,iter,ifs,0⟩] scope pos) (Iz nt js wi g tc te):=by
 intro pins s σ H Q I h
 rw[eval_ListComp]
 refine EH (use:=none) S hc hi hg ht hcs he I h hs ?_
 rintro D C H' s' I' q hC hL hz hcl hpn ⟨m,hm⟩
 exact⟨m,hm,fun h' sb=>⟨.ref D,H',I'.turned (fun b o hb e=>sb.extBut b o hb e) hC hL (.inr hz) hcl hpn,rfl,q⟩⟩
theorem NW{i:Nat}{x:Str}{pos' spos:Pos}(hN:X.N.Nodup)(hix:X.N[i]?=some x)(hx:X.env.scope.names.lookup x=some .local)(S:CompScope X N scope nt js)(hc:X.calm=true)(hi:PI X tg iter wi)
  (hg:∀ cl C fp s H,PG (o3 X N scope cl C fp s H) tg g) (ht:TgOk nt g) (hcs:∀ cl C fp s H,PTs (o3 X N scope cl C fp s H) ifs (tc H)) (he:∀ cl C fp s H,PE (o3 X N scope cl C fp s H) elt (te H))
  (hsw:swapsWith (.ListComp elt [⟨tg,iter,ifs,0⟩] scope pos) (some (.Name x pos')) spos.line X.env=pure true)
  (hs:∀ x,foldedSetIterable iter X.env x=pure x:=by intro _;rfl):PS X (.Assign [.Name x pos'] (.ListComp elt [⟨tg,iter,ifs,0⟩] scope pos) spos) (tAsg (Iz nt js wi g tc te) (CJ i)):=by
 intro pins s σ H D0 I h
 rw[exec_Assign_Name_used _ _ _ _ hsw]
 refine wpAny_bind (wpAny_standAt (wpAny_bind ?_))
 show wpAny _ X.A (do let _ ←comprehension (.ListComp elt [⟨tg,iter,ifs,0⟩] scope pos) scope X.env _ (newList []) false (eval iter X.env) (some (assign (.Name x pos') X.env))) _ _ s
 refine wpAny_bind (wpAny_mono (EH (use:=some (assign (.Name x pos') X.env)) (Q':=fun _ s'=>SP X pins D0 .next s') S hc hi hg ht hcs he I h hs fun D C H' s' I' q hC hL hz hcl hpn hZ=>hZ.elim fun m hm=>?_) (fun _ s' hq=>wpAny_pure (wpAny_pure hq)) fun _ _ e=>e)
 show wpAny _ X.A (assign (.Name x pos') X.env (.ref D)) _ _ s'
 refine wpAny_assign_Name (CI (v := .ref D) I' hN hix (.inl hx) rfl (fun s'' I'' hZ=>hZ.elim fun a hZ=>hZ.elim fun sb ha=>?_) (.inr hx))
 have hCa:C≠a:=by
  rintro rfl
  rcases ha with ha|ha
  · exact hL ha
  · exact hcl x C ha rfl
 refine⟨m,hm.sameBut sb hCa,fun h' sb'=>⟨_,H',I''.turned (fun b o hb e=>sb'.extBut b o hb e) hC hL (.inr hz) hcl hpn,q⟩⟩
end
end L2

end
section
set_option Elab.async false
set_option linter.all false
set_option maxRecDepth 100000
namespace L2
open PySem PySem.Spec PyProof.Rows
section
variable {X:Cx}
def CDivG(_ j:Int):Prop:=j≠0∧j.natAbs.log2<9000
theorem Kn:OpR X (binaryOp .FloorDiv) (rI CDivG fun i j => .int (i.fdiv j)):=opI fun _ _ _ _ _ _ _ hc q=>floordiv_int hc.1 q (.inl (PyProof.noPylong_of_log2 hc.2))
theorem log2_lt{n k:Nat}(h:n<2 ^ k)(hk:0<k):n.log2<k:=by
 by_cases h0:n=0
 · subst h0;exact hk
 · exact(Nat.log2_lt h0).mpr h
theorem pe_ty{x:Str}{T:String}{pos:Pos}(hg:Gl X x)(hm:X.mg x=none)(hv:bootBuiltins x=some (.type T))(hn:x ≠ "__name__" := by decide)(hd:(x==("__debug__" : Str))=false:=by decide):PE X (.Name x pos) (tC (.ty T)):=NE (v:=V.ty T) hg hm hv rfl hn hd
end
end L2

end
section
set_option Elab.async false
set_option linter.all false
set_option maxRecDepth 100000
namespace L2
open PySem PySem.Spec PyProof.Rows
def hidL(A:List Addr)(H:Hp):Hp:=fun b=>if b∈A then none else H b
def v0(A:List Addr)(H H':Hp):Hp:=fun b=>if b∈A then H b else H' b
section
variable {A:List Addr}{H H' H1:Hp}{a b:Addr}{o:HO}
theorem J0(h:b∈A):hidL A H b=none:=if_pos h
theorem m6(h:b ∉ A):hidL A H b=H b:=if_neg h
theorem N7(h:hidL A H b=some o):b ∉ A∧H b=some o:=by
 unfold hidL at h
 split at h
 · cases h
 · rename_i q;exact⟨q,h⟩
theorem i9:Same (hidL A H) H:=fun b o e=>(N7 e).2
theorem EI:hidL [] H=H:=funext fun b=>by unfold hidL;simp
theorem J1(h:b∈A):v0 A H H' b=H b:=if_pos h
theorem u5(h:b ∉ A):v0 A H H' b=H' b:=if_neg h
theorem Same.glue(h:Same (hidL A H) H')(hn:∀ a∈A,H' a=none):Same H (v0 A H H'):=fun b o e=>by
 by_cases q:b∈A
 · rw[J1 q];exact e
 · rw[u5 q];exact h b o (by rw[m6 q];exact e)
theorem B8(hn:∀ a∈A,H' a=none):hidL A (v0 A H H')=H':=funext fun b=>by
 by_cases q:b∈A
 · rw[J0 q,hn b q]
 · rw[m6 q,u5 q]
end
def OwnL(X:Cx)(A:List Addr)(H:Hp):Prop:=∀ a∈A,(∃ vs,H a=some (.lst vs))∧X.H₀ a=none
section
variable {X:Cx}{A:List Addr}{pins:List (Addr×Obj)}{σ:St}{H H':Hp}{s s':Shared}
def EJ(h:Heap)(A:List Addr):List (Addr×Obj):=A.filterMap fun a=>(h.get? a).map fun o=>(a,o)
theorem CQ{h:Heap}{a:Addr}{o:Obj}(ha:a∈A)(e:h.get? a=some o):(a,o)∈EJ h A:=List.mem_filterMap.mpr ⟨a,ha,by rw[e];rfl⟩
theorem Ko{h:Heap}{p:Addr×Obj}(hp:p∈EJ h A):p.1∈A∧h.get? p.1=some p.2:=by
 obtain⟨a,ha,e⟩:=List.mem_filterMap.mp hp
 cases q:h.get? a with
 | none=>rw[q]at e;cases e
 | some o=>rw[q]at e;cases e;exact⟨ha,q⟩
theorem Inv.fsFree(I:Inv X pins σ H s){b:Addr}(hb:b∈X.fs):H b=none:=by
 obtain⟨_,o,ho,_⟩:=I.ok.funs.mem hb
 exact I.base.free b o ho (I.ok.frf b hb) fun z=>I.ok.exfs b z hb
theorem Inv.hide(I:Inv X pins σ H s)(hA:OwnL X A H):Inv X (pins++EJ s.heap A) σ (hidL A H) s:=by
 have nl:∀ b o,H b=some o→(∀ vs,o ≠ .lst vs)→b ∉ A:=fun b o e n hb=>by
   obtain⟨⟨vs,q⟩,_⟩:=hA b hb
   rw[e]at q
   exact n vs (Option.some.inj q)
 refine⟨I.ok,I.os,I.bare,⟨I.base.keep,I.base.slot,fun b o e n hx=>?_,I.base.there,fun b xs e=>?_,fun b o u e=>?_,fun b ps e=>?_⟩,I.loc,I.cell,?_,fun x c e=>?_,fun p hp=>?_,fun a o e=>?_,I.len⟩
 · have:=I.base.free b o e n hx
   unfold hidL
   split
   · rfl
   · exact this
 · have:=I.base.tups b xs e
   rw[m6 (nl b _ this fun _ z=>by cases z)];exact this
 · have:=I.base.frzs b o u e
   rw[m6 (nl b _ this fun _ z=>by cases z)];exact this
 · obtain⟨more,this⟩:=I.base.tbls b ps e
   exact⟨more,by rw[m6 (nl b _ this fun _ z=>by cases z)];exact this⟩
 · have:=I.free
   unfold hidL
   split
   · rfl
   · exact this
 · have:=I.freeC x c e
   unfold hidL
   split
   · rfl
   · exact this
 · rw[←List.append_assoc]at hp
   rcases List.mem_append.mp hp with hp|hp
   · obtain⟨q1,q2,q3⟩:=I.pin p hp
     refine⟨q1,?_,q3⟩
     unfold hidL
     split
     · rfl
     · exact q2
   · obtain⟨q1,q2⟩:=Ko hp
     obtain⟨⟨vs,q⟩,_⟩:=hA _ q1
     refine⟨q2,J0 q1,fun z=>?_,fun z=>?_,fun v z=>?_⟩
     · rw[z,I.free]at q;cases q
     · rw[I.fsFree z]at q;cases q
     · obtain⟨_,its,n,_,e⟩:=I.hok _ _ q
       rw[q2]at e
       have e:=Option.some.inj e
       rw[e]at z
       cases z
 · obtain⟨q1,q2⟩:=N7 e
   refine(I.hok a o q2).stay (fun b u _ z=>z) (fun b z=>?_) (fun b xs z=>?_)
   · rw[m6 (nl b _ z fun _ z=>by cases z)];exact z
   · rw[m6 (nl b _ z fun _ z=>by cases z)];exact z
theorem Inv.unhide{σ':St}(I:Inv X pins σ H s)(hA:OwnL X A H)(J:Inv X (pins++EJ s.heap A) σ' H' s'):(∀ a∈A,H' a=none)∧Inv X pins σ' (v0 A H H') s':=by
 have pn:∀ a∈A,∃ o,s.heap.get? a=some o∧s'.heap.get? a=some o∧H' a=none:=fun a ha=>by
   obtain⟨⟨vs,q⟩,_⟩:=hA a ha
   obtain⟨_,its,n,_,e⟩:=I.hok _ _ q
   have:=J.pin _ (List.mem_append_right _ (List.mem_append_right _ (CQ ha e)))
   exact⟨_,e,this.1,this.2.1⟩
 have hn:∀ a∈A,H' a=none:=fun a ha=>by obtain⟨o,_,_,q⟩:=pn a ha;exact q
 have out:∀ b,H b=none→b ∉ A:=fun b e hb=>by
   obtain⟨⟨vs,q⟩,_⟩:=hA b hb
   rw[e]at q;cases q
 have tr:∀ b o,H' b=some o→b ∉ A:=fun b o e hb=>by rw[hn b hb]at e;cases e
 refine⟨hn,J.ok,J.os,J.bare,⟨J.base.keep,J.base.slot,fun b o e n hx=>?_,J.base.there,fun b xs e=>?_,fun b o u e=>?_,fun b ps e=>?_⟩,J.loc,J.cell,?_,fun x c e=>?_,fun p hp=>?_,fun a o e=>?_,J.len⟩
 · rw[u5 (out b (I.base.free b o e n hx))];exact J.base.free b o e n hx
 · have:=J.base.tups b xs e
   rw[u5 (tr b _ this)];exact this
 · have:=J.base.frzs b o u e
   rw[u5 (tr b _ this)];exact this
 · obtain⟨more,this⟩:=J.base.tbls b ps e
   exact⟨more,by rw[u5 (tr b _ this)];exact this⟩
 · rw[u5 (out _ I.free)];exact J.free
 · rw[u5 (out _ (I.freeC x c e))];exact J.freeC x c e
 · have hp':p∈X.pn++(pins++EJ s.heap A):=by
     rw[←List.append_assoc];exact List.mem_append_left _ hp
   obtain⟨q1,q2,q3⟩:=J.pin p hp'
   refine⟨q1,?_,q3⟩
   rw[u5 (out _ (I.pin p hp).2.1)];exact q2
 · by_cases ha:a∈A
   · rw[J1 ha]at e
     obtain⟨⟨vs,q⟩,_⟩:=hA a ha
     rw[q]at e
     cases e
     obtain⟨hz,its,n,r,e1⟩:=I.hok _ _ q
     obtain⟨o,e2,e3,_⟩:=pn a ha
     rw[e1]at e2
     cases e2
     exact⟨hz,its,n,r,e3⟩
   · rw[u5 ha]at e
     refine(J.hok a o e).stay (fun b u _ z=>z) (fun b z=>?_) (fun b xs z=>?_)
     · rw[u5 (tr b _ z)];exact z
     · rw[u5 (tr b _ z)];exact z
theorem PE.frame{e:Expr}{t:TE}(h:PE X e t):PE X e (fun σ H Q=>∃ A,OwnL X A H∧t σ (hidL A H) fun v H'=>(∀ a∈A,H' a=none)→Q v (v0 A H H')):=by
 intro pins s σ H Q I ⟨A,hA,z⟩
 refine thn (h _ s σ _ _ (I.hide hA) z) ?_
 rintro u s' ⟨v,H',J,r,q⟩
 obtain⟨hn,J'⟩:=I.unhide hA J
 exact⟨v,_,J',r,q hn⟩
theorem PA.frame{es:List Expr}{t:TA}(h:PA X es t):PA X es (fun σ H Q=>∃ A,OwnL X A H∧t σ (hidL A H) fun v H'=>(∀ a∈A,H' a=none)→Q v (v0 A H H')):=by
 intro pos pins s σ H Q I ⟨A,hA,z⟩
 refine thn (h pos _ s σ _ _ (I.hide hA) z) ?_
 rintro u s' ⟨v,H',J,r,q⟩
 obtain⟨hn,J'⟩:=I.unhide hA J
 exact⟨v,_,J',r,q hn⟩
theorem PT.frame{e:Expr}{t:TT}(h:PT X e t):PT X e (fun σ H Q=>∃ A,OwnL X A H∧t σ (hidL A H) fun v H'=>(∀ a∈A,H' a=none)→Q v (v0 A H H')):=by
 intro pins s σ H Q I ⟨A,hA,z⟩
 refine thn (h _ s σ _ _ (I.hide hA) z) ?_
 rintro u s' ⟨H',J,q⟩
 obtain⟨hn,J'⟩:=I.unhide hA J
 exact⟨_,J',q hn⟩
def hidD(A:List Addr)(H:Hp)(D:Ends):Ends where
 nx:=fun σ H'=>(∀ a∈A,H' a=none)→D.nx σ (v0 A H H')
 rt:=fun v H'=>(∀ a∈A,H' a=none)→D.rt v (v0 A H H')
 bk:=fun σ H'=>(∀ a∈A,H' a=none)→D.bk σ (v0 A H H')
 ct:=fun σ H'=>(∀ a∈A,H' a=none)→D.ct σ (v0 A H H')
theorem PS.frame{st:Stmt}{t:TS}(h:PS X st t):PS X st (fun D σ H=>∃ A,OwnL X A H∧t (hidD A H D) σ (hidL A H)):=by
 intro pins s σ H D I ⟨A,hA,z⟩
 refine thn (h _ s σ _ _ (I.hide hA) z) fun f s' q=>?_
 cases f with
 | next=>obtain⟨σ',H',J,q⟩:=q;obtain⟨hn,J'⟩:=I.unhide hA J;exact⟨_,_,J',q hn⟩
 | brk=>obtain⟨σ',H',J,q⟩:=q;obtain⟨hn,J'⟩:=I.unhide hA J;exact⟨_,_,J',q hn⟩
 | cont=>obtain⟨σ',H',J,q⟩:=q;obtain⟨hn,J'⟩:=I.unhide hA J;exact⟨_,_,J',q hn⟩
 | ret u=>obtain⟨v,σ',H',J,r,q⟩:=q;obtain⟨hn,J'⟩:=I.unhide hA J;exact⟨_,_,_,J',r,q hn⟩
theorem PI.frame{tg e:Expr}{t:TI}(h:PI X tg e t):PI X tg e (fun σ H R=>∃ A,OwnL X A H∧t σ (hidL A H) fun J H'=>(∀ a∈A,H' a=none)→R J (v0 A H H')):=by
 intro pins s σ H R I ⟨A,hA,z⟩
 refine thn (h _ s σ _ _ (I.hide hA) z) fun v s1 q=>thn q ?_
 rintro itv s2 ⟨it,fp,tn,J,H',e,I2,T,st,hf,r⟩
 obtain⟨hn,I3⟩:=I.unhide hA I2
 refine⟨it,fp,tn,J,_,e,I3,T,st,fun b hb=>?_,r hn⟩
 obtain⟨f1,f2,f3,f4,f5,f6⟩:=hf b hb
 have hbA:b ∉ A:=fun ha=>by
  obtain⟨⟨vs,q⟩,_⟩:=hA b ha
  obtain⟨_,its,n,_,e⟩:=I.hok _ _ q
  exact f6 _ (List.mem_append_right _ (List.mem_append_right _ (CQ ha e))) rfl
 refine⟨by rw[u5 hbA];exact f1,f2,f3,f4,f5,fun p hp=>f6 p ?_⟩
 rw[←List.append_assoc];exact List.mem_append_left _ hp
end
end L2

end
section
set_option Elab.async false
set_option linter.all false
set_option maxRecDepth 100000
namespace L2
open PySem PySem.Spec PyProof.Rows
inductive Dt where
 | non|bl (b:Bool)|int (i:Int)|str (x:Str)|lst (xs:List Dt)|tup (xs:List Dt)|scr (ns:List Int)|dic
def emp:Hp:=fun _=>none
theorem Y4{A C:List Addr}{H:Hp}:hidL A (hidL C H)=hidL C (hidL A H):=funext fun b=>by
 unfold hidL
 by_cases p:b∈A<;>by_cases q:b∈C<;>simp[p,q]
theorem A7{A:List Addr}{H H':Hp}(h:Same H H'):Same (hidL A H) (hidL A H'):=fun b o e=>by
 obtain⟨q1,q2⟩:=N7 e
 rw[m6 q1];exact h b o q2
theorem F6{A B:List Addr}{H:Hp}(h:∀ a∈B,a∈A):Same (hidL A H) (hidL B H):=fun b o e=>by
 obtain⟨q1,q2⟩:=N7 e
 rw[m6 fun z=>q1 (h b z)];exact q2
theorem Same.seqT{K:PySem.W.Frag}{H H':Hp}{a:Addr}{xs:List V}(e:Same H H')(h:SqT K H a xs):SqT K H' a xs:=by
 rcases h with(h|⟨o,h⟩)|h
 · exact .inl (.inl (e _ _ h))
 · exact .inl (.inr ⟨o,e _ _ h⟩)
 · exact .inr h
theorem Same.emp{H:Hp}:Same emp H:=fun _ _ e=>by cases e
def dicAt(a:Addr)(h:Heap):Prop:=h.get? a=some { cls := .type "dict",data := .dict #[] }
mutual
def Rp(K:PySem.W.Frag)(B:Hp):Dt→Hp→V→Prop
 | .non,_,v=>v = .non
 | .bl b,_,v=>v = .bl b
 | .int i,_,v=>v = .int i
 | .str x,_,v=>v = .str x
 | .dic,H,v=>∃ a,v = .ref a∧H a=some (.ext (dicAt a))
 | .lst ds,H,v=>∃ a vs,v = .ref a∧B a=none∧H a=some (.lst vs)∧Rps K B ds (hidL [a] H) vs
 | .tup ds,H,v=>∃ a vs,v = .ref a∧SqT K H a vs∧Rps K B ds H vs
 | .scr ns,H,v=>∃ a,v = .ref a∧B a=none∧SqL K H a (ns.map V.int)
def Rps(K:PySem.W.Frag)(B:Hp):List Dt→Hp→List V→Prop
 | [],_,vs=>vs=[]
 | d::ds,H,vs=>∃ v r,vs=v::r∧Rp K B d H v∧Rps K B ds H r
end
section
variable {K:PySem.W.Frag}{B B' H H':Hp}
theorem Rp.int_{i:Int}{v:V}:Rp K B (.int i) H v↔v = .int i:=by unfold Rp;exact Iff.rfl
theorem Rp.bl_{b:Bool}{v:V}:Rp K B (.bl b) H v↔v = .bl b:=by unfold Rp;exact Iff.rfl
theorem Rp.non_{v:V}:Rp K B .non H v↔v = .non:=by unfold Rp;exact Iff.rfl
theorem Rp.str_{x:Str}{v:V}:Rp K B (.str x) H v↔v = .str x:=by unfold Rp;exact Iff.rfl
theorem Rp.dic_{v:V}:Rp K B .dic H v↔∃ a,v = .ref a∧H a=some (.ext (dicAt a)):=by unfold Rp;exact Iff.rfl
theorem Rp.lst_{ds:List Dt}{v:V}:Rp K B (.lst ds) H v↔∃ a vs,v = .ref a∧B a=none∧H a=some (.lst vs)∧Rps K B ds (hidL [a] H) vs:=by rw[Rp]
theorem Rp.tup_{ds:List Dt}{v:V}:Rp K B (.tup ds) H v↔∃ a vs,v = .ref a∧SqT K H a vs∧Rps K B ds H vs:=by rw[Rp]
theorem Rp.scr_{ns:List Int}{v:V}:Rp K B (.scr ns) H v↔∃ a,v = .ref a∧B a=none∧SqL K H a (ns.map V.int):=by rw[Rp]
theorem Rps.nil_{vs:List V}:Rps K B [] H vs↔vs=[]:=by rw[Rps]
theorem Rps.cons_{d:Dt}{ds:List Dt}{vs:List V}:Rps K B (d::ds) H vs↔∃ v r,vs=v::r∧Rp K B d H v∧Rps K B ds H r:=by rw[Rps]
mutual
theorem Rp.mono:∀(d:Dt) {H H':Hp} {v:V},Same H H'→Rp K B d H v→Rp K B d H' v
 | .non,_,_,v,e,h=>by unfold Rp at h ⊢;exact h
 | .bl b,_,_,v,e,h=>by unfold Rp at h ⊢;exact h
 | .int i,_,_,v,e,h=>by unfold Rp at h ⊢;exact h
 | .str x,_,_,v,e,h=>by unfold Rp at h ⊢;exact h
 | .dic,_,_,v,e,h=>by unfold Rp at h ⊢;obtain⟨a,q,r⟩:=h;exact⟨a,q,e _ _ r⟩
 | .lst ds,_,_,v,e,h=>by
  unfold Rp at h ⊢
  obtain⟨a,vs,rfl,h0,h1,h2⟩:=h
  exact⟨a,vs,rfl,h0,e _ _ h1,Rps.mono ds (A7 e) h2⟩
 | .tup ds,_,_,v,e,h=>by
  unfold Rp at h ⊢
  obtain⟨a,vs,rfl,h1,h2⟩:=h
  exact⟨a,vs,rfl,e.seqT h1,Rps.mono ds e h2⟩
 | .scr ns,_,_,v,e,h=>by
  unfold Rp at h ⊢
  obtain⟨a,rfl,h0,h1⟩:=h
  exact⟨a,rfl,h0,e.seq h1⟩
theorem Rps.mono:∀(ds:List Dt) {H H':Hp} {vs:List V},Same H H'→Rps K B ds H vs→Rps K B ds H' vs
 | [],_,_,vs,e,h=>by unfold Rps at h ⊢;exact h
 | d::ds,_,_,vs,e,h=>by
  unfold Rps at h ⊢
  obtain⟨v,r,rfl,h1,h2⟩:=h
  exact⟨v,r,rfl,Rp.mono d e h1,Rps.mono ds e h2⟩
end
mutual
theorem Rp.anti(e:Same B' B):∀(d:Dt) {H:Hp} {v:V},Rp K B d H v→Rp K B' d H v
 | .non,_,v,h=>by unfold Rp at h ⊢;exact h
 | .bl b,_,v,h=>by unfold Rp at h ⊢;exact h
 | .int i,_,v,h=>by unfold Rp at h ⊢;exact h
 | .str x,_,v,h=>by unfold Rp at h ⊢;exact h
 | .dic,_,v,h=>by unfold Rp at h ⊢;exact h
 | .lst ds,_,v,h=>by
  unfold Rp at h ⊢
  obtain⟨a,vs,rfl,h0,h1,h2⟩:=h
  exact⟨a,vs,rfl,e.free h0,h1,Rps.anti e ds h2⟩
 | .tup ds,_,v,h=>by
  unfold Rp at h ⊢
  obtain⟨a,vs,rfl,h1,h2⟩:=h
  exact⟨a,vs,rfl,h1,Rps.anti e ds h2⟩
 | .scr ns,_,v,h=>by
  unfold Rp at h ⊢
  obtain⟨a,rfl,h0,h1⟩:=h
  exact⟨a,rfl,e.free h0,h1⟩
theorem Rps.anti(e:Same B' B):∀(ds:List Dt) {H:Hp} {vs:List V},Rps K B ds H vs→Rps K B' ds H vs
 | [],_,vs,h=>by unfold Rps at h ⊢;exact h
 | d::ds,_,vs,h=>by
  unfold Rps at h ⊢
  obtain⟨v,r,rfl,h1,h2⟩:=h
  exact⟨v,r,rfl,Rp.anti e d h1,Rps.anti e ds h2⟩
end
theorem SqT.hid{A:List Addr}{a:Addr}{xs:List V}(hA:∀ b∈A,∀ o,H b=some o→∃ vs,o = .lst vs)(h:SqT K H a xs):SqT K (hidL A H) a xs:=by
 rcases h with(h|⟨o,h⟩)|h
 · refine .inl (.inl ?_)
   rw[m6 fun z=>by obtain⟨vs,e⟩:=hA a z _ h;cases e];exact h
 · refine .inl (.inr ⟨o,?_⟩)
   rw[m6 fun z=>by obtain⟨vs,e⟩:=hA a z _ h;cases e];exact h
 · exact .inr h
theorem SqL.hid{A:List Addr}{a:Addr}{xs:List V}(hA:a ∉ A)(h:SqL K H a xs):SqL K (hidL A H) a xs:=by
 rcases h with(h|⟨o,h⟩)|h
 · exact .inl (.inl (by rw[m6 hA];exact h))
 · exact .inl (.inr ⟨o,by rw[m6 hA];exact h⟩)
 · exact .inr h
mutual
theorem Rp.hid{A:List Addr}(hB:∀ b∈A,B b≠none):∀(d:Dt) {H:Hp} {v:V},(∀ b∈A,∀ o,H b=some o→∃ vs,o = .lst vs)→Rp K B d H v→Rp K B d (hidL A H) v
 | .non,_,v,_,h=>by unfold Rp at h ⊢;exact h
 | .bl b,_,v,_,h=>by unfold Rp at h ⊢;exact h
 | .int i,_,v,_,h=>by unfold Rp at h ⊢;exact h
 | .str x,_,v,_,h=>by unfold Rp at h ⊢;exact h
 | .dic,_,v,hA,h=>by unfold Rp at h ⊢;obtain⟨a,q,r⟩:=h;exact⟨a,q,by rw[m6 fun z=>by obtain⟨vs,e⟩:=hA a z _ r;cases e];exact r⟩
 | .lst ds,H,v,hA,h=>by
  unfold Rp at h ⊢
  obtain⟨a,vs,rfl,h0,h1,h2⟩:=h
  refine⟨a,vs,rfl,h0,by rw[m6 fun z=>hB a z h0];exact h1,?_⟩
  rw[Y4]
  exact Rps.hid hB ds (fun b hb o e=>hA b hb o (N7 e).2) h2
 | .tup ds,H,v,hA,h=>by
  unfold Rp at h ⊢
  obtain⟨a,vs,rfl,h1,h2⟩:=h
  exact⟨a,vs,rfl,h1.hid hA,Rps.hid hB ds hA h2⟩
 | .scr ns,H,v,hA,h=>by
  unfold Rp at h ⊢
  obtain⟨a,rfl,h0,h1⟩:=h
  exact⟨a,rfl,h0,h1.hid fun z=>hB a z h0⟩
theorem Rps.hid{A:List Addr}(hB:∀ b∈A,B b≠none):∀(ds:List Dt) {H:Hp} {vs:List V},(∀ b∈A,∀ o,H b=some o→∃ vs,o = .lst vs)→Rps K B ds H vs→Rps K B ds (hidL A H) vs
 | [],_,vs,_,h=>by unfold Rps at h ⊢;exact h
 | d::ds,_,vs,hA,h=>by
  unfold Rps at h ⊢
  obtain⟨v,r,rfl,h1,h2⟩:=h
  exact⟨v,r,rfl,Rp.hid hB d hA h1,Rps.hid hB ds hA h2⟩
end
end
mutual
def Dt.flat:Dt→Bool
 | .lst _=>false
 | .scr _=>false
 | .tup ds=>p9 ds
 | _=>true
def p9:List Dt→Bool
 | []=>true
 | d::ds=>d.flat&&p9 ds
end
section
variable {K:PySem.W.Frag}{B B' H H':Hp}
mutual
theorem Rp.flat:∀(d:Dt) {H:Hp} {v:V},d.flat=true→Rp K B d H v→Rp K B' d H v
 | .non,_,v,_,h=>by unfold Rp at h ⊢;exact h
 | .bl b,_,v,_,h=>by unfold Rp at h ⊢;exact h
 | .int i,_,v,_,h=>by unfold Rp at h ⊢;exact h
 | .str x,_,v,_,h=>by unfold Rp at h ⊢;exact h
 | .dic,_,v,_,h=>by unfold Rp at h ⊢;exact h
 | .lst ds,_,v,f,h=>by unfold Dt.flat at f;cases f
 | .tup ds,_,v,f,h=>by
  unfold Dt.flat at f
  unfold Rp at h ⊢
  obtain⟨a,vs,rfl,h1,h2⟩:=h
  exact⟨a,vs,rfl,h1,Rps.flat ds f h2⟩
 | .scr ns,_,v,f,h=>by unfold Dt.flat at f;cases f
theorem Rps.flat:∀(ds:List Dt) {H:Hp} {vs:List V},p9 ds=true→Rps K B ds H vs→Rps K B' ds H vs
 | [],_,vs,_,h=>by unfold Rps at h ⊢;exact h
 | d::ds,_,vs,f,h=>by
  unfold p9 at f
  rw[Bool.and_eq_true]at f
  unfold Rps at h ⊢
  obtain⟨v,r,rfl,h1,h2⟩:=h
  exact⟨v,r,rfl,Rp.flat d f.1 h1,Rps.flat ds f.2 h2⟩
end
theorem Rps.length:∀{ds:List Dt} {vs:List V},Rps K B ds H vs→vs.length=ds.length
 | [],vs,h=>by rw[Rps.nil_.mp h];rfl
 | d::ds,vs,h=>by
  obtain⟨v,r,rfl,_,h2⟩:=Rps.cons_.mp h
  rw[List.length_cons,List.length_cons,Rps.length h2]
theorem Rps.get:∀{ds:List Dt} {vs:List V} {i:Nat} {d:Dt},Rps K B ds H vs→ds[i]?=some d→∃ v,vs[i]?=some v∧Rp K B d H v
 | [],vs,i,d,_,e=>by simp at e
 | c::ds,vs,0,d,h,e=>by
  obtain⟨v,r,rfl,h1,_⟩:=Rps.cons_.mp h
  simp at e;subst e
  exact⟨v,rfl,h1⟩
 | c::ds,vs,i+1,d,h,e=>by
  obtain⟨v,r,rfl,_,h2⟩:=Rps.cons_.mp h
  have e:ds[i]?=some d:=by simpa using e
  obtain⟨u,q1,q2⟩:=Rps.get h2 e
  exact⟨u,by simpa using q1,q2⟩
theorem Rps.append:∀{ds ds':List Dt} {vs vs':List V},Rps K B ds H vs→Rps K B ds' H vs'→Rps K B (ds++ds') H (vs++vs')
 | [],ds',vs,vs',h,h'=>by rw[Rps.nil_.mp h];exact h'
 | d::ds,ds',vs,vs',h,h'=>by
  obtain⟨v,r,rfl,h1,h2⟩:=Rps.cons_.mp h
  exact Rps.cons_.mpr ⟨v,r++vs',rfl,h1,Rps.append h2 h'⟩
theorem Rps.one{d:Dt}{v:V}(h:Rp K B d H v):Rps K B [d] H [v]:=Rps.cons_.mpr ⟨v,[],rfl,h,Rps.nil_.mpr rfl⟩
theorem Rps.take:∀{ds:List Dt} {vs:List V} (n:Nat),Rps K B ds H vs→Rps K B (ds.take n) H (vs.take n)
 | ds,vs,0,_=>by rw[List.take_zero,List.take_zero];exact Rps.nil_.mpr rfl
 | [],vs,n+1,h=>by rw[Rps.nil_.mp h];exact Rps.nil_.mpr rfl
 | d::ds,vs,n+1,h=>by
  obtain⟨v,r,rfl,h1,h2⟩:=Rps.cons_.mp h
  exact Rps.cons_.mpr ⟨v,r.take n,rfl,h1,Rps.take n h2⟩
theorem Rps.drop:∀{ds:List Dt} {vs:List V} (n:Nat),Rps K B ds H vs→Rps K B (ds.drop n) H (vs.drop n)
 | ds,vs,0,h=>h
 | [],vs,n+1,h=>by rw[Rps.nil_.mp h];exact Rps.nil_.mpr rfl
 | d::ds,vs,n+1,h=>by
  obtain⟨v,r,rfl,h1,h2⟩:=Rps.cons_.mp h
  exact Rps.drop n h2
theorem Rps.set:∀{ds:List Dt} {vs:List V} (i:Nat) {d:Dt} {v:V},Rps K B ds H vs→Rp K B d H v→Rps K B (ds.set i d) H (vs.set i v)
 | [],vs,i,d,v,h,_=>by rw[Rps.nil_.mp h];exact Rps.nil_.mpr rfl
 | c::ds,vs,0,d,v,h,q=>by
  obtain⟨u,r,rfl,h1,h2⟩:=Rps.cons_.mp h
  exact Rps.cons_.mpr ⟨v,r,rfl,q,h2⟩
 | c::ds,vs,i+1,d,v,h,q=>by
  obtain⟨u,r,rfl,h1,h2⟩:=Rps.cons_.mp h
  exact Rps.cons_.mpr ⟨u,r.set i v,rfl,h1,Rps.set i h2 q⟩
theorem Rps.reverse:∀{ds:List Dt} {vs:List V},Rps K B ds H vs→Rps K B ds.reverse H vs.reverse
 | [],vs,h=>by rw[Rps.nil_.mp h];exact Rps.nil_.mpr rfl
 | d::ds,vs,h=>by
  obtain⟨v,r,rfl,h1,h2⟩:=Rps.cons_.mp h
  rw[List.reverse_cons,List.reverse_cons]
  exact Rps.append (Rps.reverse h2) (Rps.one h1)
theorem EK{p:Addr}{o:HO}(h:H p=none):hidL [p] (upd H p o)=H:=funext fun b=>by
 by_cases q:b=p
 · subst q;rw[J0 (by simp),h]
 · rw[m6 (by simpa using q),o6 q]
theorem w8{p:Addr}{o:HO}(h:H p=none):Same H (upd H p o):=fun b u e=>by rw[o6 (C7 e h)];exact e
theorem Rp.new{ds:List Dt}{vs:List V}{p:Addr}(hp:H p=none)(hB:B p=none)(r:Rps K B ds H vs):Rp K B (.lst ds) (upd H p (.lst vs)) (.ref p) :=
 Rp.lst_.mpr ⟨p,vs,rfl,hB,p6,by rw[EK hp];exact r⟩
end
inductive Fl where
 | sh|tn|fr|nw
def Fl.isNw:Fl→Bool
 | .nw=>true
 | _=>false
def Fl.isFr:Fl→Bool
 | .nw=>true
 | .fr=>true
 | _=>false
abbrev Dv:=Fl×Dt
def nrm(f:Fl)(d:Dt):Dv:=(if d.flat then .nw else f,d)
structure Ky where
 K:PySem.W.Frag
 H₀:Hp
abbrev Cx.ky(X:Cx):Ky:=⟨X.K,X.H₀⟩
def RpF(X:Ky)(H:Hp)(f:Fl)(d:Dt)(H':Hp)(v:V):Prop:=match f with
 | .sh=>Rp X.K emp d H' v
 | .tn=>Rp X.K emp d H' v∧(∃ ds,d = .lst ds)∧∀ a,v = .ref a→H a=none
 | .fr=>Rp X.K X.H₀ d H' v
 | .nw=>Rp X.K H d H' v
section
variable {X:Ky}{H H' H1:Hp}{f:Fl}{d:Dt}{v:V}
theorem RpF.sh(h:RpF X H f d H' v):Rp X.K emp d H' v:=by
 cases f with
 | sh=>exact h
 | tn=>exact h.1
 | fr=>exact Rp.anti Same.emp d h
 | nw=>exact Rp.anti Same.emp d h
theorem RpF.fr(h0:Same X.H₀ H)(e:f.isFr=true)(h:RpF X H f d H' v):Rp X.K X.H₀ d H' v:=by
 cases f with
 | sh=>cases e
 | tn=>cases e
 | fr=>exact h
 | nw=>exact Rp.anti h0 d h
theorem RpF.mono(h:RpF X H f d H' v)(s:Same H' H1):RpF X H f d H1 v:=by
 cases f with
 | sh=>exact Rp.mono d s h
 | tn=>exact⟨Rp.mono d s h.1,h.2⟩
 | fr=>exact Rp.mono d s h
 | nw=>exact Rp.mono d s h
theorem RpF.early(s:Same H H1)(h:RpF X H1 f d H' v):RpF X H f d H' v:=by
 cases f with
 | sh=>exact h
 | tn=>exact⟨h.1,h.2.1,fun a e=>s.free (h.2.2 a e)⟩
 | fr=>exact h
 | nw=>exact Rp.anti s d h
theorem RpF.nrm(h:RpF X H f d H' v):RpF X H (nrm f d).1 d H' v:=by
 unfold L2.nrm
 by_cases q:d.flat=true
 · rw[if_pos q];exact Rp.flat d q h.sh
 · rw[if_neg q];exact h
theorem RpF.scal(q:d.flat=true)(h:Rp X.K emp d H' v):RpF X H .nw d H' v:=Rp.flat d q h
end
inductive Cell where
 | no|sh (f:Bool) (d:Dt)|ow (f:Bool) (ds:List Dt)|ex
abbrev Rho:=List Cell
def flOf(f:Bool):Fl:=if f then .fr else .sh
def Cell.val:Cell→Option Dv
 | .no=>none
 | .ex=>none
 | .sh f d=>some (nrm (flOf f) d)
 | .ow f ds=>some (flOf f,.lst ds)
def CS(ρ:Rho)(i:Nat):Option Dv:=(ρ[i]?).bind Cell.val
def bsOf(X:Ky)(f:Bool):Hp:=if f then X.H₀ else emp
def Kp(K:PySem.W.Frag)(a:Addr)(h:Heap):Prop:=∃ oe C,h.get? a=some oe∧oe.cls = .ref C∧PySem.W.kitCls K (.ref C) (.type "ValueError")=some true
def RpC(X:Ky)(H:Hp):Cell→Option V→Prop
 | .no,_=>True
 | .ex,o=>∃ a φ,o=some (.ref a)∧H a=some (.ext φ)∧∀ h,φ h→Kp X.K a h
 | .sh f d,o=>∃ v,o=some v∧Rp X.K (bsOf X f) d H v
 | .ow f ds,o=>∃ v,o=some v∧Rp X.K (bsOf X f) (.lst ds) H v
structure RepS(X:Ky)(H:Hp)(ρ:Rho)(σ:St):Prop where
 len:ρ.length=σ.length
 base:Same X.H₀ H
 at_:∀(i:Nat) (c:Cell),ρ[i]?=some c→∃ o,σ[i]?=some o∧RpC X H c o
section
variable {X:Ky}{H H':Hp}{ρ:Rho}{σ:St}
theorem RpC.mono(e:Same H H'){c:Cell}{o:Option V}(h:RpC X H c o):RpC X H' c o:=by
 cases c with
 | no=>trivial
 | ex=>obtain⟨a,φ,q,r,z⟩:=h;exact⟨a,φ,q,e _ _ r,z⟩
 | sh f d=>obtain⟨v,q,r⟩:=h;exact⟨v,q,Rp.mono d e r⟩
 | ow f ds=>obtain⟨v,q,r⟩:=h;exact⟨v,q,Rp.mono _ e r⟩
theorem RepS.mono(h:RepS X H ρ σ)(e:Same H H'):RepS X H' ρ σ:=⟨h.len,h.base.trans e,fun i c q=>by obtain⟨o,q1,q2⟩:=h.at_ i c q;exact⟨o,q1,q2.mono e⟩⟩
theorem Kq{f:Bool}{d:Dt}{v:V}(h:Rp X.K (bsOf X f) d H v):RpF X H (flOf f) d H v:=by
 cases f with
 | false=>exact h
 | true=>exact h
theorem RepS.val(h:RepS X H ρ σ){i:Nat}{f:Fl}{d:Dt}(e:CS ρ i=some (f,d)):∃ v,σ[i]?=some (some v)∧RpF X H f d H v:=by
 unfold CS at e
 cases q:ρ[i]? with
 | none=>rw[q]at e;cases e
 | some c =>
  rw[q]at e
  obtain⟨o,q1,q2⟩:=h.at_ i c q
  cases c with
  | no=>cases e
  | ex=>cases e
  | sh f' d' =>
   obtain⟨v,rfl,r⟩:=q2
   have e:nrm (flOf f') d'=(f,d):=Option.some.inj e
   have r':=(Kq r).nrm
   refine⟨v,q1,?_⟩
   have e1:d'=d:=congrArg Prod.snd e
   subst e1
   rw[e]at r'
   exact r'
  | ow f' ds =>
   obtain⟨v,rfl,r⟩:=q2
   cases e
   exact⟨v,q1,Kq r⟩
end
end L2

end
section
set_option Elab.async false
set_option linter.all false
set_option maxRecDepth 100000
namespace L2
open PySem PySem.Spec PyProof.Rows
theorem PE.imp{X:Cx}{e:Expr}{t t':TE}(h:PE X e t)(q:∀ σ H Q,t' σ H Q→t σ H Q):PE X e t':=fun pins s σ H Q I z=>h pins s σ H Q I (q σ H Q z)
theorem PT.imp{X:Cx}{e:Expr}{t t':TT}(h:PT X e t)(q:∀ σ H Q,t' σ H Q→t σ H Q):PT X e t':=fun pins s σ H Q I z=>h pins s σ H Q I (q σ H Q z)
theorem PW.imp{X:Cx}{e:Expr}{t t':TT}(h:PW X e t)(q:∀ σ H Q,t' σ H Q→t σ H Q):PW X e t':=fun whole pins s σ H Q I z=>h whole pins s σ H Q I (q σ H Q z)
theorem PA.imp{X:Cx}{es:List Expr}{t t':TA}(h:PA X es t)(q:∀ σ H Q,t' σ H Q→t σ H Q):PA X es t':=fun pos pins s σ H Q I z=>h pos pins s σ H Q I (q σ H Q z)
theorem f8{α β:Type}{o:Option α}{f:α→Option β}{b:β}(h:o.bind f=some b):∃ a,o=some a∧f a=some b:=by
 cases o with
 | none=>cases h
 | some a=>exact⟨a,rfl,h⟩
section
variable {X:Ky}{H H':Hp}
theorem RpF.i_{i:Int}:RpF X H .nw (.int i) H' (.int i):=(Rp.int_ (K:=X.K) (B:=H) (H:=H')).mpr rfl
theorem RpF.b_{i:Bool}:RpF X H .nw (.bl i) H' (.bl i):=(Rp.bl_ (K:=X.K) (B:=H) (H:=H')).mpr rfl
theorem RpF.s_{i:Str}:RpF X H .nw (.str i) H' (.str i):=(Rp.str_ (K:=X.K) (B:=H) (H:=H')).mpr rfl
theorem RpF.n_:RpF X H .nw .non H' .non:=(Rp.non_ (K:=X.K) (B:=H) (H:=H')).mpr rfl
end
abbrev FE:=Rho→Option Dv
abbrev FT:=Rho→Option Bool
abbrev FA:=Rho→Option (List Dv)
def upK(Y:Ky)(F:FE):TE:=fun σ H Q=>∃ ρ f d,RepS Y H ρ σ∧F ρ=some (f,d)∧∀ v H',Same H H'→RpF Y H f d H' v→Q v H'
abbrev upF(X:Cx)(F:FE):TE:=upK X.ky F
def PF(X:Cx)(e:Expr)(F:FE):Prop:=PE X e (upF X F)
def upBK(Y:Ky)(F:FT):TT:=fun σ H Q=>∃ ρ b,RepS Y H ρ σ∧F ρ=some b∧∀ H',Same H H'→Q b H'
abbrev upB(X:Cx)(F:FT):TT:=upBK X.ky F
def PFT(X:Cx)(e:Expr)(F:FT):Prop:=PT X e (upB X F)
def PFW(X:Cx)(e:Expr)(F:FT):Prop:=PW X e (upB X F)
theorem PFW.pt{X:Cx}{e:Expr}{F:FT}(h:PFW X e F):PFT X e F:=PW.pt h
section
variable {X:Cx}{a b c e:Expr}{Fa Fb Fc:FE}{pos:Pos}
def fN(i:Nat):FE:=fun ρ=>CS ρ i
theorem f9(i:Nat){x:Str}{pos:Pos}(hN:X.N[i]?=some x:=by rfl)(hv:Vis X.env.scope x:=by first|exact Or.inl rfl|exact Or.inr (Or.inl rfl)|exact Or.inr (Or.inr rfl))(hd:(x==("__debug__" : Str))=false:=by decide)
  (hcd:(x==("__classdict__" : Str))=false:=by decide):PF X (.Name x pos) (fN i) :=
 (Bn hN hv hd hcd).imp fun σ H Q ⟨ρ,f,d,rs,e,k⟩=>by
  obtain⟨v,e1,e2⟩:=rs.val e
  exact⟨v,e1,k v H (Same.refl H) e2⟩
def fC(d:Dt):FE:=fun _=>some (.nw,d)
theorem i4{i:Int}{j:Nat}:PF X (.Constant (.int i) j pos) (fC (.int i)):=pe_int.imp (by rintro σ H Q ⟨ρ,f,d,rs,e,k⟩;cases e;exact k _ H (Same.refl H) RpF.i_)
theorem p_bl{v:Bool}{j:Nat}:PF X (.Constant (.bool v) j pos) (fC (.bl v)):=pe_bl.imp (by rintro σ H Q ⟨ρ,f,d,rs,e,k⟩;cases e;exact k _ H (Same.refl H) RpF.b_)
theorem AB{j:Nat}:PF X (.Constant .none j pos) (fC .non):=pe_non.imp (by rintro σ H Q ⟨ρ,f,d,rs,e,k⟩;cases e;exact k _ H (Same.refl H) RpF.n_)
theorem j0{x:Str}{j:Nat}:PF X (.Constant (.str x) j pos) (fC (.str x)):=pe_str.imp (by rintro σ H Q ⟨ρ,f,d,rs,e,k⟩;cases e;exact k _ H (Same.refl H) RpF.s_)
theorem DL{x:Str}{i:Int}{t:Tok}(hg:Gl X x)(hm:X.mg x=some (.int i t))(hd:(x==("__debug__" : Str))=false:=by decide):PF X (.Name x pos) (fC (.int i)) :=
 (ND (v:=V.int i) hg hm ⟨t,rfl⟩ hd).imp (by rintro σ H Q ⟨ρ,f,d,rs,e,k⟩;cases e;exact k _ H (Same.refl H) RpF.i_)
abbrev FO:=Dt→Dt→Option Dv
def OpF(X:Cx)(f:Value→Value→Sem Value)(r:FO):Prop :=
 OpR X f (fun x y H Q=>∃ dx dy f d,Rp X.K emp dx H x∧Rp X.K emp dy H y∧r dx dy=some (f,d)∧∀ v H',Same H H'→RpF X.ky H f d H' v→Q v H')
def fOp(r:FO)(Fa Fb:FE):FE:=fun ρ=>(Fa ρ).bind fun x=>(Fb ρ).bind fun y=>r x.2 y.2
theorem Gk{r:FO}{σ:St}{H:Hp}{Q:VK}(h:upF X (fOp r Fa Fb) σ H Q):
  upF X Fa σ H fun x H1=>upF X Fb σ H1 fun y H2=>∃ dx dy f d,Rp X.K emp dx H2 x∧Rp X.K emp dy H2 y∧r dx dy=some (f,d)∧∀ v H',Same H2 H'→RpF X.ky H2 f d H' v→Q v H':=by
 obtain⟨ρ,f,d,rs,e,k⟩:=h
 obtain⟨⟨fa,da⟩,ea,e⟩:=f8 e
 obtain⟨⟨fb,db⟩,eb,e⟩:=f8 e
 exact⟨ρ,fa,da,rs,ea,fun v H1 s1 r1=>⟨ρ,fb,db,rs.mono s1,eb,fun u H2 s2 r2=>⟨da,db,f,d,Rp.mono _ s2 r1.sh,r2.sh,e,fun w H' s' r'=>k w H' (s1.trans (s2.trans s')) (r'.early (s1.trans s2))⟩⟩⟩
theorem p_op{op:Operator}{r:FO}(ho:OpF X (binaryOp op) r)(ha:PF X a Fa)(hb:PF X b Fb):PF X (.BinOp a op b pos) (fOp r Fa Fb):=(pe_op ho ha hb).imp fun σ H Q h=>Gk h
theorem p_cmp{op:CmpOp}{r:FO}(ho:OpF X (compareOp op) r)(ha:PF X a Fa)(hb:PF X b Fb)(hm:behindInMarks op b=false):PF X (.Compare a [op] [b] pos) (fOp r Fa Fb):=(NK ho ha hb hm).imp fun σ H Q h=>Gk h
def rII(C:Int→Int→Bool)(g:Int→Int→Dt):FO
 | .int i,.int j=>if C i j then some (.nw,g i j) else none
 | _,_=>none
theorem DM{f:Value→Value→Sem Value}{P:Int→Int→Prop}{C:Int→Int→Bool}{g:Int→Int→V}{g':Int→Int→Dt}(ho:OpR X f (rI P g))(hP:∀ i j,C i j=true→P i j)(hf:∀ i j,(g' i j).flat=true)(hg:∀ i j H,Rp X.K emp (g' i j) H (g i j)):OpF X f (rII C g') :=
 fun pins s σ H x y v u Q I r1 r2 ⟨d1,d2,f,d,q1,q2,e,k⟩=>by
  unfold rII at e
  split at e
  · rename_i i j
    split at e
    · rename_i hc
      cases e
      rw[Rp.int_]at q1 q2
      exact ho pins s σ H x y v u Q I r1 r2 ⟨i,j,q1,q2,hP i j hc,k _ H (Same.refl H) (RpF.scal (hf i j) (hg i j H))⟩
    · cases e
  · cases e
theorem Y5{f:Value→Value→Sem Value}{g:Int→Int→V}{g':Int→Int→Dt}(ho:OpR X f (rI0 g))(hf:∀ i j,(g' i j).flat=true)(hg:∀ i j H,Rp X.K emp (g' i j) H (g i j)):OpF X f (rII (fun _ _=>true) g') :=
 fun pins s σ H x y v u Q I r1 r2 ⟨d1,d2,f,d,q1,q2,e,k⟩=>by
  unfold rII at e
  split at e
  · rename_i i j
    rw[if_pos rfl]at e
    cases e
    rw[Rp.int_]at q1 q2
    exact ho pins s σ H x y v u Q I r1 r2 ⟨i,j,q1,q2,k _ H (Same.refl H) (RpF.scal (hf i j) (hg i j H))⟩
  · cases e
def OpF.or{f:Value→Value→Sem Value}{r r':FO}(h:OpF X f r)(h':OpF X f r'):OpF X f (fun x y=>(r x y).orElse fun _=>r' x y) :=
 fun pins s σ H x y v u Q I r1 r2 hZ=>hZ.elim fun d1 hZ=>hZ.elim fun d2 hZ=>hZ.elim fun f hZ=>hZ.elim fun d hZ=>hZ.elim fun q1 hZ=>hZ.elim fun q2 hZ=>hZ.elim fun e k=>by
  replace e:((r d1 d2).orElse fun _=>r' d1 d2)=some (f,d):=e
  cases q:r d1 d2 with
  | some z =>
   rw[q]at e
   cases e
   exact h pins s σ H x y v u Q I r1 r2 ⟨d1,d2,_,_,q1,q2,q,k⟩
  | none =>
   rw[q]at e
   exact h' pins s σ H x y v u Q I r1 r2 ⟨d1,d2,_,_,q1,q2,e,k⟩
def Y6(i j:Int):Bool:=decide (Builtin.Int.intBits i+Builtin.Int.intBits j≤134217728)||(decide (i.natAbs<2 ^ 64)||decide (j.natAbs<2 ^ 64))
def J2(_ j:Int):Bool:=decide (j≠0)&&decide (j.natAbs.log2<9000)
def B0(_ j:Int):Bool:=decide (j≠0)
def Y7(i j:Int):Bool:=decide (0≤j)&&decide (j≤1000000)&&decide (i.natAbs<2 ^ 64)
theorem NX:OpR X (binaryOp .Mult) (rI (fun i j=>Y6 i j=true) fun i j => .int (i*j)):=opI fun i j _ _ _ _ _ hc q=>by
 refine mul_int q ?_
 unfold Y6 at hc
 rw[Bool.or_eq_true,Bool.or_eq_true]at hc
 rcases hc with hc|hc|hc
 · exact IntMulOk.of_le (Nat.le_refl _) (Nat.le_refl _) (of_decide_eq_true hc)
 · have:=of_decide_eq_true hc
   exact CMul.ok (.inl ⟨by omega,by omega⟩)
 · have:=of_decide_eq_true hc
   exact CMul.ok (.inr ⟨by omega,by omega⟩)
def Kr:FO:=rII (fun _ _=>true) fun i j => .int (i+j)
def Ks:FO:=rII (fun _ _=>true) fun i j => .int (i-j)
def Y8:FO:=rII Y6 fun i j => .int (i*j)
def Bz:FO:=rII J2 fun i j => .int (i.fdiv j)
def z0:FO:=rII B0 fun i j => .int (i.fmod j)
def BA:FO:=rII Y7 fun i j => .int (i ^ j.toNat)
def opLt:FO:=rII (fun _ _=>true) fun i j => .bl (decide (i<j))
def opLe:FO:=rII (fun _ _=>true) fun i j => .bl (decide (i≤j))
def opGt:FO:=rII (fun _ _=>true) fun i j => .bl (decide (j<i))
def opGe:FO:=rII (fun _ _=>true) fun i j => .bl (decide (j≤i))
theorem o_addI:OpF X (binaryOp .Add) Kr:=Y5 op_add (fun _ _=>rfl) fun _ _ _=>Rp.int_.mpr rfl
theorem o_sub:OpF X (binaryOp .Sub) Ks:=Y5 op_sub (fun _ _=>rfl) fun _ _ _=>Rp.int_.mpr rfl
theorem Kt:OpF X (binaryOp .Mult) Y8:=DM NX (fun _ _ h=>h) (fun _ _=>rfl) fun _ _ _=>Rp.int_.mpr rfl
theorem DN:OpF X (binaryOp .FloorDiv) Bz:=DM Kn (fun i j h=>by unfold J2 at h;rw[Bool.and_eq_true]at h;exact⟨of_decide_eq_true h.1,of_decide_eq_true h.2⟩) (fun _ _=>rfl) fun _ _ _=>Rp.int_.mpr rfl
theorem B9:OpF X (binaryOp .Mod) z0:=DM NJ (fun i j h=>of_decide_eq_true h) (fun _ _=>rfl) fun _ _ _=>Rp.int_.mpr rfl
theorem Ku:OpF X (binaryOp .Pow) BA:=DM op_pow (fun i j h=>by unfold Y7 at h;rw[Bool.and_eq_true,Bool.and_eq_true]at h;exact⟨of_decide_eq_true h.1.1,of_decide_eq_true h.1.2,of_decide_eq_true h.2⟩) (fun _ _=>rfl) fun _ _ _=>Rp.int_.mpr rfl
theorem o_lt:OpF X (compareOp .Lt) opLt:=Y5 op_lt (fun _ _=>rfl) fun _ _ _=>Rp.bl_.mpr rfl
theorem o_le:OpF X (compareOp .LtE) opLe:=Y5 op_le (fun _ _=>rfl) fun _ _ _=>Rp.bl_.mpr rfl
theorem o_gt:OpF X (compareOp .Gt) opGt:=Y5 op_gt (fun _ _=>rfl) fun _ _ _=>Rp.bl_.mpr rfl
def lfl(ds:List Dt):Fl:=if p9 ds then .nw else .tn
def newL(ds:List Dt):Dv:=(lfl ds,.lst ds)
theorem Y9{X:Ky}{H:Hp}{ds:List Dt}{vs:List V}{p:Addr}(hp:H p=none)(r:Rps X.K emp ds H vs):RpF X H (lfl ds) (.lst ds) (upd H p (.lst vs)) (.ref p):=by
 unfold lfl
 by_cases q:p9 ds=true
 · rw[if_pos q];exact Rp.new hp hp (Rps.flat ds q r)
 · rw[if_neg q];exact⟨Rp.new hp rfl r,⟨ds,rfl⟩,fun a e=>by cases e;exact hp⟩
def Kv:FO
 | .lst xs,.lst ys=>if xs.length+ys.length≤1000000 then some (newL (xs++ys)) else none
 | _,_=>none
theorem Rp.items{K:PySem.W.Frag}{B H:Hp}{ds:List Dt}{v:V}(h:Rp K B (.lst ds) H v):∃ a vs,v = .ref a∧B a=none∧H a=some (.lst vs)∧Rps K B ds H vs:=by
 obtain⟨a,vs,e,h0,h1,h2⟩:=Rp.lst_.mp h
 exact⟨a,vs,e,h0,h1,Rps.mono _ i9 h2⟩
theorem o_cat:OpF X (binaryOp .Add) Kv:=by
 rintro pins s σ H x y v u Q I r1 r2 ⟨d1,d2,f,d,q1,q2,e,k⟩
 unfold Kv at e
 split at e
 · rename_i xs ys
   split at e
   · rename_i hc
     cases e
     obtain⟨a,vs,rfl,_,ha,ra⟩:=q1.items
     obtain⟨b,ws,rfl,_,hb,rb⟩:=q2.items
     exact op_cat pins s σ H _ _ v u Q I r1 r2 ⟨a,b,vs,ws,rfl,rfl,ha,hb,Nat.le_trans (by rw[ra.length,rb.length];exact hc) (by decide),fun p hp=>k _ _ (w8 hp) (Y9 hp (ra.append rb))⟩
   · cases e
 · cases e
def v1:FO:=fun x y=>(Kr x y).orElse fun _=>Kv x y
theorem F7:OpF X (binaryOp .Add) v1:=o_addI.or o_cat
def truD:Dt→Option Bool
 | .non=>some false
 | .bl b=>some b
 | .int i=>some (i != 0)
 | .lst ds=>some (!ds.isEmpty)
 | .tup ds=>some (!ds.isEmpty)
 | _=>none
theorem Rps.isEmpty{K:PySem.W.Frag}{B H:Hp}{ds:List Dt}{vs:List V}(h:Rps K B ds H vs):(!vs.isEmpty)=!ds.isEmpty:=by
 have:=h.length
 cases ds<;>cases vs<;>first|rfl|(simp at this)
theorem NY{H:Hp}{d:Dt}{v:V}{k:Bool}(r:Rp X.K emp d H v)(e:truD d=some k):TruV X.K v H k:=by
 cases d with
 | non=>rw[Rp.non_.mp r];cases e;rfl
 | bl b=>rw[Rp.bl_.mp r];cases e;rfl
 | int i=>rw[Rp.int_.mp r];cases e;rfl
 | str x=>cases e
 | dic=>cases e
 | scr x=>cases e
 | lst ds =>
  obtain⟨p,vs,rfl,_,h1,h2⟩:=r.items
  cases e
  exact .inl ⟨vs,SqL.of h1,h2.isEmpty.symm⟩
 | tup ds =>
  obtain⟨p,vs,rfl,h1,h2⟩:=Rp.tup_.mp r
  cases e
  exact .inr (.inl ⟨vs,h1,h2.isEmpty.symm⟩)
def blD:Dt→Option Bool
 | .bl b=>some b
 | _=>none
def i6(F:FE):FT:=fun ρ=>(F ρ).bind fun x=>blD x.2
def fTru(F:FE):FT:=fun ρ=>(F ρ).bind fun x=>truD x.2
theorem t_cmp{op:CmpOp}{r:FO}(ho:OpF X (compareOp op) r)(ha:PF X a Fa)(hb:PF X b Fb)(hm:behindInMarks op b=false):PFT X (.Compare a [op] [b] pos) (i6 (fOp r Fa Fb)) :=
 (NL ho ha hb hm).imp fun σ H Q hZ=>hZ.elim fun ρ hZ=>hZ.elim fun k hZ=>hZ.elim fun rs hZ=>hZ.elim fun e q=>by
  obtain⟨⟨f,d⟩,e1,e2⟩:=f8 e
  refine Gk ⟨ρ,f,d,rs,e1,fun v H' s r=>?_⟩
  cases d<;>first|cases e2|skip
  exact⟨k,Rp.bl_.mp r.sh,q H' s⟩
theorem F8(ha:PF X a Fa)(he:∀ whole,isTrue a X.env whole=(do let v ←whole;standAt a.pos;holding [v] (truthy v))):PFT X a (fTru Fa) :=
 (Kd ha he).imp fun σ H Q hZ=>hZ.elim fun ρ hZ=>hZ.elim fun k hZ=>hZ.elim fun rs hZ=>hZ.elim fun e q=>by
  obtain⟨⟨f,d⟩,e1,e2⟩:=f8 e
  exact⟨ρ,f,d,rs,e1,fun v H' s r=>⟨k,NY r.sh e2,q H' s⟩⟩
def fNot(F:FT):FT:=fun ρ=>(F ρ).map not
theorem P6{F:FT}(ha:PFT X a F):PFT X (.UnaryOp .Not a pos) (fNot F):=(pt_not ha).imp fun σ H Q hZ=>hZ.elim fun ρ hZ=>hZ.elim fun k hZ=>hZ.elim fun rs hZ=>hZ.elim fun e q=>by
 unfold fNot at e
 cases h:F ρ with
 | none=>rw[h]at e;cases e
 | some b=>rw[h]at e;cases e;exact⟨ρ,b,rs,h,q⟩
def fAnd(F G:FT):FT:=fun ρ=>(F ρ).bind fun b=>if b then G ρ else some false
def fOr(F G:FT):FT:=fun ρ=>(F ρ).bind fun b=>if b then some true else G ρ
theorem Gm{F:FT}(ha:PFT X a F):PFW X (.BoolOp .And [a] pos) F:=NF ha
theorem BB{F:FT}(ha:PFT X a F):PFW X (.BoolOp .Or [a] pos) F:=pw_or1 ha
theorem Kw{rest:List Expr}{F G:FT}(ha:PFT X a F)(hb:PFW X (.BoolOp .And (b::rest) pos) G):PFW X (.BoolOp .And (a::b::rest) pos) (fAnd F G) :=
 (pw_and ha hb).imp fun σ H Q hZ=>hZ.elim fun ρ hZ=>hZ.elim fun k hZ=>hZ.elim fun rs hZ=>hZ.elim fun e q=>by
  obtain⟨z,e1,e2⟩:=f8 e
  refine⟨ρ,z,rs,e1,fun H' s=>?_⟩
  dsimp only
  cases z with
  | true=>rw[if_pos rfl]at e2 ⊢;exact⟨ρ,k,rs.mono s,e2,fun H'' s'=>q H'' (s.trans s')⟩
  | false=>rw[if_neg Bool.false_ne_true]at e2 ⊢;cases e2;exact q H' s
theorem w_or{rest:List Expr}{F G:FT}(ha:PFT X a F)(hb:PFW X (.BoolOp .Or (b::rest) pos) G):PFW X (.BoolOp .Or (a::b::rest) pos) (fOr F G) :=
 (pw_or ha hb).imp fun σ H Q hZ=>hZ.elim fun ρ hZ=>hZ.elim fun k hZ=>hZ.elim fun rs hZ=>hZ.elim fun e q=>by
  obtain⟨z,e1,e2⟩:=f8 e
  refine⟨ρ,z,rs,e1,fun H' s=>?_⟩
  dsimp only
  cases z with
  | true=>rw[if_pos rfl]at e2 ⊢;cases e2;exact q H' s
  | false=>rw[if_neg Bool.false_ne_true]at e2 ⊢;exact⟨ρ,k,rs.mono s,e2,fun H'' s'=>q H'' (s.trans s')⟩
def vAnd(F G:FE):FE:=fun ρ=>(i6 F ρ).bind fun b=>if b then G ρ else some (.nw,.bl false)
def vOr(F G:FE):FE:=fun ρ=>(i6 F ρ).bind fun b=>if b then some (.nw,.bl true) else G ρ
def vNot(F:FE):FE:=fun ρ=>(i6 F ρ).map fun b=>(.nw,.bl (!b))
theorem Kx{op}(h:PF X a Fa):PF X (.BoolOp op [a] pos) Fa:=pe_one h
theorem Kz{rest:List Expr}(ha:PF X a Fa)(hb:PF X (.BoolOp .And (b::rest) pos) Fb):PF X (.BoolOp .And (a::b::rest) pos) (vAnd Fa Fb) :=
 (pe_and ha hb).imp fun σ H Q hZ=>hZ.elim fun ρ hZ=>hZ.elim fun f hZ=>hZ.elim fun d hZ=>hZ.elim fun rs hZ=>hZ.elim fun e k=>by
  obtain⟨z,e1,e2⟩:=f8 e
  obtain⟨⟨f1,d1⟩,e3,e4⟩:=f8 e1
  refine⟨ρ,f1,d1,rs,e3,fun v H' s r=>?_⟩
  cases d1<;>first|cases e4|skip
  refine⟨z,Rp.bl_.mp r.sh,?_⟩
  cases z with
  | true=>rw[if_pos rfl]at e2 ⊢;exact⟨ρ,f,d,rs.mono s,e2,fun v H'' s' r=>k v H'' (s.trans s') (r.early s)⟩
  | false=>rw[if_neg Bool.false_ne_true]at e2 ⊢;cases e2;exact k _ H' s RpF.b_
theorem p_not(ha:PF X a Fa):PF X (.UnaryOp .Not a pos) (vNot Fa):=(pe_not ha).imp fun σ H Q hZ=>hZ.elim fun ρ hZ=>hZ.elim fun f hZ=>hZ.elim fun d hZ=>hZ.elim fun rs hZ=>hZ.elim fun e k=>by
 unfold vNot at e
 cases h:i6 Fa ρ with
 | none=>rw[h]at e;cases e
 | some z =>
  rw[h]at e
  cases e
  obtain⟨⟨f1,d1⟩,e3,e4⟩:=f8 h
  refine⟨ρ,f1,d1,rs,e3,fun v H' s r=>?_⟩
  cases d1<;>first|cases e4|skip
  exact⟨z,Rp.bl_.mp r.sh,k _ H' s RpF.b_⟩
def fIf(F:FT)(Fa Fb:FE):FE:=fun ρ=>(F ρ).bind fun b=>if b then Fa ρ else Fb ρ
theorem p_if{F:FT}(hc:PFT X c F)(ha:PF X a Fa)(hb:PF X b Fb):PF X (.IfExp c a b pos) (fIf F Fa Fb) :=
 (JU hc ha hb).imp fun σ H Q hZ=>hZ.elim fun ρ hZ=>hZ.elim fun f hZ=>hZ.elim fun d hZ=>hZ.elim fun rs hZ=>hZ.elim fun e k=>by
  obtain⟨z,e1,e2⟩:=f8 e
  refine⟨ρ,z,rs,e1,fun H' s=>?_⟩
  dsimp only
  cases z with
  | true=>rw[if_pos rfl]at e2 ⊢;exact⟨ρ,f,d,rs.mono s,e2,fun v H'' s' r=>k v H'' (s.trans s') (r.early s)⟩
  | false=>rw[if_neg Bool.false_ne_true]at e2 ⊢;exact⟨ρ,f,d,rs.mono s,e2,fun v H'' s' r=>k v H'' (s.trans s') (r.early s)⟩
def fNeg(F:FE):FE:=fun ρ=>(F ρ).bind fun x=>match x.2 with|.int i=>some (.nw,.int (-i))|_=>none
theorem p_neg(ha:PF X a Fa):PF X (.UnaryOp .USub a pos) (fNeg Fa):=(pe_un un_neg ha).imp fun σ H Q ⟨ρ,f,d,rs,e,k⟩=>by
 obtain⟨⟨f1,d1⟩,e1,e2⟩:=f8 e
 refine⟨ρ,f1,d1,rs,e1,fun v H' s r=>?_⟩
 cases d1<;>first|cases e2|skip
 rename_i i
 exact⟨i,Rp.int_.mp r.sh,k _ H' s RpF.i_⟩
def C8(r r':FO)(Fa Fb Fc:FE):FE:=fun ρ=>(Fa ρ).bind fun x=>(Fb ρ).bind fun y=>(r x.2 y.2).bind fun z=>(blD z.2).bind fun k=>if k then(Fc ρ).bind fun w=>r' y.2 w.2 else some (.nw,.bl false)
theorem CT{r r':FO}{σ:St}{H:Hp}{Q:VK}(h:upF X (C8 r r' Fa Fb Fc) σ H Q):
  Gd (fun x y H Q=>∃ dx dy f d,Rp X.K emp dx H x∧Rp X.K emp dy H y∧r dx dy=some (f,d)∧∀ v H',Same H H'→RpF X.ky H f d H' v→Q v H') (fun x y H Q=>∃ dx dy f d,Rp X.K emp dx H x∧Rp X.K emp dy H y∧r' dx dy=some (f,d)∧∀ v H',Same H H'→RpF X.ky H f d H' v→Q v H')
   (upF X Fa) (upF X Fb) (upF X Fc) σ H Q:=by
 obtain⟨ρ,f,d,rs,e0,k⟩:=h
 obtain⟨⟨fa,da⟩,ea,e1⟩:=f8 e0
 obtain⟨⟨fb,db⟩,eb,e2⟩:=f8 e1
 obtain⟨⟨fz,dz⟩,ez,e3⟩:=f8 e2
 obtain⟨z,ek,e⟩:=f8 e3
 clear e3 e2 e1 e0
 refine⟨ρ,fa,da,rs,ea,fun v H1 s1 r1=>⟨ρ,fb,db,rs.mono s1,eb,fun u H2 s2 r2=>⟨da,db,fz,dz,Rp.mono _ s2 r1.sh,r2.sh,ez,fun w H3 s3 r3=>?_⟩⟩⟩
 cases dz<;>first|cases ek|skip
 refine⟨z,Rp.bl_.mp r3.sh,?_⟩
 cases z with
 | true =>
  rw[if_pos rfl]at e ⊢
  obtain⟨⟨fc,dc⟩,ec,e⟩:=f8 e
  exact⟨ρ,fc,dc,rs.mono (s1.trans (s2.trans s3)),ec,fun w' H4 s4 r4=>⟨db,dc,f,d,Rp.mono _ (s3.trans s4) r2.sh,r4.sh,e,fun y H' s' r'=>k y H' (s1.trans (s2.trans (s3.trans (s4.trans s')))) (r'.early (s1.trans (s2.trans (s3.trans s4))))⟩⟩
 | false =>
  rw[if_neg Bool.false_ne_true]at e ⊢
  cases e
  exact k _ _ (s1.trans (s2.trans s3)) RpF.b_
theorem NZ{op op':CmpOp}{r r':FO}(ho:OpF X (compareOp op) r)(ho':OpF X (compareOp op') r')(ha:PF X a Fa)(hb:PF X b Fb)(hc:PF X c Fc)
 (hm:lastMarks [op,op'] [b,c]=false:=by with_unfolding_all rfl):PF X (.Compare a [op,op'] [b,c] pos) (C8 r r' Fa Fb Fc):=(Kb ho ho' ha hb hc hm).imp fun σ H Q h=>CT h
theorem Oa{op op':CmpOp}{r r':FO}(ho:OpF X (compareOp op) r)(ho':OpF X (compareOp op') r')(ha:PF X a Fa)(hb:PF X b Fb)(hc:PF X c Fc)
 (hm:lastMarks [op,op'] [b,c]=false:=by with_unfolding_all rfl):PFT X (.Compare a [op,op'] [b,c] pos) (i6 (C8 r r' Fa Fb Fc)):=(Kc ho ho' ha hb hc hm).imp fun σ H Q hZ=>hZ.elim fun ρ hZ=>hZ.elim fun k hZ=>hZ.elim fun rs hZ=>hZ.elim fun e q=>by
 obtain⟨⟨f,d⟩,e1,e2⟩:=f8 e
 refine CT ⟨ρ,f,d,rs,e1,fun v H' s r=>?_⟩
 cases d<;>first|cases e2|skip
 exact⟨k,Rp.bl_.mp r.sh,q H' s⟩
def isN:Dt→Bool
 | .non=>true
 | _=>false
def M2:FO:=fun x y=>match y with|.non=>some (.nw,.bl (isN x))|_=>none
theorem isNon{H:Hp}{d:Dt}{v:V}(r:Rp X.K emp d H v):decide (v=V.non)=isN d:=by
 cases d with
 | non=>rw[Rp.non_.mp r];rfl
 | bl b=>rw[Rp.bl_.mp r];rfl
 | int i=>rw[Rp.int_.mp r];rfl
 | str x=>rw[Rp.str_.mp r];rfl
 | lst ds=>obtain⟨a,_,rfl,_⟩:=Rp.lst_.mp r;rfl
 | tup ds=>obtain⟨a,_,rfl,_⟩:=Rp.tup_.mp r;rfl
 | scr ds=>obtain⟨a,rfl,_⟩:=Rp.scr_.mp r;rfl
 | dic=>obtain⟨a,rfl,_⟩:=Rp.dic_.mp r;rfl
theorem o_isN:OpF X (compareOp .Is) M2:=by
 rintro pins s σ H x y v u Q I r1 r2 ⟨d1,d2,f,d,q1,q2,e,k⟩
 unfold M2 at e
 split at e
 · cases e
   refine op_isN pins s σ H x y v u Q I r1 r2 ⟨Rp.non_.mp q2,?_⟩
   rw[isNon q1]
   exact k _ H (Same.refl H) RpF.b_
 · cases e
theorem N8{K:PySem.W.Frag}{B H:Hp}{ds:List Dt}{vs:List V}{i:Int}{d:Dt}(h:Rps K B ds H vs)(e:atI ds i=some d):∃ v,atI vs i=some v∧Rp K B d H v:=by
 unfold atI at e ⊢
 rw[h.length]
 cases q:ixN ds.length i with
 | none=>rw[q]at e;cases e
 | some j =>
  rw[q]at e
  exact h.get e
def Fl.item:Fl→Fl
 | .tn => .sh
 | f=>f
def opAt(x:Dv)(y:Dv):Option Dv:=match x.2,y.2 with
 | .lst ds,.int i=>(atI ds i).map (nrm x.1.item)
 | .tup ds,.int i=>(atI ds i).map (nrm x.1.item)
 | .scr ns,.int i=>(atI ns i).map fun n=>(.nw,.int n)
 | _,_=>none
def fAt(Fa Fb:FE):FE:=fun ρ=>(Fa ρ).bind fun x=>(Fb ρ).bind fun y=>opAt x y
theorem RpF.item{X:Ky}{H H':Hp}{f:Fl}{ds:List Dt}{v:V}{i:Int}{d:Dt}(h:RpF X H f (.lst ds) H' v)(e:atI ds i=some d):∃ a vs w,v = .ref a∧SqL X.K H' a vs∧atI vs i=some w∧RpF X H f.item d H' w:=by
 cases f with
 | sh=>obtain⟨a,vs,rfl,_,h1,h2⟩:=Rp.items h;obtain⟨w,e1,e2⟩:=N8 h2 e;exact⟨a,vs,w,rfl,SqL.of h1,e1,e2⟩
 | tn=>obtain⟨a,vs,rfl,_,h1,h2⟩:=Rp.items h.1;obtain⟨w,e1,e2⟩:=N8 h2 e;exact⟨a,vs,w,rfl,SqL.of h1,e1,e2⟩
 | fr=>obtain⟨a,vs,rfl,_,h1,h2⟩:=Rp.items h;obtain⟨w,e1,e2⟩:=N8 h2 e;exact⟨a,vs,w,rfl,SqL.of h1,e1,e2⟩
 | nw=>obtain⟨a,vs,rfl,_,h1,h2⟩:=Rp.items h;obtain⟨w,e1,e2⟩:=N8 h2 e;exact⟨a,vs,w,rfl,SqL.of h1,e1,e2⟩
theorem RpF.itemT{X:Ky}{H H':Hp}{f:Fl}{ds:List Dt}{v:V}{i:Int}{d:Dt}(h:RpF X H f (.tup ds) H' v)(e:atI ds i=some d):∃ a vs w,v = .ref a∧SqT X.K H' a vs∧atI vs i=some w∧RpF X H f.item d H' w:=by
 cases f with
 | sh=>obtain⟨a,vs,rfl,h1,h2⟩:=Rp.tup_.mp h;obtain⟨w,e1,e2⟩:=N8 h2 e;exact⟨a,vs,w,rfl,h1,e1,e2⟩
 | tn=>obtain⟨⟨_,h2⟩,_⟩:=h.2;cases h2
 | fr=>obtain⟨a,vs,rfl,h1,h2⟩:=Rp.tup_.mp h;obtain⟨w,e1,e2⟩:=N8 h2 e;exact⟨a,vs,w,rfl,h1,e1,e2⟩
 | nw=>obtain⟨a,vs,rfl,h1,h2⟩:=Rp.tup_.mp h;obtain⟨w,e1,e2⟩:=N8 h2 e;exact⟨a,vs,w,rfl,h1,e1,e2⟩
theorem Ob{α β:Type}{g:α→β}{xs:List α}{i:Int}{x:α}(h:atI xs i=some x):atI (xs.map g) i=some (g x):=by
 unfold atI at h ⊢
 rw[List.length_map]
 cases q:ixN xs.length i with
 | none=>rw[q]at h;cases h
 | some j=>rw[q]at h;have h:xs[j]?=some x:=h;show(xs.map g)[j]?=_;rw[List.getElem?_map,h];rfl
theorem p_ix(ha:PF X a Fa)(hb:PF X b Fb)(hs:Bf b):PF X (.Subscript a b pos) (fAt Fa Fb) :=
 (pe_ix ix_seq ha hb hs).imp fun σ H Q hZ=>hZ.elim fun ρ hZ=>hZ.elim fun f hZ=>hZ.elim fun d hZ=>hZ.elim fun rs hZ=>hZ.elim fun e0 k=>by
  obtain⟨⟨fa,da⟩,ea,e1⟩:=f8 e0
  obtain⟨⟨fb,db⟩,eb,e⟩:=f8 e1
  clear e1 e0
  refine⟨ρ,fa,da,rs,ea,fun v H1 s1 r1=>⟨ρ,fb,db,rs.mono s1,eb,fun u H2 s2 r2=>?_⟩⟩
  have r1:=r1.mono s2
  unfold opAt at e
  split at e
  · rename_i ds i ed ei
    cases ed;cases ei
    cases q:atI ds i with
    | none=>rw[q]at e;cases e
    | some d0 =>
     rw[q]at e
     obtain⟨p,vs,w,rfl,h1,h2,h3⟩:=r1.item q
     have e:nrm fa.item d0=(f,d):=Option.some.inj e
     have h4:=h3.nrm
     have e1:d0=d:=congrArg Prod.snd e
     subst e1
     rw[e]at h4
     exact .inl ⟨p,vs,i,w,rfl,Rp.int_.mp r2.sh,h1,h2,k _ _ (s1.trans s2) h4⟩
  · rename_i ds i ed ei
    cases ed;cases ei
    cases q:atI ds i with
    | none=>rw[q]at e;cases e
    | some d0 =>
     rw[q]at e
     obtain⟨p,vs,w,rfl,h1,h2,h3⟩:=r1.itemT q
     have e:nrm fa.item d0=(f,d):=Option.some.inj e
     have h4:=h3.nrm
     have e1:d0=d:=congrArg Prod.snd e
     subst e1
     rw[e]at h4
     exact .inr (.inl ⟨p,vs,i,w,rfl,Rp.int_.mp r2.sh,h1,h2,k _ _ (s1.trans s2) h4⟩)
  · rename_i ns i ed ei
    cases ed;cases ei
    cases q:atI ns i with
    | none=>rw[q]at e;cases e
    | some n =>
     rw[q]at e
     cases e
     obtain⟨p,rfl,_,h1⟩:=Rp.scr_.mp r1.sh
     exact .inl ⟨p,_,i,_,rfl,Rp.int_.mp r2.sh,h1,Ob q,k _ _ (s1.trans s2) RpF.i_⟩
  · cases e
end
end L2

end
section
local macro_rules|`(tactic| omega)=>`(tactic| first|lia|omega +splitDisjunctions)
set_option Elab.async false
set_option linter.all false
set_option maxRecDepth 100000
namespace L2
open PySem PySem.Spec PyProof.Rows
mutual
def Dt.py:Dt→PyData
 | .non => .none
 | .bl b => .bool b
 | .int i => .int i
 | .str x => .str x
 | .lst ds => .list (pys ds)
 | .tup ds => .tuple (pys ds)
 | .scr ns => .list (ns.map .int)
 | .dic => .dict []
def pys:List Dt→List PyData
 | []=>[]
 | d::ds=>d.py::pys ds
end
mutual
def Dt.okN:Nat→Dt→Bool
 | _,.str x=>PyData.strOk x
 | 0,.lst _=>false
 | 0,.tup _=>false
 | n+1,.lst ds=>oksN n ds
 | n+1,.tup ds=>oksN n ds
 | 0,.scr _=>false
 | _,.dic=>false
 | _,_=>true
def oksN:Nat→List Dt→Bool
 | _,[]=>true
 | n,d::ds=>d.okN n&&oksN n ds
end
theorem DO:∀ ns:List Int,PyData.canLayAll0 (ns.map PyData.int)=true∧PyData.depthAll (ns.map PyData.int)=0
 | []=>⟨rfl,rfl⟩
 | n::ns=>⟨by rw[List.map_cons,PyData.canLayAll0,(DO ns).1];rfl,by rw[List.map_cons,PyData.depthAll,(DO ns).2];rfl⟩
mutual
theorem IA:∀(n:Nat) (d:Dt),d.okN n=true→d.py.canLay0=true∧d.py.depth≤n
 | n,.non,_=>⟨rfl,by rw[Dt.py,PyData.depth];exact Nat.zero_le _⟩
 | n,.bl b,_=>⟨rfl,by rw[Dt.py,PyData.depth];exact Nat.zero_le _⟩
 | n,.int i,_=>⟨rfl,by rw[Dt.py,PyData.depth];exact Nat.zero_le _⟩
 | n,.str x,h=>by
  have h:PyData.strOk x=true:=by cases n<;>simpa[Dt.okN]using h
  exact⟨by rw[Dt.py,PyData.canLay0];exact h,by rw[Dt.py,PyData.depth];exact Nat.zero_le _⟩
 | 0,.lst ds,h=>by rw[Dt.okN]at h;cases h
 | 0,.tup ds,h=>by rw[Dt.okN]at h;cases h
 | 0,.scr ds,h=>by rw[Dt.okN]at h;cases h
 | n,.dic,h=>by cases n<;>(unfold Dt.okN at h;cases h)
 | n+1,.lst ds,h=>by
  rw[Dt.okN]at h
  obtain⟨h1,h2⟩:=BC n ds h
  exact⟨by rw[Dt.py,PyData.canLay0];exact h1,by rw[Dt.py,PyData.depth];omega⟩
 | n+1,.tup ds,h=>by
  rw[Dt.okN]at h
  obtain⟨h1,h2⟩:=BC n ds h
  exact⟨by rw[Dt.py,PyData.canLay0];exact h1,by rw[Dt.py,PyData.depth];omega⟩
 | n+1,.scr ns,h=>by
  obtain⟨h1,h2⟩:=DO ns
  exact⟨by rw[Dt.py,PyData.canLay0];exact h1,by rw[Dt.py,PyData.depth];omega⟩
theorem BC:∀(n:Nat) (ds:List Dt),oksN n ds=true→PyData.canLayAll0 (pys ds)=true∧PyData.depthAll (pys ds)≤n
 | n,[],_=>⟨rfl,by rw[pys,PyData.depthAll];exact Nat.zero_le _⟩
 | n,d::ds,h=>by
  rw[oksN,Bool.and_eq_true]at h
  obtain⟨h1,h2⟩:=IA n d h.1
  obtain⟨h3,h4⟩:=BC n ds h.2
  refine⟨by rw[pys,PyData.canLayAll0,h1,h3];rfl,?_⟩
  rw[pys,PyData.depthAll]
  exact Nat.max_le.mpr ⟨h2,h4⟩
end
theorem U0{d:Dt}{n:Nat}(h:d.okN n=true)(hn:n≤64):SeqAt.shaped d.py=true:=by
 obtain⟨h1,h2⟩:=IA n d h
 unfold SeqAt.shaped
 rw[h1,Bool.true_and]
 exact decide_eq_true (Nat.le_trans h2 hn)
section
variable {X:Cx}{pins:List (Addr×Obj)}{σ:St}{H:Hp}{s:Shared}
theorem BD{h:Heap}:∀{ns:List Int} {us:List Value},Vals (ns.map V.int) us→∃ as,ReadsAll h us (ns.map PyData.int) as
 | [],us,r=>by cases r;exact⟨_,.nil⟩
 | n::ns,us,r=>by
  rw[List.map_cons]at r
  cases r with
  | cons r1 r2 =>
   obtain⟨t,rfl⟩:=r1
   obtain⟨as,q⟩:=BD r2
   exact⟨_,.cons (.int n t) q⟩
mutual
theorem Q2(I:Inv X pins σ H s):∀(d:Dt) {v:V} {u:Value},Rp X.K emp d H v→RelV v u→∃ as,Reads s.heap u d.py as
 | .non,v,u,h,r=>by rw[Rp.non_]at h;subst h;cases r;exact⟨_,.none⟩
 | .bl b,v,u,h,r=>by rw[Rp.bl_]at h;subst h;cases r;exact⟨_,.bool b⟩
 | .int i,v,u,h,r=>by rw[Rp.int_]at h;subst h;obtain⟨t,rfl⟩:=r;exact⟨_,.int i t⟩
 | .str x,v,u,h,r=>by rw[Rp.str_]at h;subst h;obtain⟨t,rfl⟩:=r;exact⟨_,.str x t⟩
 | .dic,v,u,h,r=>by
  obtain⟨a,rfl,h1⟩:=Rp.dic_.mp h
  cases r
  exact⟨_,by rw[Dt.py];exact .dict (I.hok a _ h1).1 rfl rfl .nil .nil⟩
 | .lst ds,v,u,h,r=>by
  obtain⟨a,vs,rfl,_,h1,h2⟩:=Rp.lst_.mp h
  cases r
  obtain⟨its,rv,⟨o,n,e,c,dd,dt⟩,_⟩:=I.list (SqL.of (K:=X.K) h1)
  obtain⟨as,q⟩:=Q3 I ds (Rps.mono ds i9 h2) rv
  exact⟨_,by rw[Dt.py];exact .list e c dt q⟩
 | .tup ds,v,u,h,r=>by
  obtain⟨a,vs,rfl,h1,h2⟩:=Rp.tup_.mp h
  cases r
  obtain⟨its,rv,⟨o,e,c,n,dt⟩,_⟩:=I.tuple h1
  obtain⟨as,q⟩:=Q3 I ds h2 rv
  exact⟨_,by rw[Dt.py];exact .tuple e c dt q⟩
 | .scr ns,v,u,h,r=>by
  obtain⟨a,rfl,_,h1⟩:=Rp.scr_.mp h
  cases r
  obtain⟨its,rv,⟨o,n,e,c,dd,dt⟩,_⟩:=I.list h1
  obtain⟨as,q⟩:=BD (h:=s.heap) rv
  exact⟨_,by rw[Dt.py];exact .list e c dt q⟩
theorem Q3(I:Inv X pins σ H s):∀(ds:List Dt) {vs:List V} {us:List Value},Rps X.K emp ds H vs→Vals vs us→∃ as,ReadsAll s.heap us (pys ds) as
 | [],vs,us,h,r=>by rw[Rps.nil_]at h;subst h;cases r;exact⟨_,by rw[pys];exact .nil⟩
 | d::ds,vs,us,h,r=>by
  obtain⟨v,ws,rfl,h1,h2⟩:=Rps.cons_.mp h
  cases r with
  | cons r1 r2 =>
   obtain⟨as,q1⟩:=Q2 I d h1 r1
   obtain⟨bs,q2⟩:=Q3 I ds h2 r2
   exact⟨_,by rw[pys];exact .cons q1 q2⟩
end
end
def eqD(x y:Dt):Bool:=PyData.eqv x.py y.py
section
variable {X:Cx}{a b c e:Expr}{Fa Fb Fc:FE}{pos:Pos}
def opEq:FO:=fun x y=>if x.okN 8&&y.okN 8 then some (.nw,.bl (eqD x y)) else none
def opNe:FO:=fun x y=>if x.okN 8&&y.okN 8 then some (.nw,.bl (!eqD x y)) else none
theorem o_eq(hu:X.A.units+64<cLine):OpF X (compareOp .Eq) opEq:=by
 rintro pins s σ H x y v u Q I r1 r2 ⟨d1,d2,f,d,q1,q2,e,k⟩
 unfold opEq at e
 split at e
 · rename_i h
   rw[Bool.and_eq_true]at h
   cases e
   obtain⟨as,ra⟩:=Q2 I d1 q1 r1
   obtain⟨bs,rb⟩:=Q2 I d2 q2 r2
   exact eq_dataH ra rb (U0 h.1 (by decide)) (U0 h.2 (by decide)) hu ⟨.bl _,H,I,rfl,k _ H (Same.refl H) RpF.b_⟩
 · cases e
theorem o_ne(hu:X.A.units+64<cLine):OpF X (compareOp .NotEq) opNe:=by
 rintro pins s σ H x y v u Q I r1 r2 ⟨d1,d2,f,d,q1,q2,e,k⟩
 unfold opNe at e
 split at e
 · rename_i h
   rw[Bool.and_eq_true]at h
   cases e
   obtain⟨as,ra⟩:=Q2 I d1 q1 r1
   obtain⟨bs,rb⟩:=Q2 I d2 q2 r2
   exact ne_dataH ra rb (U0 h.1 (by decide)) (U0 h.2 (by decide)) hu ⟨.bl _,H,I,rfl,k _ H (Same.refl H) RpF.b_⟩
 · cases e
end
def RpFs(X:Ky)(H:Hp):List Dv→Hp→List V→Prop
 | [],_,vs=>vs=[]
 | x::xs,H',vs=>∃ v r,vs=v::r∧RpF X H x.1 x.2 H' v∧RpFs X H xs H' r
def upAs(X:Cx)(F:FA):TA:=fun σ H Q=>∃ ρ xs,RepS X.ky H ρ σ∧F ρ=some xs∧∀ vs H',Same H H'→RpFs X.ky H xs H' vs→Q vs H'
def PFA(X:Cx)(es:List Expr)(F:FA):Prop:=PA X es (upAs X F)
def sndL:List Dv→List Dt
 | []=>[]
 | x::xs=>x.2::sndL xs
def M3:List Dv→Bool
 | []=>true
 | x::xs=>x.1.isNw&&M3 xs
def F9:List Dv→Bool
 | []=>true
 | x::xs=>x.1.isFr&&F9 xs
section
variable {X:Ky}{H H' H1:Hp}
theorem RpFs.sh:∀{xs:List Dv} {vs:List V},RpFs X H xs H' vs→Rps X.K emp (sndL xs) H' vs
 | [],vs,h=>Rps.nil_.mpr h
 | x::xs,vs,⟨v,r,e,h1,h2⟩=>Rps.cons_.mpr ⟨v,r,e,h1.sh,RpFs.sh h2⟩
theorem RpFs.nw:∀{xs:List Dv} {vs:List V},M3 xs=true→RpFs X H xs H' vs→Rps X.K H (sndL xs) H' vs
 | [],vs,_,h=>Rps.nil_.mpr h
 | ⟨f,d⟩::xs,vs,q,⟨v,r,e,h1,h2⟩=>by
  unfold M3 at q
  rw[Bool.and_eq_true]at q
  cases f<;>first|(exact absurd q.1 Bool.false_ne_true)|exact Rps.cons_.mpr ⟨v,r,e,h1,RpFs.nw q.2 h2⟩
theorem RpFs.fr(h0:Same X.H₀ H):∀{xs:List Dv} {vs:List V},F9 xs=true→RpFs X H xs H' vs→Rps X.K X.H₀ (sndL xs) H' vs
 | [],vs,_,h=>Rps.nil_.mpr h
 | ⟨f,d⟩::xs,vs,q,⟨v,r,e,h1,h2⟩=>by
  unfold F9 at q
  rw[Bool.and_eq_true]at q
  exact Rps.cons_.mpr ⟨v,r,e,h1.fr h0 q.1,RpFs.fr h0 q.2 h2⟩
theorem RpFs.mono:∀{xs:List Dv} {vs:List V},RpFs X H xs H' vs→Same H' H1→RpFs X H xs H1 vs
 | [],vs,h,_=>h
 | x::xs,vs,⟨v,r,e,h1,h2⟩,s=>⟨v,r,e,h1.mono s,RpFs.mono h2 s⟩
theorem RpFs.early(s:Same H H1):∀{xs:List Dv} {vs:List V},RpFs X H1 xs H' vs→RpFs X H xs H' vs
 | [],vs,h=>h
 | x::xs,vs,⟨v,r,e,h1,h2⟩=>⟨v,r,e,h1.early s,RpFs.early s h2⟩
end
section
variable {X:Cx}{a b c e:Expr}{es:List Expr}{Fa Fb Fe:FE}{Fs:FA}{pos:Pos}
def fNil:FA:=fun _=>some []
def f7(Fa:FE)(Fs:FA):FA:=fun ρ=>(Fa ρ).bind fun x=>(Fs ρ).bind fun xs=>some (x::xs)
theorem i3:PFA X [] fNil:=DF.imp (by rintro σ H Q ⟨ρ,xs,rs,e,k⟩;cases e;exact k [] H (Same.refl H) rfl)
theorem i0(ha:PF X e Fe)(hr:PFA X es Fs)(hs:starEach (e::es) X.env=(false,eval e X.env)::starEach es X.env:=by rfl):PFA X (e::es) (f7 Fe Fs) :=
 (T8 ha hr hs).imp fun σ H Q hZ=>hZ.elim fun ρ hZ=>hZ.elim fun xs hZ=>hZ.elim fun rs hZ=>hZ.elim fun e0 k=>by
  obtain⟨⟨f,d⟩,e1,e2⟩:=f8 e0
  obtain⟨ys,e3,e4⟩:=f8 e2
  cases e4
  exact⟨ρ,f,d,rs,e1,fun v H1 s1 r1=>⟨ρ,ys,rs.mono s1,e3,fun vs H2 s2 r2=>k _ _ (s1.trans s2) ⟨v,vs,rfl,r1.mono s2,r2.early s1⟩⟩⟩
theorem RpFs.length{X:Ky}{H H':Hp}:∀{xs:List Dv} {vs:List V},RpFs X H xs H' vs→vs.length=xs.length
 | [],vs,h=>by rw[show vs=[]from h];rfl
 | x::xs,vs,⟨v,r,e,_,h2⟩=>by rw[e,List.length_cons,List.length_cons,RpFs.length h2]
def fLst(Fs:FA):FE:=fun ρ=>(Fs ρ).bind fun xs=>if xs.length≤1000 then some (if M3 xs then .nw else .tn,.lst (sndL xs)) else none
def fTup(Fs:FA):FE:=fun ρ=>(Fs ρ).bind fun xs=>if xs.length≤1000 then some (if M3 xs then .nw else if F9 xs then .fr else .sh,.tup (sndL xs)) else none
theorem Q4(h:PFA X es Fs):PF X (.List es pos) (fLst Fs):=(pe_lst h).imp fun σ H Q hZ=>hZ.elim fun ρ hZ=>hZ.elim fun f hZ=>hZ.elim fun d hZ=>hZ.elim fun rs hZ=>hZ.elim fun e0 k=>by
 obtain⟨xs,e1,e2⟩:=f8 e0
 split at e2
 · rename_i hl
   cases e2
   refine⟨ρ,xs,rs,e1,fun vs H1 s1 r1=>⟨Nat.le_trans (by rw[r1.length];exact hl) (by decide),fun p hp=>k _ _ (s1.trans (w8 hp)) ?_⟩⟩
   have hp0:H p=none:=s1.free hp
   by_cases q:M3 xs=true
   · rw[if_pos q]
     exact Rp.new (K:=X.K) (B:=H) hp hp0 (r1.nw q)
   · rw[if_neg q]
     exact⟨Rp.new hp rfl r1.sh,⟨_,rfl⟩,fun a e=>by cases e;exact hp0⟩
 · cases e2
theorem IB{x1}(h:PFA X es Fs):PF X (.Tuple es x1 pos) (fTup Fs):=(pe_tup h).imp fun σ H Q hZ=>hZ.elim fun ρ hZ=>hZ.elim fun f hZ=>hZ.elim fun d hZ=>hZ.elim fun rs hZ=>hZ.elim fun e0 k=>by
 obtain⟨xs,e1,e2⟩:=f8 e0
 split at e2
 · rename_i hl
   cases e2
   refine⟨ρ,xs,rs,e1,fun vs H1 s1 r1=>⟨Nat.le_trans (by rw[r1.length];exact hl) (by decide),fun p hp=>k _ _ (s1.trans (w8 hp)) ?_⟩⟩
   have r2:=r1.mono (w8 (o := .tup vs) hp)
   by_cases q:M3 xs=true
   · rw[if_pos q]
     exact(Rp.tup_ (K:=X.K) (B:=H)).mpr ⟨p,vs,rfl,SqT.of p6,r2.nw q⟩
   · rw[if_neg q]
     by_cases q2:F9 xs=true
     · rw[if_pos q2]
       exact(Rp.tup_ (K:=X.K) (B:=X.H₀)).mpr ⟨p,vs,rfl,SqT.of p6,r2.fr rs.base q2⟩
     · rw[if_neg q2]
       exact(Rp.tup_ (K:=X.K) (B:=emp)).mpr ⟨p,vs,rfl,SqT.of p6,r2.sh⟩
 · cases e2
abbrev FC:=List Dt→Option Dt
def spc(K:PySem.W.Frag)(fr:Bool)(c:FC):Sp:=fun vs H Q _=>∃ ds d,Rps K emp ds H vs∧c ds=some d∧∀ v H',Same H H'→Rp K (if fr then H else emp) d H' v→Q v H'
def i8(fr:Bool)(c:FC)(Fs:FA):FE:=fun ρ=>(Fs ρ).bind fun xs=>(c (sndL xs)).map (nrm (if fr then .nw else .sh))
theorem EL{X:Ky}{fr:Bool}{H H1 H':Hp}{d:Dt}{v:V}(s:Same H H1)(r:Rp X.K (if fr then H1 else emp) d H' v):RpF X H (nrm (if fr then .nw else .sh) d).1 d H' v:=by
 cases fr with
 | true=>exact RpF.nrm (f := .nw) (RpF.early s (show RpF X H1 .nw d H' v from r))
 | false=>exact RpF.nrm (f := .sh) r
theorem p_call{fr:Bool}{k:Nat}{f:Addr}{fd:FuncData}{ps:List Str}{ct:FC}{x:Str}{p:Pos}(F:FnOk X.prog X.w X.K X.mg X.base CX0 k f fd ps (spc X.K fr ct))(hr:Room k X.A)(hg:Gl X x)(hm:X.mg x=some (.ref f))(hk:PySem.W.keepIn X.K (.ref f)=true)(hb:Binds X.K fd ps [])
  (ha:PFA X (e::es) Fs) (hdb:(x==("__debug__" : Str))=false:=by decide) (hst:starEach (e::es) X.env=(false,eval e X.env)::starEach es X.env:=by rfl) (hpl:(backTo pos (starEach es X.env)).any (·.1)=false:=by rfl):PF X (.Call (.Name x p) (e::es) [] pos) (i8 fr ct Fs) :=
 (Y1 (E:=E0) (dvs:=[]) F hr hg hm hk hb .nil pass0 ha hdb hst hpl).imp fun σ H Q hZ=>hZ.elim fun ρ hZ=>hZ.elim fun f hZ=>hZ.elim fun d hZ=>hZ.elim fun rs hZ=>hZ.elim fun e0 k=>by
  obtain⟨xs,e1,e2⟩:=f8 e0
  cases q:ct (sndL xs) with
  | none=>rw[q]at e2;cases e2
  | some d0 =>
   rw[q]at e2
   have e2:nrm (if fr then .nw else .sh) d0=(f,d):=Option.some.inj e2
   have e3:d0=d:=congrArg Prod.snd e2
   subst e3
   refine⟨ρ,xs,rs,e1,fun vs H1 s1 r1=>?_⟩
   dsimp only
   rw[List.append_nil]
   refine⟨_,d0,r1.sh,q,fun v H' s' r'=>k v H' (s1.trans s') ?_⟩
   have:=EL (X:=X.ky) s1 r'
   rw[e2]at this
   exact this
abbrev FB:=List Dt→Option Dv
def M4(X:Cx)(f:Value)(r:FB):Prop:=CallR X f (fun xs H Q=>∃ ds f d,Rps X.K emp ds H xs∧r ds=some (f,d)∧∀ v H',Same H H'→RpF X.ky H f d H' v→Q v H')
def fBlt(r:FB)(Fs:FA):FE:=fun ρ=>(Fs ρ).bind fun xs=>r (sndL xs)
theorem IC{r:FB}{σ:St}{H:Hp}{Q:VK}(h:upF X (fBlt r Fs) σ H Q):upAs X Fs σ H fun vs H1=>∃ ds f d,Rps X.K emp ds H1 vs∧r ds=some (f,d)∧∀ v H',Same H1 H'→RpF X.ky H1 f d H' v→Q v H':=by
 obtain⟨ρ,f,d,rs,e0,k⟩:=h
 obtain⟨xs,e1,e2⟩:=f8 e0
 exact⟨ρ,xs,rs,e1,fun vs H1 s1 r1=>⟨_,f,d,r1.sh,e2,fun v H' s' r'=>k v H' (s1.trans s') (r'.early s1)⟩⟩
theorem Od{id:String}{r:FB}{x:Str}{p:Pos}(hc:M4 X (.builtin id) r)(hg:Gl X x)(hm:X.mg x=none)(hv:bootBuiltins x=some (.builtin id))(ha:PFA X (e::es) Fs)(hn:x ≠ "__name__" := by decide)(hdb:(x==("__debug__" : Str))=false:=by decide)(hst:starEach (e::es) X.env=(false,eval e X.env)::starEach es X.env:=by rfl)(hpl:(backTo pos (starEach es X.env)).any (·.1)=false:=by rfl):
 PF X (.Call (.Name x p) (e::es) [] pos) (fBlt r Fs):=(Bq hc hg hm hv ha hn hdb hst hpl).imp fun σ H Q h=>IC h
theorem KA{T:String}{r:FB}{x:Str}{p:Pos}(hc:M4 X (.type T) r)(hg:Gl X x)(hm:X.mg x=none)(hv:bootBuiltins x=some (.type T))(ha:PFA X (e::es) Fs)(hn:x ≠ "__name__" := by decide)(hdb:(x==("__debug__" : Str))=false:=by decide)(hst:starEach (e::es) X.env=(false,eval e X.env)::starEach es X.env:=by rfl)(hpl:(backTo pos (starEach es X.env)).any (·.1)=false:=by rfl):
 PF X (.Call (.Name x p) (e::es) [] pos) (fBlt r Fs):=(Jt hc hg hm hv ha hn hdb hst hpl).imp fun σ H Q h=>IC h
end
section
variable {X:Cx}
theorem Rps.one'{K:PySem.W.Frag}{B H:Hp}{d:Dt}{vs:List V}(h:Rps K B [d] H vs):∃ v,vs=[v]∧Rp K B d H v:=by
 obtain⟨v,r,rfl,h1,h2⟩:=Rps.cons_.mp h
 rw[Rps.nil_.mp h2]
 exact⟨v,rfl,h1⟩
def bLen:FB
 | [.lst xs]=>some (.nw,.int xs.length)
 | [.tup xs]=>some (.nw,.int xs.length)
 | [.scr xs]=>some (.nw,.int xs.length)
 | _=>none
theorem AC:M4 X (.builtin "len") bLen:=by
 rintro pins s σ H xs us Q I r ⟨ds,f,d,rs,e,k⟩
 unfold bLen at e
 split at e
 · cases e
   obtain⟨v,rfl,h⟩:=rs.one'
   obtain⟨p,vs,rfl,_,q1,q2⟩:=h.items
   exact N3 pins s σ H _ us Q I r ⟨p,vs,rfl,.inl (SqL.of q1),by rw[q2.length];exact k _ H (Same.refl H) RpF.i_⟩
 · cases e
   obtain⟨v,rfl,h⟩:=rs.one'
   obtain⟨p,vs,rfl,q1,q2⟩:=Rp.tup_.mp h
   exact N3 pins s σ H _ us Q I r ⟨p,vs,rfl,.inr q1,by rw[q2.length];exact k _ H (Same.refl H) RpF.i_⟩
 · cases e
   obtain⟨v,rfl,h⟩:=rs.one'
   obtain⟨p,rfl,_,q1⟩:=Rp.scr_.mp h
   exact N3 pins s σ H _ us Q I r ⟨p,_,rfl,.inl q1,by rw[List.length_map];exact k _ H (Same.refl H) RpF.i_⟩
 · cases e
def bTup:FB
 | [.lst xs]=>some (if p9 xs then .nw else .sh,.tup xs)
 | [.tup xs]=>some (if p9 xs then .nw else .sh,.tup xs)
 | _=>none
theorem ID{X:Ky}{H H':Hp}{xs:List Dt}{v:V}(h:Rp X.K emp (.tup xs) H' v):RpF X H (if p9 xs then .nw else .sh) (.tup xs) H' v:=by
 by_cases q:p9 xs=true
 · rw[if_pos q];exact RpF.scal (by rw[Dt.flat];exact q) h
 · rw[if_neg q];exact h
theorem IE:M4 X (.type "tuple") bTup:=by
 rintro pins s σ H xs us Q I r ⟨ds,f,d,rs,e,k⟩
 unfold bTup at e
 split at e
 · cases e
   obtain⟨v,rfl,h⟩:=rs.one'
   obtain⟨p,vs,rfl,_,q1,q2⟩:=h.items
   exact V2 pins s σ H _ us Q I r ⟨p,vs,rfl,.inl ⟨SqL.of q1,fun l hl=>k _ _ (w8 hl) (ID (Rp.tup_.mpr ⟨l,vs,rfl,SqT.of p6,Rps.mono _ (w8 hl) q2⟩))⟩⟩
 · cases e
   obtain⟨v,rfl,h⟩:=rs.one'
   obtain⟨p,vs,rfl,q1,q2⟩:=Rp.tup_.mp h
   exact V2 pins s σ H _ us Q I r ⟨p,vs,rfl,.inr ⟨q1,k _ H (Same.refl H) (ID h)⟩⟩
 · cases e
def bLst:FB
 | [.lst xs]=>some (newL xs)
 | [.tup xs]=>some (newL xs)
 | _=>none
theorem c_lst:M4 X (.type "list") bLst:=by
 rintro pins s σ H xs us Q I r ⟨ds,f,d,rs,e,k⟩
 unfold bLst at e
 split at e
 · cases e
   obtain⟨v,rfl,h⟩:=rs.one'
   obtain⟨p,vs,rfl,_,q1,q2⟩:=h.items
   exact Y3 pins s σ H _ us Q I r ⟨p,vs,rfl,.inl (SqL.of q1),fun l hl=>k _ _ (w8 hl) (Y9 hl q2)⟩
 · cases e
   obtain⟨v,rfl,h⟩:=rs.one'
   obtain⟨p,vs,rfl,q1,q2⟩:=Rp.tup_.mp h
   exact Y3 pins s σ H _ us Q I r ⟨p,vs,rfl,.inr q1,fun l hl=>k _ _ (w8 hl) (Y9 hl q2)⟩
 · cases e
def bAbs:FB
 | [.int i]=>some (.nw,.int (if i<0 then -i else i))
 | _=>none
theorem c_abs:M4 X (.builtin "abs") bAbs:=by
 rintro pins s σ H xs us Q I r ⟨ds,f,d,rs,e,k⟩
 unfold bAbs at e
 split at e
 · rename_i i
   cases e
   obtain⟨v,rfl,h⟩:=rs.one'
   rw[Rp.int_]at h
   subst h
   exact Kf pins s σ H _ us Q I r ⟨i,rfl,k _ H (Same.refl H) RpF.i_⟩
 · cases e
def bInt:FB
 | [.int i]=>some (.nw,.int i)
 | [.bl b]=>some (.nw,.int (if b then 1 else 0))
 | _=>none
theorem c_int:M4 X (.type "int") bInt:=by
 rintro pins s σ H xs us Q I r ⟨ds,f,d,rs,e,k⟩
 unfold bInt at e
 split at e
 · rename_i i
   cases e
   obtain⟨v,rfl,h⟩:=rs.one'
   rw[Rp.int_]at h
   subst h
   exact CK pins s σ H _ us Q I r (.inl ⟨i,rfl,k _ H (Same.refl H) RpF.i_⟩)
 · rename_i b
   cases e
   obtain⟨v,rfl,h⟩:=rs.one'
   rw[Rp.bl_]at h
   subst h
   exact CK pins s σ H _ us Q I r (.inr ⟨b,rfl,k _ H (Same.refl H) RpF.i_⟩)
 · cases e
def AD:List Dt→Option (List Bool)
 | []=>some []
 | .bl b::ds=>(AD ds).map (b::·)
 | _=>none
theorem CU{K:PySem.W.Frag}{B H:Hp}:∀{ds:List Dt} {bs:List Bool} {vs:List V},AD ds=some bs→Rps K B ds H vs→vs=bs.map V.bl
 | [],bs,vs,e,r=>by cases e;exact Rps.nil_.mp r
 | .bl b::ds,bs,vs,e,r=>by
  obtain⟨v,ws,rfl,h1,h2⟩:=Rps.cons_.mp r
  unfold AD at e
  cases q:AD ds with
  | none=>rw[q]at e;cases e
  | some cs=>rw[q]at e;cases e;rw[Rp.bl_.mp h1,CU q h2];rfl
 | .non::ds,bs,vs,e,r=>by cases e
 | .int _::ds,bs,vs,e,r=>by cases e
 | .str _::ds,bs,vs,e,r=>by cases e
 | .lst _::ds,bs,vs,e,r=>by cases e
 | .tup _::ds,bs,vs,e,r=>by cases e
 | .scr _::ds,bs,vs,e,r=>by cases e
 | .dic::ds,bs,vs,e,r=>by cases e
def bAll:FB
 | [.lst xs]=>(AD xs).map fun bs=>(.nw,.bl (bs.all id))
 | _=>none
theorem Jx(bs:List Bool):(List.range bs.length).all (fun i=>bs.getD i false)=bs.all id:=by
 rw[Bool.eq_iff_iff,List.all_eq_true,List.all_eq_true]
 constructor
 · intro h b hb
   obtain⟨i,hi,e⟩:=List.getElem_of_mem hb
   have:=h i (List.mem_range.mpr hi)
   simp[List.getD,List.getElem?_eq_getElem hi,e]at this
   exact this
 · intro h i hi
   have hi:=List.mem_range.mp hi
   have:=h _ (List.getElem_mem hi)
   simpa[List.getD,List.getElem?_eq_getElem hi]using this
theorem Oe{bs:List Bool}{us:List Value}(r:Vals (bs.map V.bl) us){prog:Program}{w:World}{A:Around}:TruthOf prog w A (fun i v=>us.toArray[i]?=some v) (fun i=>bs.getD i false):=by
 intro i v s Q E hP hQ
 have e:us[i]?=some v:=by simpa using hP
 cases q:bs[i]? with
 | none =>
  have:=r.none_of (i:=i) (by rw[List.getElem?_map,q];rfl)
  rw[this]at e;cases e
 | some b =>
  obtain⟨u,h1,h2⟩:=r.get (i:=i) (x:=V.bl b) (by rw[List.getElem?_map,q];rfl)
  rw[e]at h1
  cases h1
  cases h2
  have hQ':Q b s:=by simpa[List.getD,q]using hQ
  exact wpAny_truthy_bool hQ'
theorem KB(hc:X.calm=true):M4 X (.builtin "all") bAll:=by
 rintro pins s σ H xs us Q I r ⟨ds,f,d,rs,e,k⟩
 unfold bAll at e
 split at e
 · rename_i ys
   cases q:AD ys with
   | none=>rw[q]at e;cases e
   | some bs =>
    rw[q]at e
    cases e
    obtain⟨v,rfl,h⟩:=rs.one'
    obtain⟨p,vs,rfl,_,q1,q2⟩:=h.items
    obtain⟨u,rfl,ru⟩:=r.one
    cases ru
    have ev:=CU q q2
    subst ev
    obtain⟨its,rv,pl,hz⟩:=I.list (SqL.of (K:=X.K) q1)
    have hlen:its.toArray.size=bs.length:=by rw[List.size_toArray,←rv.length,List.length_map]
    refine call_all_walk (wpAny_pyIter_list pl.isList ?_)
    have hne:p≠s.heap.objs.size:=Nat.ne_of_lt (by obtain⟨o,e,_⟩:=pl.isList;exact Heap.lt_size e)
    refine⟨_,_,_,_,_,_,fun i=>bs.getD i false,rfl,Walks.list (A:=X.A.in1) (I.ok.hd hc) s.heap.objs.size p hne its.toArray,⟨⟨_,Heap.get?_push_size _ rfl,rfl,rfl⟩,pl.isList.at fun o e=>Heap.get?_push_of_some _ e⟩,Oe rv,fun h' tk hk=>?_⟩
    rw[hlen,Jx]
    exact⟨.bl _,H,I.kept fun b o e=>hk b o (by simp;exact Nat.ne_of_lt (Heap.lt_size e)) (Heap.get?_push_of_some _ e),rfl,k _ H (Same.refl H) RpF.b_⟩
 · cases e
def tyN:Dt→String
 | .non => "NoneType"
 | .bl _ => "bool"
 | .int _ => "int"
 | .str _ => "str"
 | .lst _ => "list"
 | .scr _ => "list"
 | .tup _ => "tuple"
 | .dic => "dict"
def BE(t T:String):Bool:=t==T||(t == "bool" && T == "int")
def okT(T:String):Bool:=T == "int" || T == "bool" || T == "str" || T == "list" || T == "tuple" || T == "dict"
theorem Jy{T:String}(h:okT T=true):T = "int" ∨ T = "bool" ∨ T = "str" ∨ T = "list" ∨ T = "tuple" ∨ T = "dict" := by
 unfold okT at h
 simp only[Bool.or_eq_true,beq_iff_eq]at h
 rcases h with((((h|h)|h)|h)|h)|h
 · exact .inl h
 · exact .inr (.inl h)
 · exact .inr (.inr (.inl h))
 · exact .inr (.inr (.inr (.inl h)))
 · exact .inr (.inr (.inr (.inr (.inl h))))
 · exact .inr (.inr (.inr (.inr (.inr h))))
theorem kit_D{K:PySem.W.Frag}{d:Dt}{T:String}(h:okT T=true):PySem.W.kitOne K (.type (tyN d)) (.type T)=some (BE (tyN d) T):=by
 rcases Jy h with rfl|rfl|rfl|rfl|rfl|rfl<;>cases d<;>rfl
def fIsi(T:String)(F:FE):FE:=fun ρ=>(F ρ).map fun x=>(.nw,.bl (BE (tyN x.2) T))
theorem Og{T:String}(hT:okT T=true):CallR X (.builtin "isinstance") (fun xs H Q=>∃ d v,xs=[v,.ty T]∧Rp X.K emp d H v∧Q (.bl (BE (tyN d) T)) H):=by
 intro pins s σ H xs us Q I r ⟨d,v,ex,h1,fin⟩
 subst ex
 have e:=kit_D (K:=X.K) (d:=d) hT
 obtain⟨u,u',rfl,r1,r2⟩:=vals2 r
 cases r2
 cases d with
 | non=>rw[Rp.non_.mp h1]at r1;exact T7 I r1 .non e fun tk=>⟨.bl _,H,I.tok tk,rfl,fin⟩
 | bl b=>rw[Rp.bl_.mp h1]at r1;exact T7 I r1 (.bl b) e fun tk=>⟨.bl _,H,I.tok tk,rfl,fin⟩
 | int i=>rw[Rp.int_.mp h1]at r1;exact T7 I r1 (.int i) e fun tk=>⟨.bl _,H,I.tok tk,rfl,fin⟩
 | str x=>rw[Rp.str_.mp h1]at r1;exact T7 I r1 (.str x) e fun tk=>⟨.bl _,H,I.tok tk,rfl,fin⟩
 | dic =>
  obtain⟨a,rfl,q⟩:=Rp.dic_.mp h1
  cases r1
  exact PySem.W.kia_one PySem.W.kitx_dict I.kIn ⟨_,(I.hok a _ q).1,rfl⟩ e (fun z=>nomatch z) fun tk=>⟨.bl _,H,I.tok tk,rfl,fin⟩
 | lst ys =>
  obtain⟨p,vs,rfl,_,q1,q2⟩:=h1.items
  cases r1
  obtain⟨its,_,pl,_⟩:=I.list (SqL.of (K:=X.K) q1)
  obtain⟨o,ho,hc,_⟩:=pl.isList
  exact PySem.W.kia_one PySem.W.kitx_list I.kIn ⟨o,ho,hc⟩ e (fun z=>nomatch z) fun tk=>⟨.bl _,H,I.tok tk,rfl,fin⟩
 | scr ys =>
  obtain⟨p,rfl,_,q1⟩:=Rp.scr_.mp h1
  cases r1
  obtain⟨its,_,pl,_⟩:=I.list q1
  obtain⟨o,ho,hc,_⟩:=pl.isList
  exact PySem.W.kia_one PySem.W.kitx_list I.kIn ⟨o,ho,hc⟩ e (fun z=>nomatch z) fun tk=>⟨.bl _,H,I.tok tk,rfl,fin⟩
 | tup ys =>
  obtain⟨p,vs,rfl,q1,q2⟩:=Rp.tup_.mp h1
  cases r1
  obtain⟨its,_,pl,_⟩:=I.tuple q1
  obtain⟨o,ho,hc,_⟩:=pl
  exact PySem.W.kia_one PySem.W.kitx_tuple I.kIn ⟨o,ho,hc⟩ e (fun z=>nomatch z) fun tk=>⟨.bl _,H,I.tok tk,rfl,fin⟩
theorem BF{a:Expr}{Fa:FE}{x:Str}{T:String}{p q pos:Pos}(hT:okT T=true)(hg:Gl X "isinstance")(hm:X.mg "isinstance" = none)(hgT:Gl X x)(hmT:X.mg x=none)(hvT:bootBuiltins x=some (.type T))(ha:PF X a Fa)
  (hn:x ≠ "__name__" := by decide) (hd:(x==("__debug__" : Str))=false:=by decide) (hs1:starEach [.Name x q] X.env=[(false,eval (.Name x q) X.env)]:=by rfl)
  (hs:starEach [a,.Name x q] X.env=(false,eval a X.env)::starEach [.Name x q] X.env:=by rfl):PF X (.Call (.Name "isinstance" p) [a,.Name x q] [] pos) (fIsi T Fa) :=
 (Bq (Og hT) hg hm boot_isinstance (T8 ha (T8 (pe_ty hgT hmT hvT hn hd) DF hs1) hs) (by decide) (by decide) hs (by rw[hs1];rfl)).imp fun σ H Q hZ=>hZ.elim fun ρ hZ=>hZ.elim fun f hZ=>hZ.elim fun d hZ=>hZ.elim fun rs hZ=>hZ.elim fun e0 k=>by
  unfold fIsi at e0
  cases h:Fa ρ with
  | none=>rw[h]at e0;cases e0
  | some z =>
   rw[h]at e0
   cases e0
   exact⟨ρ,z.1,z.2,rs,h,fun v H1 s1 r1=>⟨z.2,v,rfl,r1.sh,k _ H1 s1 RpF.b_⟩⟩
abbrev FP:=Rho→Option (Option Int)
def upP(X:Cx)(F:FP):TO:=fun σ H Q=>∃ ρ o,RepS X.ky H ρ σ∧F ρ=some o∧∀ H',Same H H'→Q o H'
def PFP(X:Cx)(e:Option Expr)(F:FP):Prop:=PO X e (upP X F)
def i5:FP:=fun _=>some none
def intD:Dt→Option Int
 | .int i=>some i
 | _=>none
def n9(F:FE):FP:=fun ρ=>(F ρ).bind fun x=>(intD x.2).map some
theorem PO.imp{e:Option Expr}{t t':TO}(h:PO X e t)(q:∀ σ H Q,t' σ H Q→t σ H Q):PO X e t':=fun pins s σ H Q I z=>h pins s σ H Q I (q σ H Q z)
theorem z9:PFP X none i5:=NO.imp (by rintro σ H Q ⟨ρ,o,rs,e,k⟩;cases e;exact k H (Same.refl H))
theorem A0{e:Expr}{F:FE}(h:PF X e F):PFP X (some e) (n9 F):=(NP h).imp fun σ H Q ⟨ρ,o,rs,e,k⟩=>by
 obtain⟨⟨f,d⟩,e1,e2⟩:=f8 e
 refine⟨ρ,f,d,rs,e1,fun v H1 s1 r1=>?_⟩
 cases d<;>first|cases e2|skip
 rename_i i
 exact⟨i,Rp.int_.mp r1.sh,k H1 s1⟩
def cutD{α:Type}(xs:List α)(lo hi:Option Int):List α:=(xs.drop (HT.sIx xs.length 0 lo)).take (HT.sIx xs.length xs.length hi-HT.sIx xs.length 0 lo)
def fSl(F:FE)(L U:FP):FE:=fun ρ=>(F ρ).bind fun x=>(L ρ).bind fun lo=>(U ρ).bind fun hi=>match x.2 with|.lst ds=>some (newL (cutD ds lo hi))|_=>none
theorem U1{e:Expr}{F:FE}{lo hi:Option Expr}{L U:FP}{pos p2:Pos}(he:PF X e F)(hl:PFP X lo L)(hu:PFP X hi U):PF X (.Subscript e (.Slice lo hi none p2) pos) (fSl F L U) :=
 (EF NR he hl hu).imp fun σ H Q hZ=>hZ.elim fun ρ hZ=>hZ.elim fun f hZ=>hZ.elim fun d hZ=>hZ.elim fun rs hZ=>hZ.elim fun e0 k=>by
  obtain⟨⟨fx,dx⟩,e1,e2⟩:=f8 e0
  obtain⟨l,e3,e4⟩:=f8 e2
  obtain⟨u,e5,e6⟩:=f8 e4
  clear e0 e2 e4
  refine⟨ρ,fx,dx,rs,e1,fun v H1 s1 r1=>⟨ρ,l,rs.mono s1,e3,fun H2 s2=>⟨ρ,u,rs.mono (s1.trans s2),e5,fun H3 s3=>?_⟩⟩⟩
  have ex:∃ ds,dx = .lst ds∧newL (cutD ds l u)=(f,d):=by
   cases dx<;>first|(rename_i ds;exact⟨ds,rfl,Option.some.inj e6⟩)|cases e6
  obtain⟨ds,rfl,e7⟩:=ex
  cases e7
  obtain⟨p,vs,rfl,_,q1,q2⟩:=(Rp.mono _ (s2.trans s3) r1.sh).items
  refine⟨p,vs,rfl,SqL.of q1,fun a ha=>k _ _ ((s1.trans (s2.trans s3)).trans (w8 ha)) ?_⟩
  have h1:Rps X.K emp (cutD ds l u) H3 (cutV vs l u):=by
   unfold cutD cutV
   rw[q2.length]
   exact Rps.take _ (Rps.drop _ q2)
  exact(Y9 ha h1).early (s1.trans (s2.trans s3))
end
end L2

end
section
local macro_rules|`(tactic| omega)=>`(tactic| first|lia|omega +splitDisjunctions)
set_option Elab.async false
set_option linter.all false
set_option maxRecDepth 100000
namespace L2
open PySem PySem.Spec PyProof.Rows
def Walk(K:PySem.W.Frag)(J:It)(items:List Dt)(H1:Hp):Prop:=∀(A:List Addr) (H:Hp),Same H1 (hidL A H)→(∀ a∈A,∃ o,H a=some o) →
 (∀(i:Nat) (d:Dt),items[i]?=some d→J.go i H∧∀ x H',J.yld i H x H'→Same (hidL A H) (hidL A H')∧(∀ a∈A,H' a=H a)∧Rp K emp d (hidL A H') x)∧∀ i,items.length≤i→J.stop i H
abbrev FI:=Rho→Option (List Dt)
def upIK(Y:Ky)(F:FI):TI:=fun σ H R=>∃ ρ items,RepS Y H ρ σ∧F ρ=some items∧∀ J H',Same H H'→items.length≤sizeLine→Walk Y.K J items H'→R J H'
abbrev upI(X:Cx)(F:FI):TI:=upIK X.ky F
def PFI(X:Cx)(tg e:Expr)(F:FI):Prop:=PI X tg e (upI X F)
theorem PI.imp{X:Cx}{tg e:Expr}{t t':TI}(h:PI X tg e t)(q:∀ σ H Q,t' σ H Q→t σ H Q):PI X tg e t':=fun pins s σ H Q I z=>h pins s σ H Q I (q σ H Q z)
section
variable {X:Cx}{tg a b e:Expr}{Fa Fb Fe:FE}{pos:Pos}
theorem Jz{K:PySem.W.Frag}{p:Addr}{ds:List Dt}{vs:List V}{H1:Hp}(h1:SqL K H1 p vs)(h2:Rps K emp ds H1 vs):Walk K (Itl K p) ds H1:=by
 intro A H sm hA
 have s2:Same H1 H:=sm.trans i9
 refine⟨fun i d e=>?_,fun i hi=>⟨vs,s2.seq h1,by rw[h2.length];exact hi⟩⟩
 obtain⟨v,e1,e2⟩:=h2.get e
 refine⟨⟨vs,v,s2.seq h1,e1⟩,?_⟩
 rintro x H' ⟨z,y⟩
 subst z
 have hx:=y vs (s2.seq h1)
 rw[e1]at hx
 cases hx
 exact⟨Same.refl _,fun _ _=>rfl,Rp.mono _ sm e2⟩
theorem KC{K:PySem.W.Frag}{p:Addr}{ds:List Dt}{vs:List V}{H1:Hp}(h1:SqT K H1 p vs)(h2:Rps K emp ds H1 vs):Walk K (Itt K p) ds H1:=by
 intro A H sm hA
 have s2:Same H1 H:=sm.trans i9
 refine⟨fun i d e=>?_,fun i hi=>⟨vs,s2.seqT h1,by rw[h2.length];exact hi⟩⟩
 obtain⟨v,e1,e2⟩:=h2.get e
 refine⟨⟨vs,v,s2.seqT h1,e1⟩,?_⟩
 rintro x H' ⟨z,y⟩
 subst z
 have hx:=y vs (s2.seqT h1)
 rw[e1]at hx
 cases hx
 exact⟨Same.refl _,fun _ _=>rfl,Rp.mono _ sm e2⟩
def K9(lo:Int)(n:Nat):List Dt:=(List.range n).map fun(k:Nat) => .int (lo+(k:Int))
theorem Gn{K:PySem.W.Frag}{lo:Int}{n:Nat}{H1:Hp}:Walk K (Itr lo n) (K9 lo n) H1:=by
 intro A H sm hA
 refine⟨fun i d e=>?_,fun i hi=>by unfold K9 at hi;rw[List.length_map,List.length_range]at hi;exact hi⟩
 unfold K9 at e
 rw[List.getElem?_map]at e
 have hi:i<n:=by
  by_cases hi:i<n
  · exact hi
  · rw[List.getElem?_eq_none (by simp;omega)]at e;cases e
 rw[List.getElem?_range hi]at e
 cases e
 refine⟨hi,fun x H' hZ=>hZ.elim fun z y=>?_⟩
 subst z;subst y
 exact⟨Same.refl _,fun _ _=>rfl,Rp.int_.mpr rfl⟩
def seqD:Dt→Option (List Dt)
 | .lst ds=>some ds
 | .tup ds=>some ds
 | _=>none
def iSeq(F:FE):FI:=fun ρ=>(F ρ).bind fun x=>seqD x.2
theorem G0(ha:PF X a Fa):PFI X tg a (iSeq Fa):=by
 intro pins s σ H R I ⟨ρ,items,rs,e0,k⟩
 obtain⟨⟨f,d⟩,e1,e2⟩:=f8 e0
 refine thn (ha pins s σ H (fun x H1=>Same H H1∧Rp X.K emp d H1 x) I ⟨ρ,f,d,rs,e1,fun v H1 s1 r1=>⟨s1,r1.sh⟩⟩) fun v s1 hZ=>hZ.elim fun x hZ=>hZ.elim fun H1 hZ=>hZ.elim fun I1 hZ=>hZ.elim fun r1 hZ=>hZ.elim fun sm rd=>?_
 cases d<;>first|cases e2|skip
 · rename_i ds
   obtain⟨p,vs,rfl,_,h1,h2⟩:=rd.items
   cases r1
   obtain⟨its,rv,pl,hz⟩:=I1.list (SqL.of (K:=X.K) h1)
   refine wpAny_pyIter_list pl.isList ?_
   refine⟨s1.heap.objs.size,[s1.heap.objs.size],_,_,H1,rfl,I1.kept (t':=s1.toks) fun b o e=>Heap.get?_push_of_some _ e,Jo p _,⟨_,Heap.get?_push_size _ rfl,rfl,rfl⟩,fun b hb=>?_,k _ H1 sm (by rw[←h2.length];exact hz) (Jz (SqL.of h1) h2)⟩
   have e:b=s1.heap.objs.size:=by simpa using hb
   subst e
   exact I1.fpOk (Nat.le_refl _) (I1.hok.fresh (Nat.le_refl _))
 · rename_i ds
   obtain⟨p,vs,rfl,h1,h2⟩:=Rp.tup_.mp rd
   cases r1
   obtain⟨its,rv,pl,hz⟩:=I1.tuple h1
   refine wpAny_pyIter_tuple (show s1.heap.IsTuple p its.toArray from pl) ?_
   refine⟨s1.heap.objs.size,[s1.heap.objs.size],_,_,H1,rfl,I1.kept (t':=s1.toks) fun b o e=>Heap.get?_push_of_some _ e,Gb p _,⟨_,Heap.get?_push_size _ rfl,rfl,rfl⟩,fun b hb=>?_,k _ H1 sm (by rw[←h2.length];exact hz) (KC h1 h2)⟩
   have e:b=s1.heap.objs.size:=by simpa using hb
   subst e
   exact I1.fpOk (Nat.le_refl _) (I1.hok.fresh (Nat.le_refl _))
def Z0(i:Int):Bool:=decide (-1000000≤i)&&decide (i≤1000000)
theorem rngOk_{i:Int}(h:Z0 i=true): -1000000≤i∧i≤1000000:=by
 unfold Z0 at h
 rw[Bool.and_eq_true]at h
 exact⟨of_decide_eq_true h.1,of_decide_eq_true h.2⟩
def B2(F:FE):FI:=fun ρ=>(F ρ).bind fun x=>(intD x.2).bind fun j=>if Z0 j then some (K9 0 j.toNat) else none
theorem Go{lo:Int}{n:Nat}:(K9 lo n).length=n:=by unfold K9;simp
theorem DP{d:Dt}{i:Int}(h:intD d=some i):d = .int i:=by
 cases d<;>first|cases h|skip
 rfl
theorem BG{p:Pos}(hg:Gl X "range")(hm:X.mg "range" = none)(ha:PF X a Fa)(hs:starEach [a] X.env=[(false,eval a X.env)]:=by rfl):PFI X tg (.Call (.Name "range" p) [a] [] pos) (B2 Fa) :=
 (Jp hg hm (T8 ha DF hs) hs).imp fun σ H R hZ=>hZ.elim fun ρ hZ=>hZ.elim fun items hZ=>hZ.elim fun rs hZ=>hZ.elim fun e0 k=>by
  obtain⟨⟨f,d⟩,e1,e2⟩:=f8 e0
  obtain⟨j,e3,e4⟩:=f8 e2
  clear e0 e2
  have ed:=DP e3
  cases (show d = .int j from ed)
  split at e4
  · rename_i hr
    cases e4
    obtain⟨h1,h2⟩:=rngOk_ hr
    refine⟨ρ,f,_,rs,e1,fun v H1 s1 r1=>⟨j,by rw[Rp.int_.mp r1.sh],by omega,by omega,k _ H1 s1 ?_ Gn⟩⟩
    rw[Go]
    have:sizeLine=16777216:=rfl
    omega
  · cases e4
end
inductive Tg where
 | one (i:Nat)|many (is:List Nat)
def L0:List Nat→TGs
 | []=>gNil
 | i::is=>gCons (CJ i) (L0 is)
def Tg.low(K:PySem.W.Frag):Tg→TG
 | .one i=>CJ i
 | .many is=>gTup K is.length (L0 is)
def G1:Rho→List Nat→List Dt→Rho
 | ρ,i::is,d::ds=>G1 (ρ.set i (.sh false d)) is ds
 | ρ,_,_=>ρ
def Tg.put:Tg→Dt→Rho→Option Rho
 | .one i,d,ρ=>some (ρ.set i (.sh false d))
 | .many is,.tup ds,ρ=>if ds.length=is.length then some (G1 ρ is ds) else none
 | .many _,_,_=>none
def Tg.below(nt:Nat):Tg→Prop
 | .one i=>i<nt
 | .many is=>∀ i∈is,i<nt
def KeepS(nt:Nat)(σ σ':St):Prop:=σ'.length=σ.length∧∀ i,nt≤i→σ'[i]?=σ[i]?
theorem KeepS.refl{nt:Nat}{σ:St}:KeepS nt σ σ:=⟨rfl,fun _ _=>rfl⟩
theorem KeepS.set{nt i:Nat}{σ:St}{v:V}(h:i<nt):KeepS nt σ (σ.set i (some v)):=⟨List.length_set,fun j hj=>List.getElem?_set_ne (by omega)⟩
theorem KeepS.trans{nt:Nat}{a b c:St}(h:KeepS nt a b)(k:KeepS nt b c):KeepS nt a c:=⟨k.1.trans h.1,fun i hi=>(k.2 i hi).trans (h.2 i hi)⟩
theorem AE:∀{is:List Nat} {vs:List V} {σ:St} {H:Hp} {Q Q':St→Hp→Prop},L0 is vs σ H Q→(∀ σ H,Q σ H→Q' σ H)→L0 is vs σ H Q':=by
 intro is
 induction is with
 | nil=>intro vs σ H Q Q' ⟨e,q⟩ k;exact⟨e,k _ _ q⟩
 | cons j js ih=>intro vs σ H Q Q' ⟨v,r,e,q⟩ k;exact⟨v,r,e,ih q k⟩
theorem CV{nt:Nat}:∀{is:List Nat} {vs:List V} {σ:St} {H:Hp} {Q:St→Hp→Prop},(∀ i∈is,i<nt)→L0 is vs σ H Q→L0 is vs σ H fun σ2 H2=>KeepS nt σ σ2∧Q σ2 H2
 | [],vs,σ,H,Q,_,⟨e,q⟩=>⟨e,KeepS.refl,q⟩
 | i::is,vs,σ,H,Q,hi,⟨v,r,e,q⟩=>by
  refine⟨v,r,e,?_⟩
  have q:L0 is r (σ.set i (some v)) H Q:=q
  have z:=CV (nt:=nt) (fun j hj=>hi j (List.mem_cons_of_mem _ hj)) q
  show L0 is r (σ.set i (some v)) H _
  exact AE z fun σ2 H2 hZ=>hZ.elim fun k1 k2=>⟨(KeepS.set (hi i List.mem_cons_self)).trans k1,k2⟩
theorem Tg.ok{K:PySem.W.Frag}{nt:Nat}{g:Tg}(h:g.below nt):TgOk nt (g.low K):=by
 intro x σ H Q q
 cases g with
 | one i=>exact⟨KeepS.set h,q⟩
 | many is =>
  obtain⟨a,xs,e,hq,hl,q⟩:=q
  exact⟨a,xs,e,hq,hl,CV h q⟩
theorem Tg.low_mono{K:PySem.W.Frag}{g:Tg}{v:V}{σ:St}{H:Hp}{Q Q':St→Hp→Prop}(h:g.low K v σ H Q)(k:∀ σ H,Q σ H→Q' σ H):g.low K v σ H Q':=by
 cases g with
 | one i=>exact k _ _ h
 | many is =>
  obtain⟨a,xs,e,hq,hl,q⟩:=h
  exact⟨a,xs,e,hq,hl,AE q k⟩
section
variable {Y:Ky}{H H':Hp}{ρ:Rho}{σ:St}
theorem RepS.set(h:RepS Y H ρ σ){i:Nat}{f:Bool}{d:Dt}{v:V}(r:Rp Y.K (bsOf Y f) d H v):RepS Y H (ρ.set i (.sh f d)) (σ.set i (some v)):=by
 refine⟨by rw[List.length_set,List.length_set];exact h.len,h.base,fun j c q=>?_⟩
 by_cases e:i=j
 · subst e
   rw[List.getElem?_set]at q ⊢
   rw[if_pos rfl]at q ⊢
   split at q
   · rename_i hl
     cases q
     rw[if_pos (by rw[←h.len];exact hl)]
     exact⟨_,rfl,v,rfl,r⟩
   · cases q
 · rw[List.getElem?_set_ne e]at q ⊢
   exact h.at_ j c q
theorem BH{Hh:Hp}{ρ':Rho}:∀{is:List Nat} {ds:List Dt} {vs:List V} {ρ:Rho} {σ:St},RepS Y Hh ρ σ→Rps Y.K emp ds Hh vs→ds.length=is.length→G1 ρ is ds=ρ' →
  L0 is vs σ H fun σ' H'=>H'=H∧RepS Y Hh ρ' σ'
 | [],[],vs,ρ,σ,rs,r,hl,q=>⟨Rps.nil_.mp r,rfl,by rw[←q];exact rs⟩
 | [],d::ds,vs,ρ,σ,rs,r,hl,q=>by cases hl
 | i::is,[],vs,ρ,σ,rs,r,hl,q=>by cases hl
 | i::is,d::ds,vs,ρ,σ,rs,r,hl,q=>by
  obtain⟨v,r',rfl,h1,h2⟩:=Rps.cons_.mp r
  exact⟨v,r',rfl,BH (rs.set (f:=false) h1) h2 (by simpa using hl) q⟩
theorem Tg.sim{Hh:Hp}{g:Tg}{d:Dt}{v:V}{ρ':Rho}(sm:Same Hh H)(rs:RepS Y Hh ρ σ)(r:Rp Y.K emp d Hh v)(h:g.put d ρ=some ρ'):
  g.low Y.K v σ H fun σ' H'=>H'=H∧RepS Y Hh ρ' σ':=by
 cases g with
 | one i=>cases h;exact⟨rfl,rs.set (f:=false) r⟩
 | many is =>
  cases d<;>first|cases h|skip
  rename_i ds
  replace h:(if ds.length=is.length then some (G1 ρ is ds) else none)=some ρ':=h
  split at h
  · rename_i hl
    obtain⟨a,vs,rfl,h1,h2⟩:=Rp.tup_.mp r
    exact⟨a,vs,rfl,sm.seqT h1,by rw[h2.length];exact hl,BH rs h2 hl (Option.some.inj h)⟩
  · cases h
end
section
variable {X:Cx}{pos:Pos}
theorem Q5{i:Nat}{x:Str}(hN:X.N.Nodup)(hi:X.N[i]?=some x)(hx:Loc X.env.scope x)(hf:X.fn x=true∨X.env.scope.names.lookup x=some .local):PG X (.Name x pos) ((Tg.one i).low X.K):=NI hN hi hx hf
end
def G2(g:Tg)(Fc:FT)(Fe:FE)(ρ0:Rho):List Dt→Option (List Dv)
 | []=>some []
 | x::xs=>(g.put x ρ0).bind fun ρ1=>(Fc ρ1).bind fun b=>if b then(Fe ρ1).bind fun v=>(G2 g Fc Fe ρ0 xs).bind fun r=>some (v::r) else G2 g Fc Fe ρ0 xs
def AF:Cell→Cell
 | .no => .no
 | .ex => .no
 | .sh _ d => .sh false d
 | .ow _ ds => .sh false (.lst ds)
def sigD(nt:Nat)(js:List Nat)(ρ:Rho):Rho:=List.replicate nt Cell.no++js.map fun j=>match ρ[j]? with|some c=>AF c|none => .no
def o7(nt:Nat)(js:List Nat)(Fi:FI)(g:Tg)(Fc:FT)(Fe:FE):FE:=fun ρ=>(Fi ρ).bind fun items=>(G2 g Fc Fe (sigD nt js ρ) items).bind fun vs=>some (if F9 vs then .nw else .tn,.lst (sndL vs))
theorem Ai{g:Tg}{Fc:FT}{Fe:FE}{ρ0:Rho}:∀{xs:List Dt} {vs:List Dv},G2 g Fc Fe ρ0 xs=some vs→vs.length≤xs.length
 | [],vs,h=>by cases h;exact Nat.le_refl _
 | x::xs,vs,h=>by
  unfold G2 at h
  obtain⟨ρ1,_,h⟩:=f8 h
  obtain⟨b,_,h⟩:=f8 h
  split at h
  · obtain⟨v,_,h⟩:=f8 h
    obtain⟨r,h1,h⟩:=f8 h
    cases h
    have:=Ai h1
    rw[List.length_cons,List.length_cons];omega
  · have:=Ai h
    rw[List.length_cons];omega
def PFTs(X:Cx)(ifs:List Expr)(F:FT):Prop:=PTs X ifs (upB X F)
def fYes:FT:=fun _=>some true
theorem KD{X:Cx}:PFTs X [] fYes:=fun pins s σ H Q I hZ=>hZ.elim fun ρ hZ=>hZ.elim fun b hZ=>hZ.elim fun rs hZ=>hZ.elim fun e k=>by cases e;exact NU pins s σ H Q I (k H (Same.refl H))
theorem RpC.shS{Y:Ky}{H H1:Hp}{c:Cell}{o:Option V}(h:RpC Y H c o):RpC ⟨Y.K,H1⟩ H (AF c) o:=by
 cases c with
 | no=>trivial
 | ex=>trivial
 | sh f d=>obtain⟨v,q,r⟩:=h;exact⟨v,q,Rp.anti Same.emp d r⟩
 | ow f ds=>obtain⟨v,q,r⟩:=h;exact⟨v,q,Rp.anti Same.emp _ r⟩
theorem RepS.sigs{Y:Ky}{H H1:Hp}{ρ:Rho}{σ:St}{nt:Nat}{js:List Nat}(h:RepS Y H ρ σ)(hj:∀ j∈js,j<σ.length)(h1:Same H1 H):RepS ⟨Y.K,H1⟩ H (sigD nt js ρ) (sig nt js σ):=by
 unfold sigD sig
 refine⟨by simp,h1,fun i c q=>?_⟩
 by_cases hi:i<nt
 · rw[List.getElem?_append_left (by simpa using hi),List.getElem?_replicate,if_pos hi]at q
   cases q
   exact⟨none,by rw[List.getElem?_append_left (by simpa using hi),List.getElem?_replicate,if_pos hi],trivial⟩
 · rw[List.getElem?_append_right (by simp;omega),List.length_replicate,List.getElem?_map]at q
   rw[List.getElem?_append_right (by simp;omega),List.length_replicate,List.getElem?_map]
   cases ej:js[i-nt]? with
   | none=>rw[ej]at q;cases q
   | some j =>
    rw[ej]at q
    have hlt:=hj j (List.mem_of_getElem? ej)
    have hlt':j<ρ.length:=by rw[h.len];exact hlt
    rw[Option.map_some,List.getElem?_eq_getElem hlt']at q
    cases q
    obtain⟨o,e1,e2⟩:=h.at_ j _ (List.getElem?_eq_getElem hlt')
    refine⟨o,?_,e2.shS⟩
    rw[Option.map_some,e1];rfl
def frE(t:Hp→TE)(H1:Hp):TE:=fun σ H Q=>∃ A:List Addr,(∀ a∈A,(∃ vs,H a=some (.lst vs))∧H1 a=none)∧t H1 σ (hidL A H) fun v H'=>(∀ a∈A,H' a=none)→Q v (v0 A H H')
def frT(t:Hp→TT)(H1:Hp):TT:=fun σ H Q=>∃ A:List Addr,(∀ a∈A,(∃ vs,H a=some (.lst vs))∧H1 a=none)∧t H1 σ (hidL A H) fun v H'=>(∀ a∈A,H' a=none)→Q v (v0 A H H')
theorem PTs.frame{Y:Cx}{ifs:List Expr}{t:Hp→TT}(h:PTs Y ifs (t Y.H₀)):PTs Y ifs (frT t Y.H₀):=by
 intro pins s σ H Q I ⟨A,hA,z⟩
 refine thn (h _ s σ _ _ (I.hide hA) z) ?_
 rintro u s' ⟨H',J,q⟩
 obtain⟨hn,J'⟩:=I.unhide hA J
 exact⟨_,J',q hn⟩
theorem N9{D:Addr}{H:Hp}{o:HO}:hidL [D] (upd H D o)=hidL [D] H:=funext fun b=>by
 by_cases q:b=D
 · subst q;rw[J0 (by simp),J0 (by simp)]
 · rw[m6 (by simpa using q),m6 (by simpa using q),o6 q]
theorem BJ{D:Addr}{H:Hp}(h:H D=none):hidL [D] H=H:=funext fun b=>by
 by_cases q:b=D
 · subst q;rw[J0 (by simp),h]
 · rw[m6 (by simpa using q)]
section
variable {X:Cx}{N:List Str}{scope:Scope}{nt:Nat}{js:List Nat}{tg elt iter:Expr}{ifs:List Expr}{Fi:FI}{g:Tg}{Fc:FT}{Fe:FE}{pos:Pos}
theorem RpFs.append{Y:Ky}{H H':Hp}:∀{xs ys:List Dv} {vs ws:List V},RpFs Y H xs H' vs→RpFs Y H ys H' ws→RpFs Y H (xs++ys) H' (vs++ws)
 | [],ys,vs,ws,h,h'=>by rw[show vs=[]from h];exact h'
 | x::xs,ys,vs,ws,⟨v,r,e,h1,h2⟩,h'=>⟨v,r++ws,by rw[e];rfl,h1,RpFs.append h2 h'⟩
def RpE(Y:Ky)(x:Dv)(H':Hp)(v:V):Prop:=if x.1.isFr then Rp Y.K Y.H₀ x.2 H' v else Rp Y.K emp x.2 H' v
def RpEs(Y:Ky):List Dv→Hp→List V→Prop
 | [],_,vs=>vs=[]
 | x::xs,H',vs=>∃ v r,vs=v::r∧RpE Y x H' v∧RpEs Y xs H' r
theorem RpE.of{Y:Ky}{H H':Hp}{x:Dv}{v:V}(h0:Same Y.H₀ H)(h:RpF Y H x.1 x.2 H' v):RpE Y x H' v:=by
 unfold RpE
 by_cases q:x.1.isFr=true
 · rw[if_pos q];exact h.fr h0 q
 · rw[if_neg q];exact h.sh
theorem RpE.mono{Y:Ky}{H H':Hp}{x:Dv}{v:V}(h:RpE Y x H v)(s:Same H H'):RpE Y x H' v:=by
 unfold RpE at h ⊢
 by_cases q:x.1.isFr=true
 · rw[if_pos q]at h ⊢;exact Rp.mono _ s h
 · rw[if_neg q]at h ⊢;exact Rp.mono _ s h
theorem RpEs.mono{Y:Ky}{H H':Hp}(s:Same H H'):∀{xs:List Dv} {vs:List V},RpEs Y xs H vs→RpEs Y xs H' vs
 | [],vs,h=>h
 | x::xs,vs,⟨v,r,e,h1,h2⟩=>⟨v,r,e,h1.mono s,RpEs.mono s h2⟩
theorem RpEs.append{Y:Ky}{H':Hp}:∀{xs ys:List Dv} {vs ws:List V},RpEs Y xs H' vs→RpEs Y ys H' ws→RpEs Y (xs++ys) H' (vs++ws)
 | [],ys,vs,ws,h,h'=>by rw[show vs=[]from h];exact h'
 | x::xs,ys,vs,ws,⟨v,r,e,h1,h2⟩,h'=>⟨v,r++ws,by rw[e];rfl,h1,RpEs.append h2 h'⟩
theorem RpEs.length{Y:Ky}{H':Hp}:∀{xs:List Dv} {vs:List V},RpEs Y xs H' vs→vs.length=xs.length
 | [],vs,h=>by rw[show vs=[]from h];rfl
 | x::xs,vs,⟨v,r,e,_,h2⟩=>by rw[e,List.length_cons,List.length_cons,RpEs.length h2]
theorem RpEs.sh{Y:Ky}{H':Hp}:∀{xs:List Dv} {vs:List V},RpEs Y xs H' vs→Rps Y.K emp (sndL xs) H' vs
 | [],vs,h=>Rps.nil_.mpr h
 | x::xs,vs,⟨v,r,e,h1,h2⟩=>by
  refine Rps.cons_.mpr ⟨v,r,e,?_,RpEs.sh h2⟩
  unfold RpE at h1
  split at h1
  · exact Rp.anti Same.emp _ h1
  · exact h1
theorem RpEs.fr{Y:Ky}{H':Hp}:∀{xs:List Dv} {vs:List V},F9 xs=true→RpEs Y xs H' vs→Rps Y.K Y.H₀ (sndL xs) H' vs
 | [],vs,_,h=>Rps.nil_.mpr h
 | x::xs,vs,q,⟨v,r,e,h1,h2⟩=>by
  unfold F9 at q
  rw[Bool.and_eq_true]at q
  refine Rps.cons_.mpr ⟨v,r,e,?_,RpEs.fr q.2 h2⟩
  unfold RpE at h1
  rw[if_pos q.1]at h1
  exact h1
theorem IF{σ:St}{H:Hp}{Q:VK}(hj:∀ j∈js,j<σ.length)(h:upF X (o7 nt js Fi g Fc Fe) σ H Q):
   Iz nt js (upI X Fi) (g.low X.K) (frT fun H1=>upBK ⟨X.K,H1⟩ Fc) (frE fun H1=>upK ⟨X.K,H1⟩ Fe) σ H Q:=by
 obtain⟨ρ,f,d,rs,e0,k⟩:=h
 obtain⟨items,ei,e1⟩:=f8 e0
 obtain⟨vs0,ec,e2⟩:=f8 e1
 cases e2
 clear e0 e1
 refine⟨ρ,items,rs,ei,fun J H1 sm hsz wk D hD=>?_⟩
 have nD:H D=none:=sm.free hD
 refine⟨fun i m ys H2=>m=items.length-i∧H2 D=some (.lst ys)∧Same H1 (hidL [D] H2)∧∃ ds rest,RpEs ⟨X.K,H1⟩ ds (hidL [D] H2) ys∧G2 g Fc Fe (sigD nt js ρ) (items.drop i)=some rest∧ds++rest=vs0,⟨_,rfl,p6,?_,[],vs0,rfl,ec,rfl⟩,?_⟩
 · rw[N9,BJ hD];exact Same.refl _
 rintro i m ys H2 ⟨rfl,e2,s2,ds,rest,r2,c2,es⟩
 obtain⟨w1,w2⟩:=wk [D] H2 s2 (fun a ha=>by rw[List.mem_singleton.mp ha];exact⟨_,e2⟩)
 by_cases hlt:i<items.length
 · obtain⟨x,hx⟩:∃ x,items[i]?=some x:=⟨_,List.getElem?_eq_getElem hlt⟩
   have hdrop:items.drop i=x::items.drop (i+1):=by
     rw[List.drop_eq_getElem_cons hlt]
     rw[List.getElem?_eq_getElem hlt]at hx
     cases hx;rfl
   rw[hdrop]at c2
   unfold G2 at c2
   obtain⟨ρ1,p1,c3⟩:=f8 c2
   obtain⟨b,p2,c4⟩:=f8 c3
   obtain⟨go,yl⟩:=w1 i x hx
   refine .inr ⟨go,fun xv H3 y3=>?_⟩
   obtain⟨s3,k3,r3⟩:=yl xv H3 y3
   have e3:H3 D=some (.lst ys):=by rw[k3 D (by simp)];exact e2
   have s13:Same H1 (hidL [D] H3):=s2.trans s3
   refine Tg.low_mono (Tg.sim (Y:=⟨X.K,H1⟩) (Hh:=hidL [D] H3) i9 ((rs.mono (sm.trans s13)).sigs hj s13) r3 p1) ?_
   rintro σ4 H4 ⟨eH,rs4⟩
   subst eH
   have own:∀{H':Hp},H' D=some (.lst ys)→∀ a∈[D],(∃ vs,H' a=some (.lst vs))∧H1 a=none:=fun{H'} z a ha=>by
     rw[List.mem_singleton.mp ha]
     exact⟨⟨ys,z⟩,hD⟩
   refine⟨[D],own e3,ρ1,b,rs4,p2,fun H5 s5 n5=>?_⟩
   have h5:hidL [D] (v0 [D] H4 H5)=H5:=B8 n5
   have e5:v0 [D] H4 H5 D=some (.lst ys):=by rw[J1 (by simp)];exact e3
   have m5:items.length-(i+1)<items.length-i:=by omega
   dsimp only
   cases b with
   | true =>
     rw[if_pos rfl]at c4 ⊢
     obtain⟨⟨fv,dv⟩,p3,c5⟩:=f8 c4
     obtain⟨rest',p4,c6⟩:=f8 c5
     cases c6
     have rs5:RepS ⟨X.K,H1⟩ H5 ρ1 σ4:=rs4.mono s5
     refine⟨[D],own e5,ρ1,fv,dv,by rw[h5];exact rs5,p3,fun v H6 s6 r6 n6=>?_⟩
     rw[h5]at s6 r6
     have h6:hidL [D] (v0 [D] (v0 [D] H4 H5) H6)=H6:=B8 n6
     have r2':RpEs ⟨X.K,H1⟩ ds H6 ys:=r2.mono (s3.trans (s5.trans s6))
     have hlen:ys.length<sizeLine:=by
       have a1:=Ai ec
       have a2:=r2.length
       rw[←es,List.length_append,List.length_cons]at a1
       omega
     refine⟨by rw[J1 (by simp)];exact e5,hlen,_,m5,rfl,p6,?_,ds++[(fv,dv)],rest',?_,p4,by rw[List.append_assoc];exact es⟩
     · rw[N9,h6];exact s13.trans (s5.trans s6)
     · rw[N9,h6];exact r2'.append ⟨v,[],rfl,RpE.of rs5.base r6,rfl⟩
   | false =>
     rw[if_neg Bool.false_ne_true]at c4 ⊢
     refine⟨_,m5,rfl,e5,?_,ds,rest,?_,c4,es⟩
     · rw[h5];exact s13.trans s5
     · rw[h5];exact r2.mono (s3.trans s5)
 · have hd:items.drop i=[]:=List.drop_of_length_le (by omega)
   rw[hd]at c2
   cases c2
   rw[List.append_nil]at es
   subst es
   refine .inl ⟨w2 i (by omega),k _ H2 (sm.trans (s2.trans i9)) ?_⟩
   by_cases q:F9 ds=true
   · rw[if_pos q]
     exact(Rp.lst_ (K:=X.K) (B:=H)).mpr ⟨D,ys,rfl,nD,e2,Rps.anti (show Same H H1 from sm) _ (r2.fr q)⟩
   · rw[if_neg q]
     exact⟨Rp.lst_.mpr ⟨D,ys,rfl,rfl,e2,r2.sh⟩,⟨_,rfl⟩,fun a e=>by cases e;exact nD⟩
theorem p_comp(S:CompScope X N scope nt js)(hc:X.calm=true)(hi:PFI X tg iter Fi)(hg:∀ cl C fp s H,PG (o3 X N scope cl C fp s H) tg (g.low X.K))(hb:g.below nt)
  (hcs:∀ cl C fp s H,PFTs (o3 X N scope cl C fp s H) ifs Fc) (he:∀ cl C fp s H,PF (o3 X N scope cl C fp s H) elt Fe) (hj:∀ j∈js,j<X.N.length)
  (hs:∀ x,foldedSetIterable iter X.env x=pure x:=by intro _;rfl):PF X (.ListComp elt [⟨tg,iter,ifs,0⟩] scope pos) (o7 nt js Fi g Fc Fe):=by
 intro pins s σ H Q I h
 exact NV S hc hi hg (Tg.ok hb) (fun cl C fp s H=>PTs.frame (t:=fun H1=>upBK ⟨X.K,H1⟩ Fc) (hcs cl C fp s H)) (fun cl C fp s H=>PE.frame (he cl C fp s H)) hs pins s σ H Q I (IF (fun j z=>by rw[I.len];exact hj j z) h)
end
end L2

end
section
set_option Elab.async false
set_option linter.all false
set_option maxRecDepth 100000
namespace L2
open PySem PySem.Spec PySem.W PyProof.Rows
def C2(h:Heap)(e:Addr)(c:Value):Prop:=∃ oe vs,h.get? e=some oe∧oe.data = .fields vs∧vs[2]?=some c
section
variable {M:Model}{A:Around}{E:Value→Shared→Prop}{s:Shared}{base:Heap}{env:Env}{outer l:List Env}{L e:Addr}{cls a0:Value}{Q:Unit→Shared→Prop}
theorem DQ{oe:Obj}{vs:Array Value}{head:Value}{hn:Bool}(hfr:A.frames=some (env::outer))(hl:s.heap.FunFrames base (env::outer))(hf:env.frame=some L)(g0:s.heap.get? e=some oe)(sb:base.StaysIn s.heap)(en:base.get? e=none)(gd:oe.data = .fields vs)(gs:1<vs.size)(ga:vs[0]?=some a0)
   (k:∀ h',Heap.NotedW base (env::outer) e oe.cls a0 (rawInt L) s.heap h'→(∀ c,vs[2]?=some c→C2 h' e c)→Q () { s with heap:=h' }) :
   wpAny M A (do let a ←frameOf env;let pl ←entryPlaceOf L hn;let b ←EntryCells.newEntry head a .none (rawInt L) .none pl;setField (.ref e) 1 b) Q E s:=by
 have nf:e ∉ (env::outer).filterMap (·.frame):=fun m=>by
   obtain⟨_,o,go,no⟩:=hl.mem m
   rw[g0]at go
   cases go
   exact no vs gd
 refine wpAny_bind (wpAny_frameOf_fun hfr hl hf fun hA so=>wpAny_bind (wpAny_entryPlaceOf fun pp ip=>?_))
 unfold EntryCells.newEntry newFields
 refine wpAny_bind (wpAny_newObj_type ?_ (ip.sizeOk5 _ _ _ _ _))
 generalize eo:({ cls := .type "traceback",dict:=none,data := .fields ([head,.ref L,.none,rawInt L,.none]++(if pp.isEmpty then List.replicate 6 Value.none else pp)).toArray }:Obj)=ot
 have g1:hA.get? e=some oe:=(so.2.1 e nf).trans g0
 have s1:base.StaysIn hA:=fun b o go=>(so.2.1 b fun m=>by rw[(hl.mem m).1]at go;cases go).trans (sb b o go)
 have g2:(hA.push ot).get? e=some oe:=Heap.get?_push_of_some _ g1
 refine wpAny_setField g2 gd gs (k _ ?_ ?_)
 all_goals
   have ne:hA.objs.size≠e:=Nat.ne_of_gt (Heap.lt_size g1)
   have d3:=Obj.data_mapFields gd (·.setIfInBounds 1 (Value.ref hA.objs.size))
   have g3:=Heap.get?_update_self (Obj.mapFields (·.setIfInBounds 1 (Value.ref hA.objs.size))) g2 (Obj.isFreed_of_fields d3)
 · have t3:((hA.push ot).update e (Obj.mapFields (·.setIfInBounds 1 (Value.ref hA.objs.size)))).get? hA.objs.size=some ot:=(Heap.get?_update_other _ _ (Ne.symm ne)).trans (Heap.get?_push_size hA (by rw[←eo];rfl))
   have kp:∀ b o,b≠e→hA.get? b=some o→((hA.push ot).update e (Obj.mapFields (·.setIfInBounds 1 (Value.ref hA.objs.size)))).get? b=some o:=fun b o n go=>by
     rw[Heap.get?_update_other _ _ (Ne.symm n)]
     exact Heap.get?_push_of_some _ go
   have nr:∀ b o,s.heap.get? b=some o→(∀ ws,o.data ≠ .fields ws)→b≠e:=fun b o go no q=>by
     rw[q,g0]at go
     cases go
     exact no vs gd
   refine⟨fun b o go=>kp b o (fun q=>by rw[q,en]at go;cases go) (s1 b o go),hl.of_keeps fun b o go no=>?_,⟨_,_,hA.objs.size,ot,_,g3,⟨Obj.cls_mapFields _ _,by rw[Array.getElem?_setIfInBounds_ne (by decide)];exact ga⟩,d3,by simp[gs],s1.fresh,ne,t3,by rw[←eo],by first|(simp;done)|(rcases ip with rfl|⟨_,_,_,_,_,_,_,rfl⟩<;>simp)⟩,fun b o go no=>?_⟩
   · obtain⟨sl,hs⟩:=so.2.2 b o go
     exact⟨_,kp b _ (nr b o go no) hs,rfl⟩
   · obtain⟨sl,hs⟩:=so.2.2 b o go
     exact⟨sl,kp b _ (nr b o go no) hs⟩
 · exact fun c hc=>⟨_,_,g3,d3,by rw[Array.getElem?_setIfInBounds_ne (by decide)];exact hc⟩
theorem DR(hfr:A.frames=some (env::outer))(hf:env.frame=some L)(fl:Heap.FlyingW base (env::outer) e cls a0 s.heap)
  (k:∀ h',Heap.HeldW base (env::outer) e cls a0 L h'→s.heap.UpToSlots h'→(∀ c,C2 s.heap e c→C2 h' e c)→Q () { s with heap:=h' }):wpAny M A (noteFrame (.ref e) env) Q E s:=by
 obtain⟨sb,en,hl,oe,vs,T,oT,ts,g0,⟨gc,ga⟩,gd,g1,nT,Te,gT,gt,g3⟩:=fl
 subst gc
 unfold noteFrame
 simp only[hf]
 refine wpAny_bind (wpAny_field g0 gd g1 ?_)
 rw[if_pos (show(Value.ref T != Value.none)=true from by simp)]
 refine wpAny_bind (wpAny_field gT gt g3 ?_)
 rw[if_neg (show ¬((Value.none==rawInt L)=true)from by simp[rawInt])]
 refine wpAny_bind (wpAny_setField gT gt (Array.getElem?_eq_some_iff.mp g3).1 ?_)
 have ot:∀ b,b≠T→(s.heap.update T (Obj.mapFields (·.setIfInBounds 3 Value.none))).get? b=s.heap.get? b:=fun b hb=>Heap.get?_update_other _ _ (Ne.symm hb)
 have nr:∀ b o,s.heap.get? b=some o→(∀ ws,o.data ≠ .fields ws)→b≠T:=fun b o go no q=>by
  rw[q,gT]at go
  cases go
  exact no ts gt
 refine DQ (s:={ s with heap:=s.heap.update T (Obj.mapFields (·.setIfInBounds 3 Value.none)) }) hfr (hl.of_keeps fun b o go no=>⟨o,(ot b (nr b o go no)).trans go,rfl⟩) hf ((ot e (Ne.symm Te)).trans g0)
  (fun b o go=>(ot b fun q=>by rw[q,nT]at go;cases go).trans (sb b o go)) en gd (Array.getElem?_eq_some_iff.mp g1).1 ga fun h' ⟨x1,x2,x3,x4⟩ x5=>k h' ⟨x1,en,x2,x3⟩ (fun b o go no=>x4 b o ((ot b (nr b o go no)).trans go) no) fun c ⟨oe',vs',y1,y2,y3⟩=>?_
 rw[g0]at y1
 cases y1
 rw[gd]at y2
 cases y2
 exact x5 c y3
theorem Z1{fl:Value}(sb:base.StaysIn s.heap)(hl:s.heap.FunFrames base l)(en:base.get? e=none)(ht:s.heap.TracedAtW base e cls a0 fl)
  (k:∀ h',Heap.FlyingW base l e cls a0 h'→s.heap.UpToSlots h'→(∀ c,C2 s.heap e c→C2 h' e c)→Q () { s with heap:=h' }):wpAny M A (setFlight (.ref e) none) Q E s:=by
 obtain⟨oe,vs,T,oT,ts,g0,gc,gd,g1,nT,Te,gT,gt,g3⟩:=ht
 have sz:3<ts.size:=(Array.getElem?_eq_some_iff.mp g3).1
 have ot:∀ b,b≠T→(s.heap.update T (Obj.mapFields (·.setIfInBounds 3 ((none:Option Addr).elim Value.none fun z=>rawInt z)))).get? b=s.heap.get? b:=fun b hb=>Heap.get?_update_other _ _ (Ne.symm hb)
 have nr:∀ b o,s.heap.get? b=some o→(∀ ws,o.data ≠ .fields ws)→b≠T:=fun b o go no q=>by
  rw[q,gT]at go
  cases go
  exact no ts gt
 unfold setFlight
 refine wpAny_bind (wpAny_field g0 gd g1 ?_)
 rw[if_pos (show(Value.ref T != Value.none)=true from by simp)]
 have e0:=(ot e (Ne.symm Te)).trans g0
 refine wpAny_setField gT gt sz (k _ ⟨fun b o go=>(ot b fun q=>by rw[q,nT]at go;cases go).trans (sb b o go),en,hl.of_keeps fun b o go no=>⟨o,(ot b (nr b o go no)).trans go,rfl⟩,oe,vs,T,_,_,e0,gc,gd,g1,nT,Te,Heap.get?_update_self _ gT (Obj.isFreed_of_fields (Obj.data_mapFields gt _)),Obj.data_mapFields gt _,by simp[sz]⟩
  (fun b o go no=>⟨o.slots,(ot b (nr b o go no)).trans go⟩) fun c ⟨oe',vs',y1,y2,y3⟩=>⟨oe',vs',(ot e (Ne.symm Te)).trans y1,y2,y3⟩)
theorem KE(hfr:A.frames=some (env::outer))(hf:env.frame=some L)(fl:Heap.FlyingW base (env::outer) e cls a0 s.heap)
  (k:∀ h',Heap.FlyingW base outer e cls a0 h'→s.heap.UpToSlots h'→(∀ c,C2 s.heap e c→C2 h' e c)→Q () { s with heap:=h' }):wpAny M A (leaving env (.ref e)) Q E s:=by
 unfold leaving
 refine wpAny_bind (DR hfr hf fl fun h1 ⟨x1,x2,x3,x4⟩ us cc=>Z1 (s:={ s with heap:=h1 }) x1 x3 x2 x4 fun h2 ⟨y1,y2,⟨_,_,y3⟩,y4⟩ us2 cc2=>k h2 ⟨y1,y2,y3,y4⟩ (us.trans us2) fun c z=>cc2 c (cc c z))
theorem made_c{h:Heap}{args:List Value}(hfr:A.frames=some (env::outer))(hf:env.frame=some L)(sb:base.StaysIn h)(hl:h.FunFrames base (env::outer))(hx:Heap.MadeExcOf h s.heap e cls args)
  (k:∀ h' t,Heap.FlyingW base outer e cls (.ref t) h'→s.heap.UpToSlots h'→C2 h' e .none→Q () { s with heap:=h' }):wpAny M A (leaving env (.ref e)) Q E s:=by
 obtain⟨t,g0,tn,gt⟩:=hx.there
 have fr:∀ b,h.get? b=none→base.get? b=none:=fun b hb=>by
  cases q:base.get? b with
  | none=>rfl
  | some o=>have:=sb b o q;rw[hb]at this;cases this
 unfold leaving noteFrame
 simp only[hf]
 refine wpAny_bind (wpAny_bind (wpAny_field g0 rfl (x := .none) rfl ?_))
 rw[if_neg (show ¬((Value.none != Value.none)=true)from by decide)]
 exact DQ (a0 := .ref t) hfr (hl.of_keeps fun b o hb _=>⟨o,hx.keeps b o hb,rfl⟩) hf g0 (fun b o hb=>hx.keeps b o (sb b o hb)) (fr e hx.new) rfl (show 1<6 by decide) rfl fun h1 ⟨x1,x2,x3,x4⟩ x5 =>
  Z1 (s:={ s with heap:=h1 }) x1 x2 (fr e hx.new) x3 fun h2 ⟨y1,y2,⟨_,_,y3⟩,y4⟩ us2 cc2=>k h2 t ⟨y1,y2,y3,y4⟩ (Heap.UpToSlots.trans x4 us2) (cc2 _ (x5 _ rfl))
end
end L2

end
section
set_option Elab.async false
set_option linter.all false
set_option maxRecDepth 100000
namespace L2
open PySem PySem.Spec PySem.W PyProof.Rows
def Fly(h0:Heap)(H:Hp)(e C:Addr)(c:Value)(h:Heap):Prop :=
 h0.get? e=none∧H e=none∧∃ oe vs T oT ts a0,h.get? e=some oe∧oe.cls = .ref C∧vs[0]?=some a0∧oe.data = .fields vs∧vs[1]?=some (.ref T)∧h0.get? T=none∧H T=none∧T≠e∧h.get? T=some oT∧oT.data = .fields ts∧ts[3]?=some .none∧vs[2]?=some c
def ctxO:Value→Option Addr
 | .none=>none
 | _=>some 0
theorem Bg{l:List Env}{env:Env}{a:Addr}(h:env∈l)(e:env.frame=some a):a∈frs l:=List.mem_filterMap.mpr ⟨env,h,e⟩
theorem UpToSlots.trans{h h1 h2:Heap}(a:h.UpToSlots h1)(b:h1.UpToSlots h2):h.UpToSlots h2:=fun c o e n=>by
 obtain⟨sl,e1⟩:=a c o e n
 obtain⟨sl2,e2⟩:=b c _ e1 n
 exact⟨sl2,e2⟩
section
variable {P:Program}{w:World}{fs ex:List Addr}{H0 H:Hp}{h0 h h':Heap}{l:List Env}{bas:Heap}{e C:Addr}{c:Value}
theorem KF(u:Un fs ex H0 H h0 h)(k:∀ b o o',h0.get? b=some o→h.get? b=some o'→b ∉ frs l→h'.get? b=some o')(sl:∀ b∈frs l,∀ o,h.get? b=some o→∃ z,h'.get? b=some { o with slots:=z })
  (hf:∀ b∈frs l,b∈fs∨h0.get? b=none):Un fs ex H0 H h0 h' where
 keep:=fun b o q n hb hx=>k b o o q (u.keep b o q n hb hx) fun z=>(hf b z).elim hb fun e=>by rw[e]at q;cases q
 slot:=fun b o q n hb hx=>by
  obtain⟨z,e⟩:=u.slot b o q n hb hx
  by_cases m:b∈frs l
  · obtain⟨z',e'⟩:=sl b m _ e
    exact⟨z',e'⟩
  · exact⟨z,k b o _ q e m⟩
 free:=u.free
 there:=fun b o q hx=>by
  obtain⟨o',e⟩:=u.there b o q hx
  by_cases m:b∈frs l
  · obtain⟨z',e'⟩:=sl b m _ e
    exact⟨_,e'⟩
  · exact⟨_,k b o _ q e m⟩
 tups:=u.tups
 frzs:=u.frzs
 tbls:=u.tbls
theorem ObjOk.obj{a:Addr}{o:HO}(x:ObjOk P w H h a o):∃ ob,h.get? a=some ob:=by
 cases o with
 | lst xs=>obtain⟨_,_,_,_,e⟩:=x;exact⟨_,e⟩
 | tup xs=>obtain⟨_,_,_,_,e,_⟩:=x;exact⟨_,e⟩
 | dK kvs=>obtain⟨_,_,_,_,o,_,_,e,_⟩:=x;exact⟨_,e⟩
 | dT kvs=>obtain⟨_,_,_,_,o,_,_,e,_⟩:=x;exact⟨_,e⟩
 | set S n=>obtain⟨o,_,_,_,e,_⟩:=x;exact⟨_,e⟩
 | ins C dx fs=>obtain⟨_,_,_,e,_⟩:=x;exact⟨_,e⟩
 | own y=>obtain⟨_,e⟩:=x;exact⟨_,e⟩
 | xd fs=>obtain⟨_,⟨_,_,_,e,_⟩,_⟩:=x;exact⟨_,e⟩
 | rng lo hi=>obtain⟨_,_,_,e⟩:=x;exact⟨_,e⟩
 | frz ob u=>obtain⟨e,_⟩:=x;exact⟨_,e⟩
 | tbl ps=>exact⟨_,show h.get? a=some _ from x⟩
 | met f y=>exact⟨_,show h.get? a=some _ from x⟩
 | ext φ=>obtain⟨_,⟨_,e⟩,_⟩:=x;exact⟨_,e⟩
theorem Bh(hok:HOk P w H h)(k:∀ b o,H b≠none→h.get? b=some o→h'.get? b=some o):HOk P w H h':=fun b ob e =>
 (hok b ob e).stay (fun c v hc q=>k c v (by
  rcases hc with rfl|hc
  · rw[e];exact fun z=>nomatch z
  · rw[hc];exact fun z=>nomatch z) q) (fun _ q=>q) fun _ _ q=>q
theorem Fly.c2(f:Fly h0 H e C c h):C2 h e c:=by
 obtain⟨n,n2,oe,vs,T,oT,ts,a0,q1,q2,q3,q4,q5,q6,q7,q8,q9,q10,q11,q12⟩:=f
 exact⟨oe,vs,q1,q4,q12⟩
theorem Fly.base(f:Fly h0 H e C c h)(ff:h.FunFrames bas l):∃ T a0,h0.get? T=none∧H T=none∧(hideAll h (e::T::frs l)).FlyingW l e (.ref C) a0 h:=by
 obtain⟨n,n2,oe,vs,T,oT,ts,a0,q1,q2,q3,q4,q5,q6,q7,q8,q9,q10,q11,_⟩:=f
 refine⟨T,a0,q6,q7,fun b o z=>of_hideAll _ z,hideAll_none _ (by simp),funFrames_hide ff fun env he a ea=>by simp[Bg he ea],oe,vs,T,oT,ts,q1,⟨q2,q3⟩,q4,q5,hideAll_none _ (by simp),q8,q9,q10,q11⟩
theorem Fly.step{T:Addr}{l':List Env}{a0:Value}(n:h0.get? e=none)(n2:H e=none)(n3:h0.get? T=none)(n4:H T=none)(ff:h.FunFrames bas l)(st:∀ b∈frs l,H b=none)(hok:HOk P w H h)(u:Un fs ex H0 H h0 h)
   (f:(hideAll h (e::T::frs l)).FlyingW l' e (.ref C) a0 h') (us:h.UpToSlots h') (hf:∀ b∈frs l,b∈fs∨h0.get? b=none) (hx:∀ b o,h0.get? b=some o→b ∉ ex) (cc:C2 h' e c):Fly h0 H e C c h'∧HOk P w H h'∧Un fs ex H0 H h0 h':=by
 have sl:∀ b∈frs l,∀ o,h.get? b=some o→∃ z,h'.get? b=some { o with slots:=z }:=fun b hb o q=>by
   obtain⟨_,o',q',nf⟩:=ff.mem hb
   rw[q]at q';cases q'
   exact us b o q nf
 have k:∀ b o,h.get? b=some o→b ∉ (e::T::frs l)→h'.get? b=some o:=fun b o q m=>f.1 b o (hideAll_get _ q m)
 obtain⟨s1,s2,s3,oe,vs,T',oT,ts,q1,⟨q2,q3⟩,q4,q5,q6,q7,q8,q9,q10⟩:=f
 have hT:T'=T∨h.get? T'=none:=by
   by_cases m:T'∈(e::T::frs l)
   · rcases List.mem_cons.mp m with z|m
     · exact absurd z q7
     · rcases List.mem_cons.mp m with z|m
       · exact .inl z
       · obtain⟨_,o,e1,nf⟩:=ff.mem m
         obtain⟨z,e2⟩:=sl T' m o e1
         rw[q8]at e2
         cases e2
         exact absurd q9 (nf ts)
   · refine .inr ?_
     cases z:h.get? T' with
     | none=>rfl
     | some o=>rw[hideAll_get _ z m]at q6;cases q6
 have q12:vs[2]?=some c:=by
   obtain⟨oe',vs',y1,y2,y3⟩:=cc
   rw[q1]at y1;cases y1
   rw[q4]at y2;cases y2
   exact y3
 refine⟨⟨n,n2,oe,vs,T',oT,ts,a0,q1,q2,q3,q4,q5,?_,?_,q7,q8,q9,q10,q12⟩,Bh hok fun b o hb q=>k b o q fun m=>?_,KF u (fun b o o' q q' m=>k b o' q' fun z=>?_) sl hf⟩
 · rcases hT with z|z
   · rw[z];exact n3
   · cases y:h0.get? T' with
     | none=>rfl
     | some o=>obtain⟨o',e'⟩:=u.there T' o y (hx T' o y);rw[z]at e';cases e'
 · rcases hT with z|z
   · rw[z];exact n4
   · cases y:H T' with
     | none=>rfl
     | some o =>
       obtain⟨ob,q⟩:=(hok T' o y).obj
       rw[z]at q;cases q
 · rcases List.mem_cons.mp m with z|m
   · exact hb (z ▸ n2)
   · rcases List.mem_cons.mp m with z|m
     · exact hb (z ▸ n4)
     · exact hb (st b m)
 · rcases List.mem_cons.mp z with z|z
   · rw[z,n]at q;cases q
   · rcases List.mem_cons.mp z with z|z
     · rw[z,n3]at q;cases q
     · exact m z
end
def CX1(P:Program)(w:World):CXT:=fun outer H s E e s' =>
 ∃ ea C H' c,e = .ref ea∧s'.os=s.os∧AllBare s'.gens∧Un (frs outer) [] H H' s.heap s'.heap∧HOk P w H' s'.heap∧Fly s.heap H' ea C c s'.heap∧E (.ref C) (ctxO c) H'
section
variable {P:Program}{w:World}{K:PySem.W.Frag}{mg:Str→Option Value}{base:Heap}{N:List Str}{qual:Str}{scope:Scope}{f:Addr}{cd:Value}{A:Around}{outer:List Env}{s₀:Shared}{H₀:Hp}{E:XK}
abbrev cx1(P:Program)(w:World)(K:PySem.W.Frag)(mg:Str→Option Value)(base:Heap)(N:List Str)(qual:Str)(scope:Scope)(f:Addr)(cd:Value)(A:Around)(outer:List Env)(s₀:Shared)(H₀:Hp)(E:XK):Cx:=cxOf (CX1 P w) P w K mg base N qual scope f cd A outer s₀ H₀ E
theorem pass1:D9 (CX1 P w) (cx1 P w K mg base N qual scope f cd A outer s₀ H₀ E) E:=by
 rintro pins σ H s e s' I ⟨ea,C,H',c,rfl,os,bare,un,hok,fly,hE⟩
 have I':Inv (cx1 P w K mg base N qual scope f cd A outer s₀ H₀ E) pins σ H' s':=I.call' os un hok bare fun b z=>absurd z (by simp)
 have ff:=I'.stack
 obtain⟨T,a0,n3,n4,fl⟩:=fly.base ff
 have c2:=fly.c2
 obtain⟨n1,n2,_⟩:=fly
 have old:∀{b:Addr},s.heap.get? b=none→s₀.heap.get? b=none:=fun{b} z=>by
  cases y:s₀.heap.get? b with
  | none=>rfl
  | some o=>obtain⟨o',e'⟩:=I.base.there b o y (by show b ∉ ([]:List Addr);simp);rw[z]at e';cases e'
 refine KE I'.ok.frames rfl fl fun h' fl' us cc=>?_
 have hf:∀ b∈frs (envOfC qual scope s₀.heap.objs.size f cd::outer),b∈frs outer∨s₀.heap.get? b=none:=fun b hb=>by
  rcases List.mem_cons.mp (I'.stkSub b hb)with z|z
  · rw[z];exact .inr (Heap.get?_none_of_le (Nat.le_refl _))
  · exact .inl z
 obtain⟨f1,f2,f3⟩:=Fly.step (P:=P) (w:=w) (old n1) n2 (old n3) n4 ff I'.stkFree I'.hok I'.base fl' us hf (fun b o _=>by show b ∉ ([]:List Addr);simp) (cc c c2)
 exact⟨ea,C,H',c,rfl,I'.os,I'.bare,f3,f2,f1,hE⟩
theorem rais1{pins:List (Addr×Obj)}{σ:St}{H:Hp}{s s':Shared}{ea C:Addr}{args:List Value}(I:Inv (cx1 P w K mg base N qual scope f cd A outer s₀ H₀ E) pins σ H s)(m:s.heap.MadeExcOf s'.heap ea (.ref C) args)(os:s'.os=s.os)(gn:s'.gens=s.gens)(hE:E (.ref C) none H):
  (cx1 P w K mg base N qual scope f cd A outer s₀ H₀ E).xe (.ref ea) s':=by
 have ff:=I.stack
 have old:∀{b:Addr},s.heap.get? b=none→s₀.heap.get? b=none:=fun{b} z=>by
  cases y:s₀.heap.get? b with
  | none=>rfl
  | some o=>obtain⟨o',e'⟩:=I.base.there b o y (by show b ∉ ([]:List Addr);simp);rw[z]at e';cases e'
 have unt:∀{b:Addr},s.heap.get? b=none→H b=none:=fun{b} z=>by
  cases y:H b with
  | none=>rfl
  | some o=>obtain⟨o',e'⟩:=(I.hok b o y).obj;rw[z]at e';cases e'
 refine made_c (base:=hideAll s.heap (frs (envOfC qual scope s₀.heap.objs.size f cd::outer))) (h:=s.heap) I.ok.frames rfl (fun b o z=>of_hideAll _ z) (funFrames_hide ff fun env he a ea=>Bg he ea) m fun h' t fl' us cc=>?_
 have hf:∀ b∈frs (envOfC qual scope s₀.heap.objs.size f cd::outer),b∈frs outer∨s₀.heap.get? b=none:=fun b hb=>by
  rcases List.mem_cons.mp (I.stkSub b hb)with z|z
  · rw[z];exact .inr (Heap.get?_none_of_le (Nat.le_refl _))
  · exact .inl z
 have sl:∀ b∈frs (envOfC qual scope s₀.heap.objs.size f cd::outer),∀ o,s.heap.get? b=some o→∃ z,h'.get? b=some { o with slots:=z }:=fun b hb o q=>by
  obtain⟨_,o',q',nf⟩:=ff.mem hb
  rw[q]at q';cases q'
  exact us b o (m.keeps b o q) nf
 have k:∀ b o,s.heap.get? b=some o→b ∉ frs (envOfC qual scope s₀.heap.objs.size f cd::outer)→h'.get? b=some o:=fun b o q n=>fl'.1 b o (hideAll_get _ q n)
 obtain⟨s1,s2,s3,oe,vs,T,oT,ts,q1,⟨q2,q3⟩,q4,q5,q6,q7,q8,q9,q10⟩:=fl'
 have q12:vs[2]?=some .none:=by
  obtain⟨oe',vs',y1,y2,y3⟩:=cc
  rw[q1]at y1;cases y1
  rw[q4]at y2;cases y2
  exact y3
 have hT:s.heap.get? T=none:=by
  by_cases mT:T∈frs (envOfC qual scope s₀.heap.objs.size f cd::outer)
  · obtain⟨_,o,e1,nf⟩:=ff.mem mT
    obtain⟨z,e2⟩:=sl T mT o e1
    rw[q8]at e2
    cases e2
    exact absurd q9 (nf ts)
  · cases z:s.heap.get? T with
    | none=>rfl
    | some o=>rw[hideAll_get _ z mT]at q6;cases q6
 refine⟨ea,C,H,.none,rfl,os.trans I.os,by rw[gn];exact I.bare,KF (l:=envOfC qual scope s₀.heap.objs.size f cd::outer) I.base (fun b o o' _ q' n=>k b o' q' n) sl hf,Bh I.hok fun b o hb q=>k b o q fun z=>hb (I.stkFree b z),⟨old m.new,unt m.new,oe,vs,T,oT,ts,_,q1,q2,q3,q4,q5,old hT,unt hT,q7,q8,q9,q10,q12⟩,hE⟩
end
def exN:Nat→Str
 | 0 => "HallError"
 | 1 => "NoHall"
 | 2 => "NoBasket"
 | 3 => "NoPlace"
 | 4 => "NoText"
 | 5 => "Unlike"
 | 6 => "TooMany"
 | 8 => "NoText"
 | _ => "NotWithin"
def wk(n:Nat):Bool:=n==8
def HFly(h0:Heap)(H:Hp)(e C L:Addr)(c:Value)(h:Heap):Prop :=
 h0.get? e=none∧H e=none∧∃ oe vs T oT ts a0,h.get? e=some oe∧oe.cls = .ref C∧vs[0]?=some a0∧oe.data = .fields vs∧vs[1]?=some (.ref T)∧h0.get? T=none∧H T=none∧T≠e∧h.get? T=some oT∧oT.data = .fields ts∧ts[3]?=some (rawInt L)∧vs[2]?=some c
def Aj(X:Cx)(E:XK):Prop:=∀(pins:List (Addr×Obj)) (σ:St) (H:Hp) (s:Shared) (ea C L:Addr) (c:Value),X.env.frame=some L→Inv X pins σ H s→HFly X.s₀.heap H ea C L c s.heap→E (.ref C) (ctxO c) H→X.xe (.ref ea) s
theorem landH1{P:Program}{w:World}{K:PySem.W.Frag}{mg:Str→Option Value}{base:Heap}{N:List Str}{qual:Str}{scope:Scope}{f:Addr}{cd:Value}{A:Around}{outer:List Env}{s₀:Shared}{H₀:Hp}{E:XK}:
  Aj (cx1 P w K mg base N qual scope f cd A outer s₀ H₀ E) E:=by
 rintro pins σ H s ea C L c hL I ⟨n1,n2,oe,vs,T,oT,ts,a0,q1,q2,q3,q4,q5,n3,n4,q8,q9,q10,q11,q12⟩ hE
 have ff:=I.stack
 have hh:(hideAll s.heap (ea::T::frs (envOfC qual scope s₀.heap.objs.size f cd::outer))).HeldW (envOfC qual scope s₀.heap.objs.size f cd::outer) ea (.ref C) a0 L s.heap :=
  ⟨fun b o z=>of_hideAll _ z,hideAll_none _ (by simp),funFrames_hide ff fun env he a ea=>by simp[Bg he ea],oe,vs,T,oT,ts,q1,⟨q2,q3⟩,q4,q5,hideAll_none _ (by simp),q8,q9,q10,q11⟩
 show wpAny _ _ (leaving _ _) _ _ _
 unfold leaving
 refine wpAny_bind (wpAny_noteFrame_againW hL hh.2.2.2 (Z1 hh.1 hh.2.2.1 hh.2.1 hh.2.2.2 fun h' fl' us cc=>?_))
 have hf:∀ b∈frs (envOfC qual scope s₀.heap.objs.size f cd::outer),b∈frs outer∨s₀.heap.get? b=none:=fun b hb=>by
  rcases List.mem_cons.mp (I.stkSub b hb)with z|z
  · rw[z];exact .inr (Heap.get?_none_of_le (Nat.le_refl _))
  · exact .inl z
 obtain⟨f1,f2,f3⟩:=Fly.step (P:=P) (w:=w) n1 n2 n3 n4 ff I.stkFree I.hok I.base fl' us hf (fun b o _=>by show b ∉ ([]:List Addr);simp) (cc c ⟨oe,vs,q1,q4,q12⟩)
 exact⟨ea,C,H,c,rfl,I.os,I.bare,f3,f2,f1,hE⟩
def XOk(X:Cx)(H₀:Hp)(wk:Bool)(C:Addr):Prop:=∃ E:XK,(∀ H o,Same H₀ H→(o=none∨wk=true)→E (.ref C) o H)∧D9 (CX1 X.prog X.w) X E ∧
 (∀(pins:List (Addr×Obj)) (σ:St) (H:Hp) (s s':Shared) (ea:Addr) (args:List Value),Inv X pins σ H s→s.heap.MadeExcOf s'.heap ea (.ref C) args→s'.os=s.os→s'.gens=s.gens→E (.ref C) none H→X.xe (.ref ea) s')∧Aj X E
theorem XOk.base{X:Cx}{H₀ H1:Hp}{wk:Bool}{C:Addr}(h:XOk X H₀ wk C)(s:Same H₀ H1):XOk X H1 wk C:=by
 obtain⟨E,a,b,c⟩:=h
 exact⟨E,fun H o z=>a H o (s.trans z),b,c⟩
theorem xok1{P:Program}{w:World}{K:PySem.W.Frag}{mg:Str→Option Value}{base:Heap}{N:List Str}{qual:Str}{scope:Scope}{f:Addr}{cd:Value}{A:Around}{outer:List Env}{s₀:Shared}{H₀:Hp}{E:XK}{wk:Bool}{C:Addr}(h:∀ H o,Same H₀ H→(o=none∨wk=true)→E (.ref C) o H):
 XOk (cx1 P w K mg base N qual scope f cd A outer s₀ H₀ E) H₀ wk C:=⟨E,h,pass1,fun pins σ H s s' ea args I m os gn hE=>rais1 I m os gn hE,landH1⟩
end L2

end
section
local macro_rules|`(tactic| omega)=>`(tactic| first|lia|omega +splitDisjunctions)
set_option Elab.async false
set_option linter.all false
set_option maxRecDepth 100000
namespace L2
open PySem PySem.Spec PyProof.Rows
abbrev Own:=List (Nat×Addr)
abbrev Own.adr(O:Own):List Addr:=O.map (·.2)
def KG(X:Cx)(H:Hp)(O:Own)(i:Nat):Cell→Option V→Prop
 | .no,_=>True
 | .ex,o=>∃ a φ,o=some (.ref a)∧hidL O.adr H a=some (.ext φ)∧∀ h,φ h→Kp X.K a h
 | .sh f d,o=>∃ v,o=some v∧Rp X.K (bsOf X.ky f) d (hidL O.adr H) v
 | .ow f ds,o=>∃ a vs,(i,a)∈O∧o=some (.ref a)∧H a=some (.lst vs)∧Rps X.K (bsOf X.ky f) ds (hidL O.adr H) vs
structure RepO(X:Cx)(H₀ H:Hp)(O:Own)(ρ:Rho)(σ:St):Prop where
 ndA:O.adr.Nodup
 ndI:(O.map (·.1)).Nodup
 own:OwnL X O.adr H
 len:ρ.length=σ.length
 b0:Same X.H₀ H₀
 same:Same H₀ (hidL O.adr H)
 at_:∀(i:Nat) (c:Cell),ρ[i]?=some c→∃ o,σ[i]?=some o∧KG X H O i c o
def RepB(X:Cx)(H₀ H:Hp)(ρ:Rho)(σ:St):Prop:=∃ O,RepO X H₀ H O ρ σ
def C0:Cell→Cell
 | .ow _ _ => .no
 | c=>c
def z4:Rho→Rho
 | []=>[]
 | c::ρ=>C0 c::z4 ρ
theorem CW:∀ ρ:Rho,z4 ρ=ρ.map C0
 | []=>rfl
 | c::ρ=>by rw[z4,CW ρ,List.map_cons]
section
variable {X:Cx}{H₀ H H':Hp}{O:Own}{ρ:Rho}{σ:St}
theorem RepO.mono(h:RepO X H₀ H O ρ σ)(sm:Same H H'):RepO X H₀ H' O ρ σ:=by
 refine⟨h.ndA,h.ndI,fun a ha=>?_,h.len,h.b0,h.same.trans (A7 sm),fun i c e=>?_⟩
 · obtain⟨⟨vs,q⟩,z⟩:=h.own a ha
   exact⟨⟨vs,sm _ _ q⟩,z⟩
 · obtain⟨o,e1,e2⟩:=h.at_ i c e
   refine⟨o,e1,?_⟩
   cases c with
   | no=>trivial
   | ex=>obtain⟨a,φ,q,r,z⟩:=e2;exact⟨a,φ,q,A7 sm _ _ r,z⟩
   | sh f d=>obtain⟨v,q,r⟩:=e2;exact⟨v,q,Rp.mono _ (A7 sm) r⟩
   | ow f ds=>obtain⟨a,vs,q1,q2,q3,r⟩:=e2;exact⟨a,vs,q1,q2,sm _ _ q3,Rps.mono _ (A7 sm) r⟩
theorem RepO.base(h:RepO X H₀ H O ρ σ){H1:Hp}(sm:Same H1 H₀)(b:Same X.H₀ H1):RepO X H1 H O ρ σ:=⟨h.ndA,h.ndI,h.own,h.len,b,sm.trans h.same,h.at_⟩
theorem RepO.below(h:RepO X H₀ H O ρ σ):Same X.H₀ H:=h.b0.trans (h.same.trans i9)
theorem RepO.bsFree(h:RepO X H₀ H O ρ σ){a:Addr}(ha:a∈O.adr)(f:Bool):bsOf X.ky f a=none:=by
 cases f with
 | false=>rfl
 | true=>exact(h.own a ha).2
theorem O0{i:Nat}{a:Addr}(h:(i,a)∈O):a∈O.adr:=List.mem_map.mpr ⟨_,h,rfl⟩
theorem RepO.all(h:RepO X H₀ H O ρ σ):RepS X.ky H ρ σ:=by
 refine⟨h.len,h.below,fun i c e=>?_⟩
 obtain⟨o,e1,e2⟩:=h.at_ i c e
 refine⟨o,e1,?_⟩
 cases c with
 | no=>trivial
 | ex=>obtain⟨a,φ,q,r,z⟩:=e2;exact⟨a,φ,q,i9 _ _ r,z⟩
 | sh f d=>obtain⟨v,q,r⟩:=e2;exact⟨v,q,Rp.mono _ i9 r⟩
 | ow f ds =>
  obtain⟨a,vs,q1,q2,q3,r⟩:=e2
  exact⟨_,q2,Rp.lst_.mpr ⟨a,vs,rfl,h.bsFree (O0 q1) f,q3,Rps.mono _ (F6 fun b hb=>by rw[List.mem_singleton.mp hb];exact O0 q1) r⟩⟩
theorem RepO.rest(h:RepO X H₀ H O ρ σ):RepS X.ky (hidL O.adr H) (z4 ρ) σ:=by
 rw[CW]
 refine⟨by rw[List.length_map];exact h.len,h.b0.trans h.same,fun i c e=>?_⟩
 rw[List.getElem?_map]at e
 cases q:ρ[i]? with
 | none=>rw[q]at e;cases e
 | some c' =>
  rw[q]at e
  obtain⟨o,e1,e2⟩:=h.at_ i c' q
  refine⟨o,e1,?_⟩
  cases c' with
  | no=>cases e;trivial
  | ex=>cases e;exact e2
  | sh f d=>cases e;obtain⟨v,q,r⟩:=e2;exact⟨v,q,r⟩
  | ow f ds=>cases e;trivial
def E6(O:Own)(i:Nat):Own:=O.filter fun p=>p.1 != i
theorem B3{p:Nat×Addr}{i:Nat}:p∈E6 O i↔p∈O∧p.1≠i:=by
 unfold E6
 rw[List.mem_filter]
 simp
theorem u3{i:Nat}:∀ a∈(E6 O i).adr,a∈O.adr:=fun a ha=>by
 obtain⟨p,hp,e⟩:=List.mem_map.mp ha
 exact List.mem_map.mpr ⟨p,(B3.mp hp).1,e⟩
theorem RepO.set(h:RepO X H₀ H O ρ σ){i:Nat}{f:Bool}{d:Dt}{v:V}(r:Rp X.K (bsOf X.ky f) d (hidL O.adr H) v):RepO X H₀ H (E6 O i) (ρ.set i (.sh f d)) (σ.set i (some v)):=by
 have sm:Same (hidL O.adr H) (hidL (E6 O i).adr H):=F6 u3
 refine⟨h.ndA.sublist (List.Sublist.map _ (List.filter_sublist)),h.ndI.sublist (List.Sublist.map _ (List.filter_sublist)),fun a ha=>h.own a (u3 a ha),by rw[List.length_set,List.length_set];exact h.len,h.b0,h.same.trans sm,fun j c q=>?_⟩
 by_cases e:i=j
 · subst e
   rw[List.getElem?_set,if_pos rfl]at q
   rw[List.getElem?_set,if_pos rfl]
   split at q
   · rename_i hl
     cases q
     rw[if_pos (by rw[←h.len];exact hl)]
     exact⟨_,rfl,v,rfl,Rp.mono _ sm r⟩
   · cases q
 · rw[List.getElem?_set_ne e]at q ⊢
   obtain⟨o,e1,e2⟩:=h.at_ j c q
   refine⟨o,e1,?_⟩
   cases c with
   | no=>trivial
   | ex=>obtain⟨a,φ,q,r,z⟩:=e2;exact⟨a,φ,q,sm _ _ r,z⟩
   | sh f d=>obtain⟨v,q,r⟩:=e2;exact⟨v,q,Rp.mono _ sm r⟩
   | ow f ds=>obtain⟨a,vs,q1,q2,q3,r⟩:=e2;exact⟨a,vs,B3.mpr ⟨q1,fun z=>e z.symm⟩,q2,q3,Rps.mono _ sm r⟩
theorem Z2{D:Addr}{A:List Addr}{H:Hp}:hidL A (hidL [D] H)=hidL (D::A) H:=funext fun b=>by
 unfold hidL
 by_cases q1:b=D
 · subst q1;simp
 · by_cases q2:b∈A
   · simp[q1,q2]
   · simp[q1,q2]
theorem RepO.setNew(h:RepO X H₀ H' O ρ σ){i:Nat}{D:Addr}{f:Bool}{ds:List Dt}{vs:List V}(hi:i<ρ.length)(sm0:Same H' H)(hN:H' D=none)(hD:H D=some (.lst vs))(hn:D ∉ O.adr)(hX:X.H₀ D=none)
   (r:Rps X.K (bsOf X.ky f) ds (hidL (D::O.adr) H) vs):RepO X H₀ H ((i,D)::E6 O i) (ρ.set i (.ow f ds)) (σ.set i (some (.ref D))):=by
 have sub:∀ a∈(Own.adr ((i,D)::E6 O i)),a∈D::O.adr:=fun a ha=>by
   rcases List.mem_cons.mp ha with z|z
   · rw[z];exact List.mem_cons_self
   · exact List.mem_cons_of_mem _ (u3 a z)
 have sm:Same (hidL (D::O.adr) H) (hidL (Own.adr ((i,D)::E6 O i)) H):=F6 sub
 have sm1:Same H' (hidL [D] H):=fun b o e=>by
   rw[m6 (by rw[List.mem_singleton];rintro rfl;rw[hN]at e;cases e)];exact sm0 _ _ e
 have sm2:Same (hidL O.adr H') (hidL (D::O.adr) H):=by rw[←Z2];exact A7 sm1
 have nD:D ∉ (E6 O i).adr:=fun z=>hn (u3 D z)
 refine⟨List.nodup_cons.mpr ⟨nD,h.ndA.sublist (List.Sublist.map _ (List.filter_sublist))⟩,List.nodup_cons.mpr ⟨fun z=>?_,h.ndI.sublist (List.Sublist.map _ (List.filter_sublist))⟩,fun a ha=>?_,by rw[List.length_set,List.length_set];exact h.len,h.b0,h.same.trans (sm2.trans sm),fun j c q=>?_⟩
 · obtain⟨p,hp,e⟩:=List.mem_map.mp z
   exact(B3.mp hp).2 e
 · rcases List.mem_cons.mp ha with z|z
   · rw[z];exact⟨⟨vs,hD⟩,hX⟩
   · obtain⟨⟨ws,q⟩,z2⟩:=h.own a (u3 a z)
     exact⟨⟨ws,sm0 _ _ q⟩,z2⟩
 · by_cases e:i=j
   · subst e
     rw[List.getElem?_set,if_pos rfl,if_pos hi]at q
     rw[List.getElem?_set,if_pos rfl,if_pos (by rw[←h.len];exact hi)]
     cases q
     exact⟨_,rfl,D,vs,List.mem_cons_self,rfl,hD,Rps.mono _ sm r⟩
   · rw[List.getElem?_set_ne e]at q ⊢
     obtain⟨o,e1,e2⟩:=h.at_ j c q
     refine⟨o,e1,?_⟩
     cases c with
     | no=>trivial
     | ex=>obtain⟨a,φ,q,r,z⟩:=e2;exact⟨a,φ,q,(sm2.trans sm) _ _ r,z⟩
     | sh f d=>obtain⟨v,q,r⟩:=e2;exact⟨v,q,Rp.mono _ (sm2.trans sm) r⟩
     | ow f ds' =>
      obtain⟨a,vs',q1,q2,q3,r⟩:=e2
      exact⟨a,vs',List.mem_cons_of_mem _ (B3.mpr ⟨q1,fun z=>e z.symm⟩),q2,sm0 _ _ q3,Rps.mono _ (sm2.trans sm) r⟩
theorem IG{O:Own}(nd:O.adr.Nodup):∀{p q:Nat×Addr},p∈O→q∈O→p.2=q.2→p=q:=by
 induction O with
 | nil=>intro p q hp;cases hp
 | cons o O ih =>
  intro p q hp hq e
  have nd:(o.2::O.map (·.2)).Nodup:=nd
  obtain⟨n1,n2⟩:=List.nodup_cons.mp nd
  rcases List.mem_cons.mp hp with hp|hp<;>rcases List.mem_cons.mp hq with hq|hq
  · rw[hp,hq]
  · exact absurd (List.mem_map.mpr ⟨q,hq,by rw[←e,hp]⟩) n1
  · exact absurd (List.mem_map.mpr ⟨p,hp,by rw[e,hq]⟩) n1
  · exact ih n2 hp hq e
theorem Oh{O:Own}(nd:(O.map (·.1)).Nodup):∀{p q:Nat×Addr},p∈O→q∈O→p.1=q.1→p=q:=by
 induction O with
 | nil=>intro p q hp;cases hp
 | cons o O ih =>
  intro p q hp hq e
  have nd:(o.1::O.map (·.1)).Nodup:=nd
  obtain⟨n1,n2⟩:=List.nodup_cons.mp nd
  rcases List.mem_cons.mp hp with hp|hp<;>rcases List.mem_cons.mp hq with hq|hq
  · rw[hp,hq]
  · exact absurd (List.mem_map.mpr ⟨q,hq,by rw[←e,hp]⟩) n1
  · exact absurd (List.mem_map.mpr ⟨p,hp,by rw[e,hq]⟩) n1
  · exact ih n2 hp hq e
theorem Gp{A:List Addr}{a:Addr}{o:HO}{H:Hp}(h:a∈A):hidL A (upd H a o)=hidL A H:=funext fun b=>by
 by_cases q:b∈A
 · rw[J0 q,J0 q]
 · rw[m6 q,m6 q,o6 fun z=>q (by rw[z];exact h)]
theorem RepO.upd(h:RepO X H₀ H O ρ σ){i:Nat}{a:Addr}{f g:Bool}{ds ds0:List Dt}{vs:List V}(hc:ρ[i]?=some (.ow g ds0))(hi:(i,a)∈O)(r:Rps X.K (bsOf X.ky f) ds (hidL O.adr H) vs):
   RepO X H₀ (upd H a (.lst vs)) O (ρ.set i (.ow f ds)) σ:=by
 have ha:a∈O.adr:=O0 hi
 have hh:hidL O.adr (L2.upd H a (.lst vs))=hidL O.adr H:=Gp ha
 have hlt:i<ρ.length:=by
   by_cases hlt:i<ρ.length
   · exact hlt
   · rw[List.getElem?_eq_none (by omega)]at hc;cases hc
 refine⟨h.ndA,h.ndI,fun b hb=>?_,by rw[List.length_set];exact h.len,h.b0,by rw[hh];exact h.same,fun j c q=>?_⟩
 · by_cases e:b=a
   · subst e;exact⟨⟨vs,p6⟩,(h.own b hb).2⟩
   · rw[o6 e];exact h.own b hb
 · by_cases e:i=j
   · subst e
     rw[List.getElem?_set,if_pos rfl,if_pos hlt]at q
     cases q
     obtain⟨o,e1,a',vs',q1,q2,q3,r'⟩:=h.at_ i _ hc
     have e2:(i,a')=(i,a):=Oh h.ndI q1 hi rfl
     cases e2
     exact⟨o,e1,a,vs,hi,q2,p6,by rw[hh];exact r⟩
   · rw[List.getElem?_set_ne e]at q
     obtain⟨o,e1,e2⟩:=h.at_ j c q
     refine⟨o,e1,?_⟩
     cases c with
     | no=>trivial
     | ex=>obtain⟨b,φ,q,r,z⟩:=e2;exact⟨b,φ,q,by rw[hh];exact r,z⟩
     | sh f d=>obtain⟨v,q,r⟩:=e2;exact⟨v,q,by rw[hh];exact r⟩
     | ow f ds' =>
      obtain⟨b,vs',q1,q2,q3,r'⟩:=e2
      have hne:b≠a:=fun z=>by
       have:=IG h.ndA q1 hi z
       exact e (congrArg Prod.fst this).symm
      exact⟨b,vs',q1,q2,by rw[o6 hne];exact q3,by rw[hh];exact r'⟩
def relC:Cell→Cell
 | .ow f ds => .sh f (.lst ds)
 | c=>c
def CY(ρ:Rho)(i:Nat):Rho:=match ρ[i]? with|some c=>ρ.set i (relC c)|none=>ρ
def relS:List Nat→Rho→Rho
 | [],ρ=>ρ
 | i::is,ρ=>relS is (CY ρ i)
theorem RepO.rel(h:RepO X H₀ H O ρ σ)(i:Nat):RepO X H₀ H (E6 O i) (CY ρ i) σ:=by
 have sm:Same (hidL O.adr H) (hidL (E6 O i).adr H):=F6 u3
 have hl:(CY ρ i).length=ρ.length:=by
  unfold CY
  split
  · exact List.length_set
  · rfl
 refine⟨h.ndA.sublist (List.Sublist.map _ (List.filter_sublist)),h.ndI.sublist (List.Sublist.map _ (List.filter_sublist)),fun a ha=>h.own a (u3 a ha),hl.trans h.len,h.b0,h.same.trans sm,fun j c q=>?_⟩
 have other:∀{c:Cell},ρ[j]?=some c→(∀ f ds,c = .ow f ds→j≠i)→∃ o,σ[j]?=some o∧KG X H (E6 O i) j c o:=fun{c} q hne=>by
  obtain⟨o,e1,e2⟩:=h.at_ j c q
  refine⟨o,e1,?_⟩
  cases c with
  | no=>trivial
  | ex=>obtain⟨a,φ,q,r,z⟩:=e2;exact⟨a,φ,q,sm _ _ r,z⟩
  | sh f d=>obtain⟨v,q,r⟩:=e2;exact⟨v,q,Rp.mono _ sm r⟩
  | ow f ds=>obtain⟨a,vs,q1,q2,q3,r⟩:=e2;exact⟨a,vs,B3.mpr ⟨q1,hne f ds rfl⟩,q2,q3,Rps.mono _ sm r⟩
 unfold CY at q
 cases e:ρ[i]? with
 | none =>
  rw[e]at q
  exact other q fun f ds _ z=>by rw[z,e]at q;cases q
 | some c' =>
  rw[e]at q
  dsimp only at q
  by_cases hij:i=j
  · subst hij
    have hlt:i<ρ.length:=by
     by_cases hlt:i<ρ.length
     · exact hlt
     · rw[List.getElem?_eq_none (by omega)]at e;cases e
    rw[List.getElem?_set,if_pos rfl,if_pos hlt]at q
    cases q
    cases c' with
    | no=>obtain⟨o,e1,e2⟩:=h.at_ i _ e;exact⟨o,e1,trivial⟩
    | ex=>exact other e fun f ds z=>by cases z
    | sh f d=>exact other e fun f ds z=>by cases z
    | ow f ds =>
     obtain⟨o,e1,a,vs,q1,q2,q3,r⟩:=h.at_ i _ e
     have hna:a ∉ (E6 O i).adr:=fun z=>by
       obtain⟨p,hp,ep⟩:=List.mem_map.mp z
       have:=IG h.ndA (B3.mp hp).1 q1 ep
       exact(B3.mp hp).2 (by rw[this])
     refine⟨o,e1,.ref a,q2,Rp.lst_.mpr ⟨a,vs,rfl,h.bsFree (O0 q1) f,by rw[m6 hna];exact q3,Rps.mono _ ?_ r⟩⟩
     rw[Y4,Z2]
     refine F6 fun b hb=>?_
     rcases List.mem_cons.mp hb with z|z
     · rw[z];exact O0 q1
     · exact u3 b z
  · rw[List.getElem?_set_ne hij]at q
    exact other q fun f ds _ z=>hij z.symm
theorem RepO.rels(h:RepO X H₀ H O ρ σ):∀ is:List Nat,∃ O',RepO X H₀ H O' (relS is ρ) σ:=fun is=>by
 induction is generalizing O ρ with
 | nil=>exact⟨O,h⟩
 | cons i is ih=>exact ih (h.rel i)
end
inductive Oc where
 | nx (ρ:Rho)|rt (f:Fl) (d:Dt)|bk (ρ:Rho)|ct (ρ:Rho)|ex (n:Nat)
def OcOk(X:Cx)(H₀:Hp)(D:Ends):Oc→Prop
 | .nx ρ=>∀ σ H,RepB X H₀ H ρ σ→D.nx σ H
 | .rt f d=>∀ v H,Same H₀ H→Rp X.K (bsOf X.ky f.isFr) d H v→D.rt v H
 | .bk ρ=>∀ σ H,RepB X H₀ H ρ σ→D.bk σ H
 | .ct ρ=>∀ σ H,RepB X H₀ H ρ σ→D.ct σ H
 | .ex n=>∀ C,X.mg (exN n)=some (.ref C)→XOk X H₀ (wk n) C
abbrev FS:=Rho→Option Oc
def upS(X:Cx)(F:FS):TS:=fun D σ H=>∃ H₀ ρ oc,RepB X H₀ H ρ σ∧F ρ=some oc∧OcOk X H₀ D oc
def PFS(X:Cx)(st:Stmt)(F:FS):Prop:=PS X st (upS X F)
def PFSs(X:Cx)(sts:List Stmt)(F:FS):Prop:=PSs X sts (upS X F)
theorem PS.imp{X:Cx}{st:Stmt}{t t':TS}(h:PS X st t)(q:∀ D σ H,t' D σ H→t D σ H):PS X st t':=fun pins s σ H D I z=>h pins s σ H D I (q D σ H z)
theorem PSs.imp{X:Cx}{st:List Stmt}{t t':TS}(h:PSs X st t)(q:∀ D σ H,t' D σ H→t D σ H):PSs X st t':=fun pins s σ H D I z=>h pins s σ H D I (q D σ H z)
section
variable {X:Cx}{st:Stmt}{rest:List Stmt}{F G:FS}{e:Expr}{Fe:FE}{pos:Pos}
def m9:FS:=fun ρ=>some (.nx ρ)
def seqO(G:FS):Oc→Option Oc
 | .nx ρ=>G ρ
 | o=>some o
def sSeq(F G:FS):FS:=fun ρ=>(F ρ).bind (seqO G)
theorem j8:PFSs X [] m9:=NG.imp (by rintro D σ H ⟨H₀,ρ,oc,rb,e,k⟩;cases e;exact k σ H rb)
theorem g9(h:PFS X st F):PFSs X [st] F:=NH h
theorem g5(h1:PFS X st F)(h2:PFSs X rest G):PFSs X (st::rest) (sSeq F G):=(JV h1 h2).imp fun D σ H hZ=>hZ.elim fun H₀ hZ=>hZ.elim fun ρ hZ=>hZ.elim fun oc hZ=>hZ.elim fun rb hZ=>hZ.elim fun e k=>by
 obtain⟨o1,e1,e2⟩:=f8 e
 refine⟨H₀,ρ,o1,rb,e1,?_⟩
 cases o1 with
 | nx ρ'=>exact fun σ' H' rb'=>⟨H₀,ρ',oc,rb',e2,k⟩
 | rt f d=>cases e2;exact k
 | ex C=>cases e2;exact k
 | bk ρ'=>cases e2;exact k
 | ct ρ'=>cases e2;exact k
def O1:FS:=fun _=>none
theorem U2:PFS X st O1:=fun pins s σ H D I hZ=>hZ.elim fun H₀ hZ=>hZ.elim fun ρ hZ=>hZ.elim fun oc hZ=>hZ.elim fun rb hZ=>hZ.elim fun e k=>by cases e
def sRet(F:FE):FS:=fun ρ=>(F ρ).map fun x => .rt x.1 x.2
theorem o4(he:PF X e Fe):PFS X (.Return (some e) pos) (sRet Fe):=(JW he).imp fun D σ H ⟨H₀,ρ,oc,⟨O,rb⟩,e0,k⟩=>by
 unfold sRet at e0
 cases h:Fe ρ with
 | none=>rw[h]at e0;cases e0
 | some x =>
  rw[h]at e0
  cases e0
  refine⟨ρ,x.1,x.2,rb.all,h,fun v H' sm r=>k v H' (rb.same.trans (i9.trans sm)) ?_⟩
  by_cases q:x.1.isFr=true
  · rw[q];exact r.fr rb.below q
  · rw[show x.1.isFr=false by simpa using q];exact r.sh
def sIf(c:FT)(F G:FS):FS:=fun ρ=>(c ρ).bind fun b=>if b then F ρ else G ρ
theorem s_if{c:Expr}{a b:List Stmt}{Fc:FT}(hc:PFT X c Fc)(ha:PFSs X a F)(hb:PFSs X b G):PFS X (.If c a b pos) (sIf Fc F G):=(ps_if hc ha hb).imp fun D σ H ⟨H₀,ρ,oc,⟨O,rb⟩,e0,k⟩=>by
 obtain⟨z,e1,e2⟩:=f8 e0
 refine⟨ρ,z,rb.all,e1,fun H' sm=>?_⟩
 dsimp only
 cases z with
 | true=>rw[if_pos rfl]at e2 ⊢;exact⟨H₀,ρ,oc,⟨O,rb.mono sm⟩,e2,k⟩
 | false=>rw[if_neg Bool.false_ne_true]at e2 ⊢;exact⟨H₀,ρ,oc,⟨O,rb.mono sm⟩,e2,k⟩
def AG(F:FE):FS:=fun ρ=>(F ρ).map fun _ => .nx ρ
theorem Gq(he:PF X e Fe)(hs:swapsWith e none pos.line X.env=pure false:=by rfl):PFS X (.Expr e pos) (AG Fe):=(Y0 he hs).imp fun D σ H ⟨H₀,ρ,oc,⟨O,rb⟩,e0,k⟩=>by
 unfold AG at e0
 cases h:Fe ρ with
 | none=>rw[h]at e0;cases e0
 | some x =>
  rw[h]at e0
  cases e0
  exact⟨ρ,x.1,x.2,rb.all,h,fun v H' sm r=>k σ H' ⟨O,rb.mono sm⟩⟩
def AsgF(X:Cx)(st:Stmt)(i:Nat)(F:FE):Prop:=PS X st (tAsg (upF X F) (CJ i))
theorem A1{i:Nat}{x:Str}{pos':Pos}(he:PF X e Fe)(hN:X.N.Nodup)(hi:X.N[i]?=some x)(hx:Loc X.env.scope x)(hs:swapsWith e (some (.Name x pos')) pos.line X.env=pure false)(hf:X.fn x=true∨X.env.scope.names.lookup x=some .local):
 AsgF X (.Assign [.Name x pos'] e pos) i Fe:=JX hN hi hx he hs hf
theorem KH{N:List Str}{scope:Scope}{nt:Nat}{js:List Nat}{tg elt iter:Expr}{ifs:List Expr}{Fi:FI}{g:Tg}{Fc:FT}{i:Nat}{x:Str}{pos' spos:Pos}(hN:X.N.Nodup)(hix:X.N[i]?=some x)(hx:X.env.scope.names.lookup x=some .local)
  (hsw:swapsWith (.ListComp elt [⟨tg,iter,ifs,0⟩] scope pos) (some (.Name x pos')) spos.line X.env=pure true)
  (S:CompScope X N scope nt js) (hc:X.calm=true) (hi:PFI X tg iter Fi) (hg:∀ cl C fp s H,PG (o3 X N scope cl C fp s H) tg (g.low X.K)) (hb:g.below nt)
  (hcs:∀ cl C fp s H,PFTs (o3 X N scope cl C fp s H) ifs Fc) (he:∀ cl C fp s H,PF (o3 X N scope cl C fp s H) elt Fe) (hj:∀ j∈js,j<X.N.length)
  (hs:∀ x,foldedSetIterable iter X.env x=pure x:=by intro _;rfl):AsgF X (.Assign [.Name x pos'] (.ListComp elt [⟨tg,iter,ifs,0⟩] scope pos) spos) i (o7 nt js Fi g Fc Fe):=by
 intro pins s σ H D I h
 exact NW hN hix hx S hc hi hg (Tg.ok hb) (fun cl C fp s H=>PTs.frame (t:=fun H1=>upBK ⟨X.K,H1⟩ Fc) (hcs cl C fp s H)) (fun cl C fp s H=>PE.frame (he cl C fp s H)) hsw hs pins s σ H D I
  (IF (fun j z=>by rw[I.len];exact hj j z) h)
def sSet(rels:List Nat)(i:Nat)(F:FE):FS:=fun ρ=>(F (z4 (relS rels ρ))).map fun x => .nx ((relS rels ρ).set i (.sh x.1.isFr x.2))
theorem V3{rels:List Nat}{i:Nat}(ha:AsgF X st i Fe):PFS X st (sSet rels i Fe):=(PS.frame ha).imp fun D σ H ⟨H₀,ρ,oc,⟨O,rb⟩,e0,k⟩=>by
 unfold sSet at e0
 cases h:Fe (z4 (relS rels ρ)) with
 | none=>rw[h]at e0;cases e0
 | some x =>
  rw[h]at e0
  cases e0
  obtain⟨O',rb'⟩:=rb.rels rels
  refine⟨O'.adr,rb'.own,z4 (relS rels ρ),x.1,x.2,rb'.rest,h,fun v H' sm r hn=>?_⟩
  have hg:hidL O'.adr (v0 O'.adr H H')=H':=B8 hn
  have rb2:RepO X H₀ (v0 O'.adr H H') O' (relS rels ρ) σ:=rb'.mono (Same.glue sm hn)
  refine k _ _ ⟨_,rb2.set (f:=x.1.isFr) ?_⟩
  rw[hg]
  by_cases q:x.1.isFr=true
  · rw[q];exact r.fr (rb'.b0.trans rb'.same) q
  · rw[show x.1.isFr=false by simpa using q];exact r.sh
def IH(i:Nat)(F:FE):FS:=fun ρ=>(F ρ).bind fun x=>if x.1.isNw then some (.nx (ρ.set i (.sh true x.2))) else none
theorem Gr{H H':Hp}{O:Own}{f:Fl}{d:Dt}{v:V}(ho:OwnL X O.adr H)(sm:Same H H')(q:f.isNw=true)(r:RpF X.ky H f d H' v):Rp X.K H d (hidL O.adr H') v:=by
 cases f<;>first|cases q|skip
 refine Rp.hid (fun b hb=>?_) d (fun b hb o e=>?_) r
 · obtain⟨⟨vs,z⟩,_⟩:=ho b hb
   rw[z];exact fun w=>nomatch w
 · obtain⟨⟨vs,z⟩,_⟩:=ho b hb
   rw[sm _ _ z]at e
   cases e
   exact⟨vs,rfl⟩
theorem s_setA{i:Nat}(ha:AsgF X st i Fe):PFS X st (IH i Fe):=PS.imp ha fun D σ H ⟨H₀,ρ,oc,⟨O,rb⟩,e0,k⟩=>by
 obtain⟨x,e1,e2⟩:=f8 e0
 split at e2
 · rename_i q
   cases e2
   refine⟨ρ,x.1,x.2,rb.all,e1,fun v H' sm r=>k _ _ ⟨_,(rb.mono sm).set (f:=true) ?_⟩⟩
   exact Rp.anti rb.below _ (Gr rb.own sm q r)
 · cases e2
def sOwn(i:Nat)(F:FE):FS:=fun ρ=>(F (z4 ρ)).bind fun x=>match x with
 | (.nw,.lst ds)=>if i<ρ.length then some (.nx (ρ.set i (.ow true ds))) else none
 | (.tn,.lst ds)=>if i<ρ.length then some (.nx (ρ.set i (.ow false ds))) else none
 | _=>none
theorem s_own{i:Nat}(ha:AsgF X st i Fe):PFS X st (sOwn i Fe):=(PS.frame ha).imp fun D σ H ⟨H₀,ρ,oc,⟨O,rb⟩,e0,k⟩=>by
 obtain⟨x,e1,e2⟩:=f8 e0
 refine⟨O.adr,rb.own,z4 ρ,x.1,x.2,rb.rest,e1,fun v H' sm r hn=>?_⟩
 have hg:hidL O.adr (v0 O.adr H H')=H':=B8 hn
 have sg:Same H (v0 O.adr H H'):=Same.glue sm hn
 have new:∀{f:Bool} {ds:List Dt} {D:Addr} {vs:List V},hidL O.adr H D=none→H' D=some (.lst vs)→Rps X.K (bsOf X.ky f) ds (hidL [D] H') vs→i<ρ.length→RepB X H₀ (v0 O.adr H H') (ρ.set i (.ow f ds)) (σ.set i (some (.ref D))):=by
   intro f ds D vs hD hv hr hi
   have nO:D ∉ O.adr:=fun z=>by rw[hn D z]at hv;cases hv
   have hH:H D=none:=by rw[m6 nO]at hD;exact hD
   refine⟨_,rb.setNew hi sg hH (by rw[u5 nO];exact hv) nO (rb.below.free hH) ?_⟩
   rw[←Z2,Y4,hg]
   exact hr
 split at e2
 · rename_i ds
   split at e2
   · rename_i hi
     cases e2
     obtain⟨D,vs,rfl,h0,h1,h2⟩:=(Rp.lst_ (K:=X.K)).mp (show Rp X.K (hidL O.adr H) (.lst ds) H' v from r)
     exact k _ _ (new (f:=true) h0 h1 (Rps.anti (rb.b0.trans rb.same) _ h2) hi)
   · cases e2
 · rename_i ds
   split at e2
   · rename_i hi
     cases e2
     obtain⟨D,vs,rfl,h0,h1,h2⟩:=Rp.lst_.mp r.1
     exact k _ _ (new (f:=false) (r.2.2 D rfl) h1 h2 hi)
   · cases e2
 · cases e2
def II(i:Nat)(F:FE):FS:=fun ρ=>(F ρ).bind fun x=>match x with
 | (.nw,.lst ds)=>if i<ρ.length then some (.nx (ρ.set i (.ow true ds))) else none
 | _=>none
theorem s_ownA{i:Nat}(ha:AsgF X st i Fe):PFS X st (II i Fe):=PS.imp ha fun D σ H ⟨H₀,ρ,oc,⟨O,rb⟩,e0,k⟩=>by
 obtain⟨x,e1,e2⟩:=f8 e0
 refine⟨ρ,x.1,x.2,rb.all,e1,fun v H' sm r=>?_⟩
 split at e2
 · rename_i ds
   split at e2
   · rename_i hi
     cases e2
     have r':=Gr (f := .nw) rb.own sm rfl r
     obtain⟨D,vs,rfl,h0,h1,h2⟩:=Rp.lst_.mp r'
     obtain⟨nO,h1'⟩:=N7 h1
     refine k _ _ ⟨_,rb.setNew (f:=true) hi sm h0 h1' nO (rb.below.free h0) ?_⟩
     rw[←Z2,Y4]
     exact Rps.anti rb.below _ h2
   · cases e2
 · cases e2
def forF(g:Tg)(F:FS):List Dt→FS
 | [],ρ=>some (.nx ρ)
 | x::xs,ρ=>(g.put x ρ).bind fun ρ2=>(F ρ2).bind fun oc=>match oc with|.nx ρ'=>forF g F xs ρ'|.ct ρ'=>forF g F xs ρ'|.bk ρ'=>some (.nx ρ')|.rt f d=>some (.rt f d)|.ex C=>some (.ex C)
def sFor(rels:List Nat)(Fi:FI)(g:Tg)(F:FS):FS:=fun ρ=>(Fi (z4 (relS rels ρ))).bind fun items=>forF g F items (relS rels ρ)
end
section
variable {X:Cx}{H₀ H H':Hp}{O:Own}{ρ ρ':Rho}{σ:St}
theorem AH:∀{is:List Nat} {ds:List Dt} {vs:List V} {O:Own} {ρ:Rho} {σ:St},RepO X H₀ H O ρ σ→Rps X.K emp ds (hidL O.adr H) vs→ds.length=is.length→G1 ρ is ds=ρ' →
  L0 is vs σ H fun σ' H'=>H'=H∧∃ O',RepO X H₀ H O' ρ' σ'
 | [],[],vs,O,ρ,σ,rs,r,hl,q=>⟨Rps.nil_.mp r,rfl,O,by rw[←q];exact rs⟩
 | [],d::ds,vs,O,ρ,σ,rs,r,hl,q=>by cases hl
 | i::is,[],vs,O,ρ,σ,rs,r,hl,q=>by cases hl
 | i::is,d::ds,vs,O,ρ,σ,rs,r,hl,q=>by
  obtain⟨v,r',rfl,h1,h2⟩:=Rps.cons_.mp r
  exact⟨v,r',rfl,AH (rs.set (f:=false) h1) (Rps.mono _ (F6 u3) h2) (by simpa using hl) q⟩
theorem Tg.simO{g:Tg}{d:Dt}{v:V}(rs:RepO X H₀ H O ρ σ)(r:Rp X.K emp d (hidL O.adr H) v)(h:g.put d ρ=some ρ'):
  g.low X.K v σ H fun σ' H'=>H'=H∧∃ O',RepO X H₀ H O' ρ' σ':=by
 cases g with
 | one i=>cases h;exact⟨rfl,_,rs.set (f:=false) r⟩
 | many is =>
  cases d<;>first|cases h|skip
  rename_i ds
  replace h:(if ds.length=is.length then some (G1 ρ is ds) else none)=some ρ':=h
  split at h
  · rename_i hl
    obtain⟨a,vs,rfl,h1,h2⟩:=Rp.tup_.mp r
    exact⟨a,vs,rfl,i9.seqT h1,by rw[h2.length];exact hl,AH rs h2 hl (Option.some.inj h)⟩
  · cases h
end
section
variable {X:Cx}{tg iter:Expr}{body:List Stmt}{Fi:FI}{g:Tg}{F:FS}{pos:Pos}
theorem BK{rels:List Nat}(hp:PassesOwn (model X.prog X.w) X.A X.env X.xe)(hc:X.calm=true)(hi:PFI X tg iter Fi)(hg:PG X tg (g.low X.K))(hb:PFSs X body F)
   (hs:∀ x,foldedSetIterable iter X.env x=pure x:=by intro _;rfl):PFS X (.For tg iter body [] pos) (sFor rels Fi g F):=(ps_for hp hc (PI.frame hi) hg hb hs).imp fun D σ H ⟨H₀,ρ,oc,⟨O,rb⟩,e0,k⟩=>by
 obtain⟨items,e1,e2⟩:=f8 e0
 obtain⟨O',rb'⟩:=rb.rels rels
 refine⟨O'.adr,rb'.own,z4 (relS rels ρ),items,rb'.rest,e1,fun J H1 sm hsz wk hn=>?_⟩
 have hg1:hidL O'.adr (v0 O'.adr H H1)=H1:=B8 hn
 have s01:Same H₀ H1:=rb'.same.trans sm
 have start:RepO X H1 (v0 O'.adr H H1) O' (relS rels ρ) σ:=by
   have z:=rb'.mono (Same.glue sm hn)
   exact⟨z.ndA,z.ndI,z.own,z.len,rb'.b0.trans s01,by rw[hg1];exact Same.refl _,z.at_⟩
 have back:∀{oc:Oc},OcOk X H₀ D oc→OcOk X H1 D oc:=fun{oc} z=>by
   cases oc with
   | nx ρ5=>exact fun σ5 H5 hZ=>hZ.elim fun O5 r5=>z σ5 H5 ⟨O5,r5.base s01 rb'.b0⟩
   | bk ρ5=>exact fun σ5 H5 hZ=>hZ.elim fun O5 r5=>z σ5 H5 ⟨O5,r5.base s01 rb'.b0⟩
   | ct ρ5=>exact fun σ5 H5 hZ=>hZ.elim fun O5 r5=>z σ5 H5 ⟨O5,r5.base s01 rb'.b0⟩
   | rt f d=>exact fun v H5 s5 r5=>z v H5 (s01.trans s5) r5
   | ex n=>exact fun C q=>(z C q).base s01
 refine⟨fun i m σ' H'=>m=items.length-i∧∃ ρ',RepB X H1 H' ρ' σ'∧forF g F (items.drop i) ρ'=some oc,⟨_,rfl,_,⟨O',start⟩,e2⟩,?_⟩
 rintro i m σ' H' ⟨rfl,ρ',⟨O2,r2⟩,f2⟩
 obtain⟨w1,w2⟩:=wk O2.adr H' r2.same fun a ha=>by obtain⟨⟨vs,q⟩,_⟩:=r2.own a ha;exact⟨_,q⟩
 by_cases hlt:i<items.length
 · obtain⟨x,hx⟩:∃ x,items[i]?=some x:=⟨_,List.getElem?_eq_getElem hlt⟩
   have hdrop:items.drop i=x::items.drop (i+1):=by
    rw[List.drop_eq_getElem_cons hlt]
    rw[List.getElem?_eq_getElem hlt]at hx
    cases hx;rfl
   rw[hdrop]at f2
   unfold forF at f2
   obtain⟨ρ2,p1,f3⟩:=f8 f2
   obtain⟨oc',p2,f4⟩:=f8 f3
   obtain⟨go,yl⟩:=w1 i x hx
   refine .inr ⟨go,fun σ3 H3=>∃ ρ3,RepB X H1 H3 ρ3 σ3∧forF g F (items.drop (i+1)) ρ3=some oc,fun σ3 H3 hZ=>hZ.elim fun ρ3 hZ=>hZ.elim fun r3 f3=>⟨items.length-(i+1),by omega,rfl,ρ3,r3,f3⟩,fun xv H3 y3=>?_⟩
   obtain⟨s3,k3,r3⟩:=yl xv H3 y3
   have sm3:Same H' H3:=fun b o e=>by
    by_cases hb:b∈O2.adr
    · rw[k3 b hb];exact e
    · exact(N7 (s3 b o (by rw[m6 hb];exact e))).2
   refine Tg.low_mono (Tg.simO (r2.mono sm3) r3 p1) ?_
   rintro σ4 H4 ⟨eH,O4,r4⟩
   subst eH
   refine⟨H1,ρ2,oc',⟨O4,r4⟩,p2,?_⟩
   cases oc' with
   | nx ρ5=>exact fun σ5 H5 r5=>⟨ρ5,r5,f4⟩
   | ct ρ5=>exact fun σ5 H5 r5=>⟨ρ5,r5,f4⟩
   | bk ρ5=>cases f4;exact back k
   | rt f d=>cases f4;exact back k
   | ex C=>cases f4;exact back k
 · have hd:items.drop i=[]:=List.drop_of_length_le (by omega)
   rw[hd]at f2
   cases f2
   exact .inl ⟨w2 i (by omega),back k σ' H' ⟨O2,r2⟩⟩
end
section
variable {P:Program}{w:World}{K:PySem.W.Frag}{mg:Str→Option Value}{base:Heap}
def rho0(n:Nat)(ds:List Dt):Rho:=ds.map (Cell.sh false)++List.replicate (n-ds.length) Cell.no
theorem BL{X:Cx}{H:Hp}{ds:List Dt}{vs:List V}{N:List Str}(h0:X.H₀=H)(h:Rps X.K emp ds H vs):RepO X H H [] (rho0 N.length ds) (start N vs):=by
 have hl:=h.length
 refine⟨List.nodup_nil,List.nodup_nil,fun a ha=>(nomatch ha),by unfold rho0 start;simp[hl],by rw[h0];exact Same.refl H,by show Same H (hidL [] H);rw[EI];exact Same.refl H,fun i c e=>?_⟩
 unfold rho0 at e
 unfold start
 by_cases hi:i<ds.length
 · rw[List.getElem?_append_left (by simpa using hi),List.getElem?_map]at e
   cases q:ds[i]? with
   | none=>rw[q]at e;cases e
   | some d =>
     rw[q]at e
     cases e
     obtain⟨v,e1,e2⟩:=h.get q
     refine⟨some v,?_,v,rfl,by show Rp X.K emp d (hidL [] H) v;rw[EI];exact e2⟩
     rw[List.getElem?_append_left (by simp;omega),List.getElem?_map,e1];rfl
 · rw[List.getElem?_append_right (by simp;omega),List.getElem?_replicate]at e
   split at e
   · cases e
     rename_i hlt
     simp at hlt
     refine⟨none,?_,trivial⟩
     rw[List.getElem?_append_right (by simp;omega),List.getElem?_replicate,if_pos (by simp;omega)]
   · cases e
def cOf(np n:Nat)(fr:Bool)(F:FS):FC:=fun ds=>if ds.length=np then
 (F (rho0 n ds)).bind fun oc=>match oc with|.rt f d=>if fr&&!(f.isFr||d.flat) then none else some d|.nx _=>some .non|_=>none
 else none
theorem Fun.data{x qual:Str}{st:Stmt}{f:Addr}{fd:FuncData}{N ps:List Str}{k:Nat}{fr:Bool}{F:FS}(Fu:Fun K x qual st f fd)(S:FnScope N ps (g6 st))
    (body:∀(cdv:Value) (A:Around) (outer:List Env) (s:Shared) (H:Hp) (E:XK),Room k (A.deeper (envOfC qual (g6 st) s.heap.objs.size f cdv)) →
      PFSs (cxOf CX0 P w K mg base N qual (g6 st) f cdv A outer s H E).nox (v6 st) F):FnOk P w K mg base CX0 (k+1) f fd ps (spc K fr (cOf ps.length N.length fr F)):=by
  refine Fu.ok S (fun vs H Q E h=>?_) (fun cdv A outer s H vs Q E hr h=>?_)
  · obtain⟨ds,d,r,e,q⟩:=h
    unfold cOf at e
    split at e
    · rename_i hl
      rw[r.length];exact hl
    · cases e
  · obtain⟨ ds,d,r,e,q⟩:=h
    unfold cOf at e
    split at e
    · rename_i hl
      obtain⟨oc,e1,e2⟩:=f8 e
      refine⟨_,body cdv A outer s H E hr,H,rho0 N.length ds,oc,⟨[],BL rfl r⟩,e1,?_⟩
      cases oc with
      | nx ρ=>cases e2;exact fun σ H' hZ=>hZ.elim fun O rb=>q _ H' (rb.same.trans i9) (Rp.non_.mpr rfl)
      | bk ρ=>cases e2
      | ct ρ=>cases e2
      | ex C=>cases e2
      | rt f d' =>
        have e2:(if(fr&&!(f.isFr||d'.flat))=true then none else some d')=some d:=e2
        split at e2
        · cases e2
        · rename_i hf
          cases e2
          refine fun v H' sm r'=>q v H' sm ?_
          cases fr with
          | false=>exact Rp.anti Same.emp _ r'
          | true =>
            have hf:f.isFr=true∨d.flat=true:=by
              cases h1:f.isFr<;>cases h2:d.flat<;>simp[h1,h2]at hf ⊢
            rcases hf with hf|hf
            · rw[hf]at r';exact r'
            · exact Rp.flat d hf r'
    · cases e
theorem JA{l:PySem.W.OpenLaw}{q:Program}{loose:List Str}{XP:(Str→Option Value)→Heap→Prop}{YP:World→Heap→Prop}{d:DefRec}{K:Params→PySem.W.Frag}{x:Str}{k:Nat}{fr:Bool}{c:FC}(hn:l.most=some 63)(hdf:d.params.defaults=[])
  (hY:∀(w:World) (h:Heap),YP w h→(K w.params).In h)
  (F:∀(w:World) (mg:Str→Option Value) (fa:Addr) (h:Heap),(K w.params).In h→h.Ns mainGlobals mg→mg d.name=some (.ref fa) →
   ∃ fd:FuncData,(∀(s:Shared) (u:Value),BindsTo s fd ⟨[u],[]⟩ [(x,u)])∧∀ base:Heap,(K w.params).In base→base.Ns mainGlobals mg→FnOk l.prog w (K w.params) mg base CX0 k fa fd [x] (spc (K w.params) fr c))
  (hc:∀ ns:List Int,ns.length≤63→c [.scr ns]=some (.bl true))
  (hr:Room k callerA):PySem.W.WalkO q loose XP YP l.row.toRowW d [] (fun f vs=>PySem.call f vs) :=
 L2.NT (n:=63) (k:=k) (x:=x) (CX:=fun _=>CX0) (sp:=fun w=>spc (K w.params) fr c) hn (by decide) hdf hr hY F
  (fun w H a ns hl _ hS=>⟨[.scr ns],_,Rps.one (Rp.scr_.mpr ⟨a,rfl,rfl,hS⟩),hc ns hl,fun v H' _ r=>by cases fr<;>exact Rp.bl_.mp r⟩) fun _ _ _ _ _ z=>z
end
def DS(XN:List Str)(xs:List (Str×NameKind))(scope:Scope)(N:List Str)(nt:Nat)(js:List Nat):Bool :=
 decide ((scope.names.map (·.1)).Nodup)&&(N.length==nt+js.length)&&((List.range js.length).all fun k=>match js[k]? with
  | some j=>(match N[nt+k]?,XN[j]? with|some x,some y=>x==y&&scope.names.lookup x==some .free|_,_=>false)
  | none=>false)&&scope.names.all fun p=>p.2 != .free||xs.lookup p.1==some .cell||xs.lookup p.1==some .free
theorem O3{X:Cx}{N:List Str}{scope:Scope}{nt:Nat}{js:List Nat}(XN:List Str)(xs:List (Str×NameKind))(h1:X.N=XN)(h2:X.env.scope.names=xs)(hk:scope.kind = .function)(c:DS XN xs scope N nt js=true):CompScope X N scope nt js:=by
 unfold DS at c
 rw[Bool.and_eq_true,Bool.and_eq_true,Bool.and_eq_true]at c
 obtain⟨⟨⟨c1,c2⟩,c3⟩,c4⟩:=c
 have nd:=of_decide_eq_true c1
 refine⟨hk,nd,fun x hx e=>by rw[E3 nd hx,e],beq_iff_eq.mp c2,fun k j e=>?_,fun x hx e=>?_⟩
 · have hk:k<js.length:=by
     by_cases hk:k<js.length
     · exact hk
     · rw[List.getElem?_eq_none (by omega)]at e;cases e
   have z:=List.all_eq_true.mp c3 k (List.mem_range.mpr hk)
   rw[e]at z
   dsimp only at z
   rw[h1]
   cases q1:N[nt+k]? with
   | none=>rw[q1]at z;cases z
   | some x =>
     cases q2:XN[j]? with
     | none=>rw[q1,q2]at z;cases z
     | some y =>
       rw[q1,q2]at z
       dsimp only at z
       rw[Bool.and_eq_true]at z
       have exy:x=y:=beq_iff_eq.mp z.1
       subst exy
       exact⟨x,rfl,rfl,beq_iff_eq.mp z.2⟩
 · have z:=List.all_eq_true.mp c4 x hx
   rw[e]at z
   have z:(xs.lookup x.1==some .cell||xs.lookup x.1==some .free)=true:=by simpa using z
   show X.env.scope.names.lookup x.1=_∨X.env.scope.names.lookup x.1=_
   rw[h2]
   rcases Bool.or_eq_true _ _ |>.mp z with z|z
   · exact .inl (beq_iff_eq.mp z)
   · exact .inr (beq_iff_eq.mp z)
structure Df(K:PySem.W.Frag)(mg:Str→Option Value)(name:Str)(st:Stmt)(ps:List Str)(f:Addr)(fd:FuncData):Prop where
 fn:Fun K name name st f fd
 mg:mg name=some (.ref f)
 bd:Binds K fd ps []
theorem df_mk{K:PySem.W.Frag}{h:Heap}{mg:Str→Option Value}(X:K.In h)(G:h.Ns mainGlobals mg){x:Str}{st:Stmt}{f:Addr}{oc:Value}{od an:Option Addr}{osl:Array (Option Value)}{kV doc pm cdv ct:Value}{ps:List Str}
  (e:PySem.W.nsIn K mainGlobals x=some (some (.ref f))) (l:K.lookup f=some ⟨oc,od,.func (PySem.W.fnOf x x (D5 st) (v6 st) (g6 st) .none kV doc pm an cdv ct),osl⟩) (c:PySem.W.codeIn K cdv x=true) (k:PySem.W.keepIn K (.ref f)=true)
  (hb:∀(kV doc pm:Value) (an:Option Addr) (cdv ct:Value) (us:List Value),us.length=ps.length→bindArgs (PySem.W.fnOf x x (D5 st) (v6 st) (g6 st) .none kV doc pm an cdv ct) ⟨us,[]⟩=pure (ps.zip us)) :
  Df K mg x st ps f (PySem.W.fnOf x x (D5 st) (v6 st) (g6 st) .none kV doc pm an cdv ct) :=
 ⟨Kl l c k,PySem.W.mg_of X G e,(Kl (st:=st) l c k).binds hb⟩
end L2

end
section
set_option Elab.async false
set_option linter.all false
set_option maxRecDepth 100000
namespace ZL
open PySem PyProof.Rows
def ItAt(h:Heap)(tu:Bool)(it l:Addr)(k:Nat):Prop:=if tu then h.IsTupleIter it l k else h.IsListIter it l k
def SqAt(h:Heap)(tu:Bool)(l:Addr)(xs:Array Value):Prop:=if tu then h.IsTuple l xs else h.IsList l xs
section
variable {h h':Heap}{tu:Bool}{it l c:Addr}{k:Nat}{xs:Array Value}
theorem ItAt.at(x:ItAt h tu it l k)(q:∀ o,h.get? it=some o→h'.get? it=some o):ItAt h' tu it l k:=by
 unfold ItAt at x ⊢
 cases tu with
 | true=>obtain⟨o,e,r⟩:=x;exact⟨o,q o e,r⟩
 | false=>obtain⟨o,e,r⟩:=x;exact⟨o,q o e,r⟩
theorem SqAt.at(x:SqAt h tu l xs)(q:∀ o,h.get? l=some o→h'.get? l=some o):SqAt h' tu l xs:=by
 unfold SqAt at x ⊢
 cases tu with
 | true=>obtain⟨o,e,r⟩:=x;exact⟨o,q o e,r⟩
 | false=>obtain⟨o,e,r⟩:=x;exact⟨o,q o e,r⟩
theorem ItAt.lt(x:ItAt h tu it l k):it<h.objs.size:=by
 unfold ItAt at x
 cases tu with
 | true=>obtain⟨o,e,_⟩:=x;exact Heap.lt_size e
 | false=>obtain⟨o,e,_⟩:=x;exact Heap.lt_size e
theorem SqAt.lt(x:SqAt h tu l xs):l<h.objs.size:=by
 unfold SqAt at x
 cases tu with
 | true=>obtain⟨o,e,_⟩:=x;exact Heap.lt_size e
 | false=>obtain⟨o,e,_⟩:=x;exact Heap.lt_size e
end
section
variable {prog:Program}{w:World}{A:Around}{E:Value→Shared→Prop}{s:Shared}
def itObj(tu:Bool)(l:Addr):Obj:={ cls := .type (if tu then "tuple_iterator" else "list_iterator"),data := .fields #[.ref l,.int 0 0] }
abbrev h1(h:Heap)(ta:Bool)(a:Addr):Heap:=h.push (itObj ta a)
abbrev h2(h:Heap)(ta tb:Bool)(a b:Addr):Heap:=(h1 h ta a).push (itObj tb b)
abbrev h3(h:Heap)(ta tb:Bool)(a b:Addr):Heap:=(h2 h ta tb a b).push { cls := .type "tuple",data := .seq #[.ref h.objs.size,.ref (h1 h ta a).objs.size] }
abbrev h4(h:Heap)(ta tb:Bool)(a b:Addr):Heap:=(h3 h ta tb a b).push { cls := .type "tuple",data := .seq #[.none,.none] }
abbrev h5(h:Heap)(ta tb:Bool)(a b:Addr):Heap:=(h4 h ta tb a b).push { cls := .type "zip",data := .fields #[.none,.bool false,.bool true,.ref (h2 h ta tb a b).objs.size,.ref (h3 h ta tb a b).objs.size] }
end
end ZL

end
section
set_option Elab.async false
set_option linter.all false
set_option maxRecDepth 100000
set_option maxHeartbeats 4000000
namespace ZL
open PySem PyProof.Rows
theorem okT(a b v:Value):checkTypeCall "zip" ⟨[a,b],[(Str.ofString "strict",v)]⟩=pure ():=by kernel_rfl
theorem okN(a b v:Value):checkBuiltinCall "zip.__new__" ⟨[.type "zip",a,b],[(Str.ofString "strict",v)]⟩=pure ():=by kernel_rfl
section
variable {prog:Program}{w:World}{A:Around}{E:Value→Shared→Prop}{s:Shared}
end
end ZL

end
section
local macro_rules|`(tactic| omega)=>`(tactic| first|lia|omega +splitDisjunctions)
set_option Elab.async false
set_option linter.all false
set_option maxRecDepth 100000
set_option maxHeartbeats 1000000
namespace L2
open PySem PySem.Spec PyProof.Rows ZL
section
variable {X:Cx}{pins:List (Addr×Obj)}{σ:St}{H:Hp}{s:Shared}{h':Heap}
end
def SqV(K:PySem.W.Frag)(tu:Bool)(H:Hp)(a:Addr)(xs:List V):Prop:=if tu then SqT K H a xs else SqL K H a xs
theorem SqV.mono{K:PySem.W.Frag}{tu:Bool}{H H':Hp}{a:Addr}{xs:List V}(e:Same H H')(h:SqV K tu H a xs):SqV K tu H' a xs:=by
 unfold SqV at h ⊢
 cases tu with
 | true=>exact e.seqT h
 | false=>exact e.seq h
section
variable {K:PySem.W.Frag}{H1:Hp}
def zipD:List Dt→List Dt→List Dt
 | x::xs,y::ys => .tup [x,y]::zipD xs ys
 | _,_=>[]
def KI:Nat→List Dt→List Dt
 | _,[]=>[]
 | n,x::xs => .tup [.int n,x]::KI (n+1) xs
end
section
variable {X:Cx}{a b e:Expr}{Fa Fb:FE}{elts:List Expr}{n:Nat}{tpos pos:Pos}
def iZip(F G:FE):FI:=fun ρ=>(F ρ).bind fun x=>(G ρ).bind fun y=>(seqD x.2).bind fun xs=>(seqD y.2).bind fun ys=>if xs.length=ys.length then some (zipD xs ys) else none
def lstD:Dt→Option (List Dt)
 | .lst ds=>some ds
 | _=>none
def iEnum(F:FE):FI:=fun ρ=>(F ρ).bind fun x=>(lstD x.2).map (KI 0)
def iRev(F:FE):FI:=fun ρ=>(F ρ).bind fun x=>(lstD x.2).map List.reverse
end
end L2

end
section
set_option Elab.async false
set_option linter.all false
set_option maxRecDepth 100000
set_option maxHeartbeats 1000000
namespace L2
open PySem PySem.Spec PyProof.Rows
section
variable {X:Cx}
theorem IJ{Y:Ky}{f g:Bool}:Same (bsOf Y (f&&g)) (bsOf Y f):=by
 cases f<;>cases g<;>first|exact Same.refl _|exact Same.emp
theorem IK{Y:Ky}{f g:Bool}:Same (bsOf Y (f&&g)) (bsOf Y g):=by
 cases f<;>cases g<;>first|exact Same.refl _|exact Same.emp
section
variable {H₀ H H':Hp}{O:Own}{ρ:Rho}{σ:St}{i:Nat}{f:Bool}{ds:List Dt}
theorem RepO.get(h:RepO X H₀ H O ρ σ)(e:ρ[i]?=some (.ow f ds)):∃ a vs,(i,a)∈O∧σ[i]?=some (some (.ref a))∧H a=some (.lst vs)∧Rps X.K (bsOf X.ky f) ds (hidL O.adr H) vs:=by
 obtain⟨o,e1,a,vs,q1,q2,q3,q4⟩:=h.at_ i _ e
 subst q2
 exact⟨a,vs,q1,e1,q3,q4⟩
theorem EM{x:Dv}{v:V}(rb:RepO X H₀ H O ρ σ)(r:RpF X.ky (hidL O.adr H) x.1 x.2 H' v):Rp X.K (bsOf X.ky x.1.isFr) x.2 H' v:=by
 by_cases q:x.1.isFr=true
 · rw[q];exact r.fr (rb.b0.trans rb.same) q
 · rw[show x.1.isFr=false by simpa using q];exact r.sh
theorem Oi{x:Dv}{v:V}(rb:RepO X H₀ H O ρ σ)(sm:Same H H')(q:x.1.isNw=true)(r:RpF X.ky H x.1 x.2 H' v):Rp X.K (bsOf X.ky true) x.2 (hidL O.adr H') v :=
 Rp.anti rb.below _ (Gr rb.own sm q r)
end
abbrev FW:=List Dt→Dt→Option (List Dt)
def J3(ρ:Rho)(i:Nat):Option (Bool×List Dt):=match ρ[i]? with|some (.ow f ds)=>some (f,ds)|_=>none
theorem Ak{ρ:Rho}{i:Nat}{f:Bool}{ds:List Dt}(h:J3 ρ i=some (f,ds)):ρ[i]?=some (.ow f ds):=by
 unfold J3 at h
 split at h
 · rename_i e;cases h;exact e
 · cases h
def sWr(w:FW)(i:Nat)(F:FE):FS:=fun ρ=>(J3 ρ i).bind fun o=>(F (z4 ρ)).bind fun x=>(w o.2 x.2).map fun ds => .nx (ρ.set i (.ow (o.1&&x.1.isFr) ds))
def sWrA(w:FW)(i:Nat)(F:FE):FS:=fun ρ=>(J3 ρ i).bind fun o=>(F ρ).bind fun x=>if x.1.isNw then(w o.2 x.2).map fun ds => .nx (ρ.set i (.ow o.1 ds)) else none
def wApp:FW:=fun ds d=>if ds.length<1000000 then some (ds++[d]) else none
def wIns0:FW:=fun ds d=>if ds.length<1000000 then some (d::ds) else none
def MtW(X:Cx)(id:String)(pre:List V)(w:FW):Prop:=∀(H:Hp) (B:Hp) (Hh:Hp) (l:Addr) (vs:List V) (y:V) (ds:List Dt) (d:Dt) (ds':List Dt) (Q:VK),H l=some (.lst vs)→Same Hh H→Rps X.K B ds Hh vs→Rp X.K B d Hh y→w ds d=some ds' →
 (∀ vs',Rps X.K B ds' Hh vs'→Q .non (upd H l (.lst vs')))→∃ r,MtM X id r∧r (.ref l) (pre++[y]) H Q
theorem mw_app:MtW X "list.append" [] wApp:=fun H B Hh l vs y ds d ds' Q hl sm rs r e k=>by
 unfold wApp at e
 split at e
 · rename_i h
   cases e
   exact⟨_,T9,l,vs,y,rfl,rfl,hl,by rw[rs.length];exact Nat.lt_trans h (by decide),k _ (rs.append (Rps.one r))⟩
 · cases e
section
variable {id:String}{w:FW}{x:Str}{name:Str}{e:Expr}{Fe:FE}{i:Nat}{px apos cpos pos:Pos}{pre:List V}
theorem s_wr1(hw:MtW X id [] w)(slot:Slot "list" name id)(hty:typeOf (.builtin id)=pure (.type "method_descriptor"))(hN:X.N[i]?=some x)(hv:Vis X.env.scope x)(he:PF X e Fe)(hd:(x==("__debug__" : Str))=false:=by decide)(hcd:(x==("__classdict__" : Str))=false:=by decide)
  (hbase:attributeBase (.Name x px) name X.env (eval (.Name x px) X.env)=eval (.Name x px) X.env:=by rfl)
  (hfew:((backTo cpos (starEach [e] X.env)).all (fun x=>!x.1)&&(backToKw cpos (keywordEach [] X.env)).all (fun x=>x.1.isSome)&&decide ([e].length+([]:List Keyword).length+(if([]:List Keyword).isEmpty then 0 else 1)<30))=true:=by rfl)
  (hline:(apos.endLine==cpos.line)=true:=by rfl) (hs:starEach [e] X.env=[(false,eval e X.env)]:=by rfl) (hsw:swapsWith (.Call (.Attribute (.Name x px) name apos) [e] [] cpos) none pos.line X.env=pure false:=by rfl) :
  PFS X (.Expr (.Call (.Attribute (.Name x px) name apos) [e] [] cpos) pos) (sWr w i Fe):=by
 intro pins s σ H D I ⟨H₀,ρ,oc,⟨O,rb⟩,e0,k⟩
 obtain⟨⟨f,ds⟩,e1,e2⟩:=f8 e0
 obtain⟨z,e3,e4⟩:=f8 e2
 cases hw':w ds z.2 with
 | none=>rw[hw']at e4;cases e4
 | some ds' =>
  rw[hw']at e4
  cases e4
  obtain⟨a,vs,q1,q2,q3,q4⟩:=rb.get (Ak e1)
  have hm:MtM X id (fun o us H' Q=>∃ y,o = .ref a∧us=[y]∧Same (hidL O.adr H) (hidL O.adr H')∧H' a=some (.lst vs)∧Rp X.K (bsOf X.ky z.1.isFr) z.2 (hidL O.adr H') y∧∀ vs',Rps X.K (bsOf X.ky (f&&z.1.isFr)) ds' (hidL O.adr H') vs'→Q .non (upd H' a (.lst vs'))):=by
   intro pins s σ H' o us v vs2 Q I ro ru ⟨y,eo,eu,sm,ha,ry,kk⟩
   subst eo;subst eu
   obtain⟨r,hr,hq⟩:=hw H' (bsOf X.ky (f&&z.1.isFr)) (hidL O.adr H') a vs y ds z.2 ds' Q ha i9 (Rps.anti IJ _ (Rps.mono _ sm q4)) (Rp.anti IK _ ry) hw' kk
   exact hr pins s σ H' _ _ v vs2 Q I ro ru hq
  refine Y0 (Kj F.plainAttrs_list slot hty hm (Bn hN hv hd hcd) (PA.frame (i0 he i3 hs)) hbase hfew hline hs rfl) hsw pins s σ H D I ⟨.ref a,q2,.inl ⟨rfl,vs,SqL.of q3⟩,O.adr,rb.own,z4 ρ,[z],rb.rest,by simp[f7,fNil,e3],?_⟩
  rintro us H' sm ⟨y,r,eu,ry,er⟩ hn
  have er:r=[]:=er
  subst er;subst eu
  have hg:hidL O.adr (v0 O.adr H H')=H':=B8 hn
  refine⟨y,rfl,rfl,by rw[hg];exact sm,by rw[J1 (O0 q1)];exact q3,by rw[hg];exact EM rb ry,fun vs' rs'=>k _ _ ⟨O,?_⟩⟩
  exact(rb.mono (Same.glue sm hn)).upd (Ak e1) q1 rs'
end
def setD(ds:List Dt)(j:Int)(d:Dt):Option (List Dt):=(ixN ds.length j).map fun k=>ds.set k d
def sPut(i:Nat)(Fj Fe:FE):FS:=fun ρ=>(J3 ρ i).bind fun o=>(Fe (z4 ρ)).bind fun x=>(Fj ρ).bind fun j=>(intD j.2).bind fun n=>(setD o.2 n x.2).map fun ds => .nx (ρ.set i (.ow (o.1&&x.1.isFr) ds))
section
variable {x:Str}{e j:Expr}{Fe Fj:FE}{i:Nat}{px spos pos:Pos}
theorem s_put(hN:X.N[i]?=some x)(hv:Vis X.env.scope x)(hj:PF X j Fj)(he:PF X e Fe)(hd:(x==("__debug__" : Str))=false:=by decide)(hcd:(x==("__classdict__" : Str))=false:=by decide)
  (ha:∀ v,assign (.Subscript (.Name x px) j spos) X.env v=(do
   let ov ←holding [v] (eval (.Name x px) X.env)
   let iv ←holding [v,ov] (eval j X.env)
   standAt spos
   holding [v,ov,iv] (setItem ov iv v)
   release [v,ov,iv] []):=by intro _;rfl)
  (hs:swapsWithSole [.Subscript (.Name x px) j spos] e pos.line X.env=pure false:=by rfl) (hw:swappedStores [.Subscript (.Name x px) j spos] e X.env=pure none:=by rfl)
  (h1:(assignEach [.Subscript (.Name x px) j spos] X.env).map (·.2)=[assign (.Subscript (.Name x px) j spos) X.env]:=by rfl) :
  PFS X (.Assign [.Subscript (.Name x px) j spos] e pos) (sPut i Fj Fe):=by
 intro pins s σ H D I ⟨H₀,ρ,oc,⟨O,rb⟩,e0,k⟩
 obtain⟨⟨f,ds⟩,e1,e2⟩:=f8 e0
 obtain⟨z,e3,e4⟩:=f8 e2
 obtain⟨⟨fj,dj⟩,e5,e6⟩:=f8 e4
 obtain⟨n,e7,e8⟩:=f8 e6
 obtain⟨a,vs,q1,q2,q3,q4⟩:=rb.get (Ak e1)
 unfold setD at e8
 cases hx:ixN ds.length n with
 | none=>rw[hx]at e8;cases e8
 | some m =>
  rw[hx]at e8
  cases e8
  refine ps_asg (PE.frame he) (pg_sub (Bn hN hv hd hcd) hj Kh ha) hs hw h1 pins s σ H D I ⟨O.adr,rb.own,z4 ρ,z.1,z.2,rb.rest,e3,fun v H' sm r hn=>?_⟩
  have hg:hidL O.adr (v0 O.adr H H')=H':=B8 hn
  have rb2:=rb.mono (Same.glue sm hn)
  refine⟨.ref a,q2,ρ,fj,dj,rb2.all,e5,fun v2 H2 s2 r2=>?_⟩
  have ed:=DP e7
  have ed:dj = .int n:=ed
  subst ed
  have rv:Rp X.K (bsOf X.ky z.1.isFr) z.2 (hidL O.adr H2) v:=Rp.mono _ (by rw[←hg];exact A7 s2) (EM rb r)
  have ha2:H2 a=some (.lst vs):=s2 _ _ (by rw[J1 (O0 q1)];exact q3)
  refine⟨a,vs,n,m,rfl,Rp.int_.mp r2.sh,ha2,by rw[q4.length];exact hx,k _ _ ⟨O,(rb2.mono s2).upd (Ak e1) q1 ?_⟩⟩
  exact Rps.set m (Rps.anti IJ _ (Rps.mono _ (A7 ((Same.glue sm hn).trans s2)) q4)) (Rp.anti IK _ rv)
end
end
end L2

end
section
set_option Elab.async false
set_option linter.all false
set_option maxRecDepth 100000
set_option maxHeartbeats 1000000
namespace L2
open PySem PySem.Spec PyProof.Rows
section
variable {X:Cx}{tg a b e:Expr}{Fa Fb Fe:FE}{pos:Pos}
end
section
variable {X:Cx}{tg iter:Expr}{body:List Stmt}{Fi:FI}{g:Tg}{F:FS}{pos:Pos}
end
section
variable {P:Program}{w:World}{K:PySem.W.Frag}{mg:Str→Option Value}{base:Heap}
theorem Fun.dat{x qual:Str}{st:Stmt}{f:Addr}{fd:FuncData}{N ps:List Str}{k np nn:Nat}{fr:Bool}{F:FS}(Fu:Fun K x qual st f fd)(S:FnScope N ps (g6 st))(hp:np=ps.length)(hn:nn=N.length)
  (body:∀(cdv:Value) (A:Around) (outer:List Env) (s:Shared) (H:Hp) (E:XK),Room k (A.deeper (envOfC qual (g6 st) s.heap.objs.size f cdv)) →
   PFSs (cxOf CX0 P w K mg base N qual (g6 st) f cdv A outer s H E).nox (v6 st) F):FnOk P w K mg base CX0 (k+1) f fd ps (spc K fr (cOf np nn fr F)):=by
 subst hp hn
 exact Fun.data Fu S body
end
theorem p_cal{X:Cx}{e:Expr}{es:List Expr}{pos:Pos}{Fs:FA}{fr:Bool}{k k':Nat}{f:Addr}{fd:FuncData}{ps:List Str}{ct:FC}{x:Str}{st:Stmt}{p:Pos}(F:FnOk X.prog X.w X.K X.mg X.base CX0 k f fd ps (spc X.K fr ct))(D:Df X.K X.mg x st ps f fd)(hr:Room k' X.A)(hg:Gl X x)
  (ha:PFA X (e::es) Fs) (hle:k≤k':=by decide) (hdb:(x==("__debug__" : Str))=false:=by decide) (hst:starEach (e::es) X.env=(false,eval e X.env)::starEach es X.env:=by rfl) (hpl:(backTo pos (starEach es X.env)).any (·.1)=false:=by rfl):PF X (.Call (.Name x p) (e::es) [] pos) (i8 fr ct Fs) :=
 p_call F (hr.mono hle) hg D.mg D.fn.kp D.bd ha hdb hst hpl
def Dh(K:PySem.W.Frag)(x:Str)(st:Stmt)(f:Addr):Prop:=∃(oc kV doc pm cdv ct:Value) (od an:Option Addr) (osl:Array (Option Value)),PySem.W.nsIn K mainGlobals x=some (some (.ref f))∧K.lookup f=some ⟨oc,od,.func (PySem.W.fnOf x x (D5 st) (v6 st) (g6 st) .none kV doc pm an cdv ct),osl⟩∧PySem.W.codeIn K cdv x=true∧PySem.W.keepIn K (.ref f)=true
theorem dh{K:PySem.W.Frag}{x:Str}{st:Stmt}{f:Addr}{oc kV doc pm cdv ct:Value}{od an:Option Addr}{osl:Array (Option Value)}(e:PySem.W.nsIn K mainGlobals x=some (some (.ref f)))(l:K.lookup f=some ⟨oc,od,.func (PySem.W.fnOf x x (D5 st) (v6 st) (g6 st) .none kV doc pm an cdv ct),osl⟩)(c:PySem.W.codeIn K cdv x=true)(k:PySem.W.keepIn K (.ref f)=true):Dh K x st f:=⟨_,_,_,_,_,_,_,_,_,e,l,c,k⟩
theorem Dh.df{K:PySem.W.Frag}{h:Heap}{mg:Str→Option Value}(X:K.In h)(G:h.Ns mainGlobals mg){x:Str}{st:Stmt}{f:Addr}{ps:List Str}(d:Dh K x st f)
  (hb:∀(kV doc pm:Value) (an:Option Addr) (cdv ct:Value) (us:List Value),us.length=ps.length→bindArgs (PySem.W.fnOf x x (D5 st) (v6 st) (g6 st) .none kV doc pm an cdv ct) ⟨us,[]⟩=pure (ps.zip us)) :
  ∃ fd,Df K mg x st ps f fd∧∀ us:List Value,us.length=ps.length→bindArgs fd ⟨us,[]⟩=pure (ps.zip us):=by
 obtain⟨_,_,_,_,_,_,_,_,_,e,l,c,k⟩:=d
 exact⟨_,df_mk X G e l c k hb,hb _ _ _ _ _ _⟩
theorem ndp(l:List Str)(h:l.Nodup:=by decide +kernel):l.Nodup:=h
theorem jlt(l:List Nat)(m:Nat)(h:∀ j∈l,j<m:=by decide):∀ j∈l,j<m:=h
theorem scm{N P:List Str}{sc:Scope}(kind:sc.kind = .function:=by rfl)(co:sc.isCoroutine=false:=by rfl)(gen:sc.isGenerator=false:=by rfl)(nd:N.Nodup:=by decide +kernel)(pre:N.take P.length=P:=by rfl)(par:∀ x∈P,sc.names.lookup x=some .local∨sc.names.lookup x=some .cell:=by decide +kernel)(nofree:∀ y∈sc.names,y.2 ≠ .free:=by decide +kernel):FnScope N P sc:=⟨kind,co,gen,nd,pre,par,nofree⟩
end L2

end
section
set_option Elab.async false
set_option linter.all false
set_option maxRecDepth 100000
namespace L2
open PySem PySem.Spec PySem.W PyProof.Rows
abbrev bmVE:List Value:=[.type "ValueError",.type "Exception",.type "BaseException",.type "object"]
structure Xc(K:PySem.W.Frag)(mg:Str→Option Value)(n:Nat)(C:Addr):Prop where
 mg:mg (exN n)=some (.ref C)
 ok:excIn K C bmVE "ValueError.__new__" = true
 ve:kitCls K (.ref C) (.type "ValueError")=some true
theorem IL{K:PySem.W.Frag}{h:Heap}{C:Addr}{bmB:List Value}{newId:String}(kin:K.In h)(e:excIn K C bmB newId=true):∃ bm N nm q bs hdct sn sub ab col dd k0 k1 k2 k3 k5,
   h.get? C=some (excClassObj nm q C N bs bm hdct sn sub ab col dd k0 k1 k2 k3 k5 newId)∧(∃ mN,h.Ns N mN∧mN "__init__" = none)∧OwnTail h bmB bm:=by
 unfold excIn at e
 split at e
 · rename_i dct cd sl q
   split at e
   · rename_i C' bm a0 a1 a2 a3 n a5 q1 q2
     simp only[Bool.and_eq_true,beq_iff_eq,Bool.not_eq_true']at e
     obtain⟨⟨⟨⟨⟨e1,e2⟩,e3⟩,e4⟩,e5⟩,e6⟩:=e
     subst e1 e2
     obtain⟨nm,bs,mro,ns,qn,hd,sn,sub,ab,hdel,col⟩:=cd
     have hs:sl=#[a0,a1,a2,a3,some (.builtin n),a5]:=by
      have:=congrArg List.toArray q2
      simpa using this
     dsimp only at q1 e3 e5 e6
     subst q1 hs
     have z:=kin _ _ q
     refine⟨bm,ns,nm,qn,bs,hd,sn,sub,ab,hdel,dct,a0,a1,a2,a3,a5,?_,⟨_,Heap.Ns.of_isNs (isNs_of_in kin e5),nsMap_none_of_in kin e5 e6⟩,tail_of_in kin e4⟩
     rw[z,e3]
   · cases e
 · cases e
theorem EN{h:Heap}{bmB bm:List Value}{v:Value}(t:OwnTail h bmB bm)(q:bmB.contains v=true):bm.contains v=true:=by
 induction t with
 | base=>exact q
 | own _ _ _ _ ih=>rw[List.contains_cons,ih,Bool.or_true]
theorem EO{h h':Heap}{N:Addr}{m:Str→Option Value}(x:h.Ns N m)(k:∀ b o,h.get? b=some o→h'.get? b=some o):h'.Ns N m:=by
 obtain⟨o,es,ep,ho,r⟩:=x
 exact⟨o,es,ep,k _ _ ho,r⟩
def E4(n:Nat):FS:=fun _=>some (.ex n)
section
variable {X:Cx}{C:Addr}{n:Nat}{e:Expr}{es:List Expr}{pos:Pos}{Fs:FA}{fr:Bool}{k k':Nat}{f:Addr}{fd:FuncData}{ps:List Str}{x:Str}{st:Stmt}{p:Pos}
theorem U3(n:Nat){t:Str}{j:Nat}{p1 np cpos:Pos}(hc:X.calm=true)(xc:Xc X.K X.mg n C)(hg:Gl X x)(hx:exN n=x:=by rfl)(hdb:(x==("__debug__" : Str))=false:=by decide):
  PFS X (.Raise (some (.Call (.Name x np) [.Constant (.str t) j p1] [] cpos)) none pos) (E4 n):=by
 rintro pins s σ H D I ⟨H₀,ρ,oc,⟨O,rb⟩,e0,k⟩
 cases e0
 obtain⟨E,hE,hp,hr,_⟩:=k C xc.mg
 obtain⟨bm,N,nm,q,bs,hdct,sn,sub,ab,col,dd,k0,k1,k2,k3,k5,g1,⟨mN,g2,g3⟩,g4⟩:=IL I.mod.kin xc.ok
 refine wpAny_Raise_call_subT (nm:=nm) (q:=q) (N:=N) (bs:=bs) (hdct:=hdct) (sn:=sn) (sub:=sub) (ab:=ab) (col:=col) (dd:=dd) (k0:=k0) (k1:=k1) (k2:=k2) (k3:=k3) (k5:=k5) F.excBase_ValueError (EN g4 (by decide)) (I.ok.hd hc) rfl g3 (T6 I hg (by rw[←hx];exact xc.mg) ⟨rfl,?_⟩ hdb)
 refine Calls.evalArgs_plain (thn ((show PFA X [.Constant (.str t) j p1] _ from i0 j0 i3) cpos pins s σ H (fun vs H'=>vs.length=1∧Same H H') I ⟨ρ,_,rb.all,rfl,fun vs H' sm r=>⟨r.length,sm⟩⟩) fun us s1 hZ=>?_)
 obtain⟨vs,H1,I1,r,hl,sm⟩:=hZ
 refine⟨rfl,by show us.length≤_;rw[←r.length,hl];decide,I1.bk _ _ g1,EO g2 I1.bk,g4.keeps I1.bk,fun h' ea m=>?_⟩
 exact hr pins σ H1 s1 _ ea _ I1 m rfl rfl (hE H1 none (rb.same.trans (i9.trans sm)) (.inl rfl))
abbrev FX:=List Dt→Option (Dt ⊕ Nat)
def spx(K:PySem.W.Frag)(mg:Str→Option Value)(fr:Bool)(c:FX):Sp:=fun vs H Q E=>∃ ds r,Rps K emp ds H vs∧c ds=some r ∧
 match r with
 | .inl d=>∀ v H',Same H H'→Rp K (if fr then H else emp) d H' v→Q v H'
 | .inr n=>∀ C H' o,mg (exN n)=some (.ref C)→Same H H'→(o=none∨wk n=true)→E (.ref C) o H'
theorem KJ{P:Program}{w:World}:D9 (CX1 P w) X E0:=by
 rintro pins σ H s e s' I ⟨ea,C,H',c,rfl,os,bare,un,hok,fly,hE⟩
 exact hE.elim
theorem IM{CX:CXT}{sp:Sp}{E:XK}{t:TA}{pins:List (Addr×Obj)}{s:Shared}{σ:St}{H:Hp}{Q:VK}(F:FnOk X.prog X.w X.K X.mg X.base CX k f fd ps sp)(hr:Room k X.A)(hg:Gl X x)(hm:X.mg x=some (.ref f))(hk:PySem.W.keepIn X.K (.ref f)=true)(hb:Binds X.K fd ps [])
  (ha:PA X (e::es) t) (hdb:(x==("__debug__" : Str))=false) (he:starEach (e::es) X.env=(false,eval e X.env)::starEach es X.env) (hpl:(backTo pos (starEach es X.env)).any (·.1)=false)
  (I:Inv X pins σ H s) (h:t σ H fun vs H1=>sp vs H1 Q E) (hx:∀ H1 s1 e s',Inv X pins σ H1 s1→CX X.stack H1 s1 E e s'→X.xe e s'):wpAny (model X.prog X.w) X.A (eval (.Call (.Name x p) (e::es) [] pos) X.env) (EP X pins σ Q) X.xe s:=by
 refine wpAny_Call_Name_kw (T6 I hg hm ?_ hdb)
 refine PySem.W.callWith_K (h₀:=X.base) I.ok.mod.kin hk (thn (ha pos pins s σ H _ I h) fun us s1 hZ=>hZ.elim fun vs hZ=>hZ.elim fun H1 hZ=>hZ.elim fun I1 hZ=>hZ.elim fun r q=>⟨I1.kIn,?_⟩) he hpl
 have hl:(us++[]).length=ps.length:=by rw[List.append_nil,←r.length];exact F.len _ _ _ _ q
 have hb2:=hb s1 us I1.kIn hl
 rw[List.append_nil]at hb2
 refine wpAny_call (codeAny_mono (F.run X.A X.stack s1 H1 ⟨us,[]⟩ us vs Q E hr I1.env0 hb2 r q) fun r s' hq=>?_)
 cases r with
 | error e=>exact hx H1 s1 e s' I1 hq
 | ok fl =>
  cases fl with
  | ret u=>exact I1.after hq
  | next=>exact False.elim hq
  | brk=>exact False.elim hq
  | cont=>exact False.elim hq
def O6(c:FX)(Fs:FA):FS:=fun ρ=>(Fs ρ).bind fun xs=>(c (sndL xs)).map fun r=>match r with|.inl _ => .nx ρ|.inr n => .ex n
theorem DT{ct:FX}{pos':Pos}(F:FnOk X.prog X.w X.K X.mg X.base (CX1 X.prog X.w) k f fd ps (spx X.K X.mg fr ct))(D:Df X.K X.mg x st ps f fd)(hr:Room k' X.A)(hg:Gl X x)
  (ha:PFA X (e::es) Fs) (hle:k≤k':=by decide) (hdb:(x==("__debug__" : Str))=false:=by decide) (hst:starEach (e::es) X.env=(false,eval e X.env)::starEach es X.env:=by rfl) (hpl:(backTo pos (starEach es X.env)).any (·.1)=false:=by rfl)
  (hs:swapsWith (.Call (.Name x p) (e::es) [] pos) none pos'.line X.env=pure false:=by rfl):PFS X (.Expr (.Call (.Name x p) (e::es) [] pos) pos') (O6 ct Fs):=by
 rintro pins s σ H De I ⟨H₀,ρ,oc,⟨O,rb⟩,e0,k⟩
 obtain⟨xs,e1,e2⟩:=f8 e0
 cases q:ct (sndL xs) with
 | none=>rw[q]at e2;cases e2
 | some r =>
  rw[q]at e2
  cases r with
  | inl d =>
   cases e2
   exact Y0 (Y1 (E:=E0) (dvs:=[]) F (hr.mono hle) hg D.mg D.fn.kp D.bd .nil KJ ha hdb hst hpl) hs pins s σ H De I ⟨ρ,xs,rb.all,e1,fun vs H1 s1 r1=>by
     dsimp only
     rw[List.append_nil]
     exact⟨_,.inl d,r1.sh,q,fun v H' s' r'=>k σ H' ⟨O,rb.mono (s1.trans s')⟩⟩⟩
  | inr n =>
   cases e2
   have go:∀ E:XK,D9 (CX1 X.prog X.w) X E→(∀ C H' o,X.mg (exN n)=some (.ref C)→Same H H'→(o=none∨wk n=true)→E (.ref C) o H')→wpAny (model X.prog X.w) X.A (exec (.Expr (.Call (.Name x p) (e::es) [] pos) pos') X.env) (SP X pins De) X.xe s:=fun E hp hE =>
     Y0 (Y1 (E:=E) (dvs:=[]) F (hr.mono hle) hg D.mg D.fn.kp D.bd .nil hp ha hdb hst hpl) hs pins s σ H De I ⟨ρ,xs,rb.all,e1,fun vs H1 s1 r1=>by
      dsimp only
      rw[List.append_nil]
      exact⟨_,.inr n,r1.sh,q,fun C H' o hC s' ho=>hE C H' o hC (s1.trans s') ho⟩⟩
   by_cases hC:∃ C,X.mg (exN n)=some (.ref C)
   · obtain⟨C,hC⟩:=hC
     obtain⟨E,hE,hp,hr⟩:=k C hC
     refine go E hp fun C' H' o hC' sm ho=>?_
     rw[hC]at hC'
     cases hC'
     exact hE H' o (rb.same.trans (i9.trans sm)) ho
   · exact go E0 KJ fun C H' o h=>(hC ⟨C,h⟩).elim
end
def xOf(np n:Nat)(fr:Bool)(F:FS):FX:=fun ds=>if ds.length=np then
 (F (rho0 n ds)).bind fun oc=>match oc with|.rt f d=>if fr&&!(f.isFr||d.flat) then none else some (.inl d)|.nx _=>some (.inl .non)|.ex n=>some (.inr n)|_=>none
 else none
section
variable {P:Program}{w:World}{K:PySem.W.Frag}{mg:Str→Option Value}{base:Heap}
theorem Fun.datX{x qual:Str}{st:Stmt}{f:Addr}{fd:FuncData}{N ps:List Str}{k np nn:Nat}{fr:Bool}{F:FS}(Fu:Fun K x qual st f fd)(S:FnScope N ps (g6 st))(hp:np=ps.length)(hn:nn=N.length)
    (body:∀(cdv:Value) (A:Around) (outer:List Env) (s:Shared) (H:Hp) (E:XK),Room k (A.deeper (envOfC qual (g6 st) s.heap.objs.size f cdv)) →
      PFSs (cx1 P w K mg base N qual (g6 st) f cdv A outer s H E) (v6 st) F):FnOk P w K mg base (CX1 P w) (k+1) f fd ps (spx K mg fr (xOf np nn fr F)):=by
  subst hp hn
  obtain⟨oc,od,kV,doc,pm,an,cdv,ct,osl,rfl,lk,hcd⟩:=Fu.ex
  refine fn_of lk hcd S (fun vs H Q E h=>?_) fun A outer s H vs Q E hr h=>?_
  · obtain⟨ds,d,r,e,q⟩:=h
    unfold xOf at e
    split at e
    · rename_i hl
      rw[r.length];exact hl
    · cases e
  · obtain⟨ ds,d,r,e,q⟩:=h
    unfold xOf at e
    split at e
    · rename_i hl
      obtain⟨oc,e1,e2⟩:=f8 e
      refine⟨_,body cdv A outer s H E hr,H,rho0 N.length ds,oc,⟨[],BL rfl r⟩,e1,?_⟩
      cases oc with
      | nx ρ=>cases e2;exact fun σ H' hZ=>hZ.elim fun O rb=>q _ H' (rb.same.trans i9) (Rp.non_.mpr rfl)
      | bk ρ=>cases e2
      | ct ρ=>cases e2
      | ex n=>cases e2;exact fun C hC=>xok1 fun H' o sm ho=>q C H' o hC sm ho
      | rt f d' =>
        have e2:(if(fr&&!(f.isFr||d'.flat))=true then none else some (Sum.inl d'))=some d:=e2
        split at e2
        · cases e2
        · rename_i hf
          cases e2
          refine fun v H' sm r'=>q v H' sm ?_
          cases fr with
          | false=>exact Rp.anti Same.emp _ r'
          | true =>
            have hf:f.isFr=true∨d'.flat=true:=by
              cases h1:f.isFr<;>cases h2:d'.flat<;>simp[h1,h2]at hf ⊢
            rcases hf with hf|hf
            · rw[hf]at r';exact r'
            · exact Rp.flat d' hf r'
    · cases e
end
end L2

end
section
set_option Elab.async false
set_option linter.all false
set_option maxRecDepth 100000
namespace L2
open PySem PySem.Spec PySem.W PyProof.Rows
abbrev Cx.caught(X:Cx)(ea:Addr):Cx:={ X with A:=X.A.mark (some (.ref ea)),calm:=false,xe:=fun _ _=>False }
section
variable {X:Cx}{pins:List (Addr×Obj)}{σ:St}{H H1 H' H₀:Hp}{s s1:Shared}{ea C M:Addr}{cx:Value}{E:Value→Shared→Prop}
theorem Cx.Ok.caught(ok:X.Ok)(ea:Addr):(X.caught ea).Ok :=
 ⟨ok.mod,ok.kind,ok.glob,ok.blt,ok.above,ok.inj,ok.has,ok.cab,(fun z=>by cases z),ok.frames,ok.stk,ok.exf,ok.bs,ok.bsz,ok.noex,ok.exfs,ok.funs,ok.frf⟩
theorem Cx.Ok.uncaught(ok:(X.caught ea).Ok)(o:X.Ok):X.Ok:=o
theorem Inv.caught(I:Inv X pins σ H s)(ea:Addr):Inv (X.caught ea) pins σ H s:=⟨I.ok.caught ea,I.os,I.bare,I.base,I.loc,I.cell,I.free,I.freeC,I.pin,I.hok,I.len⟩
theorem Inv.uncaught(I:Inv (X.caught ea) pins σ H s)(o:X.Ok):Inv X pins σ H s:=⟨o,I.os,I.bare,I.base,I.loc,I.cell,I.free,I.freeC,I.pin,I.hok,I.len⟩
theorem SP.uncaught{D:Ends}{f:Flow}{s':Shared}(o:X.Ok)(h:SP (X.caught ea) pins D f s'):SP X pins D f s':=by
 cases f with
 | next=>obtain⟨σ',H',I,q⟩:=h;exact⟨σ',H',I.uncaught o,q⟩
 | brk=>obtain⟨σ',H',I,q⟩:=h;exact⟨σ',H',I.uncaught o,q⟩
 | cont=>obtain⟨σ',H',I,q⟩:=h;exact⟨σ',H',I.uncaught o,q⟩
 | ret u=>obtain⟨v,σ',H',I,r,q⟩:=h;exact⟨v,σ',H',I.uncaught o,r,q⟩
theorem RepB.caught{ρ:Rho}(h:RepB X H₀ H ρ σ)(ea:Addr):RepB (X.caught ea) H₀ H ρ σ:=by
 obtain⟨O,h⟩:=h
 exact⟨O,h.ndA,h.ndI,h.own,h.len,h.b0,h.same,h.at_⟩
theorem RepB.uncaught{ρ:Rho}(h:RepB (X.caught ea) H₀ H ρ σ):RepB X H₀ H ρ σ:=by
 obtain⟨O,h⟩:=h
 exact⟨O,h.ndA,h.ndI,h.own,h.len,h.b0,h.same,h.at_⟩
structure At(X:Cx)(pins:List (Addr×Obj))(σ:St)(H1:Hp)(s1:Shared)(H':Hp)(ea C:Addr)(cx:Value)(s:Shared):Prop where
 inv:Inv X pins σ H' s
 fly:Fly s1.heap H' ea C cx s.heap
 un:Un (frs X.stack) [] H1 H' s1.heap s.heap
theorem At.step{a0:Value}{T:Addr}{l':List Env}{h':Heap}(I1:Inv X pins σ H1 s1)(a:At X pins σ H1 s1 H' ea C cx s)(n3:s1.heap.get? T=none)(n4:H' T=none)(f:(hideAll s.heap (ea::T::frs X.stack)).FlyingW l' ea (.ref C) a0 h')(us:s.heap.UpToSlots h')(cc:∀ c,C2 s.heap ea c→C2 h' ea c):
  At X pins σ H1 s1 H' ea C cx { s with heap:=h' }:=by
 obtain⟨f1,f2,f3⟩:=Fly.step a.fly.1 a.fly.2.1 n3 n4 a.inv.stack a.inv.stkFree a.inv.hok a.un f us (fun b hb => .inl hb) (fun b o _=>by simp) (cc cx a.fly.c2)
 exact⟨I1.call' (ch:=[]) (a.inv.os.trans I1.os.symm) f3 f2 a.inv.bare fun b z=>absurd z (by simp),f1,f3⟩
theorem CZ{Q:Unit→Shared→Prop}{A2:Around}{E2:Value→Shared→Prop}(I1:Inv X pins σ H1 s1)(a:At X pins σ H1 s1 H' ea C cx s)(hs:X.stack=X.env::X.outer)(hf:X.env.frame=some X.env.locals)
  (h:∀ s',At X pins σ H1 s1 H' ea C cx s'→Q () s'):wpAny (model X.prog X.w) X.A (noteFrame (.ref ea) X.env) (fun _ s₂=>wpAny (model X.prog X.w) A2 (setFlight (.ref ea) none) Q E2 s₂) E s:=by
 obtain⟨T,a0,n3,n4,fl⟩:=a.fly.base a.inv.stack
 have fl':=fl
 rw[hs]at fl'
 refine DR (by rw[←hs];exact a.inv.ok.frames) hf fl' fun h1 held us cc=>Z1 (s:={ s with heap:=h1 }) held.1 held.2.2.1 held.2.1 held.2.2.2 fun h2 fl2 us2 cc2=>h _ ?_
 rw[←hs]at fl2
 exact(show At X pins σ H1 s1 H' ea C cx { s with heap:=h2 }from a.step I1 n3 n4 fl2 (UpToSlots.trans us us2) fun c z=>cc2 c (cc c z))
theorem W7{Q:Unit→Shared→Prop}{A2:Around}(I1:Inv X pins σ H1 s1)(a:At X pins σ H1 s1 H' ea C cx s)
  (h:∀ s',At X pins σ H1 s1 H' ea C cx s'→Q () s'):wpAny (model X.prog X.w) A2 (setFlight (.ref ea) none) Q E s:=by
 obtain⟨T,a0,n3,n4,fl⟩:=a.fly.base a.inv.stack
 exact Z1 fl.1 fl.2.2.1 fl.2.1 fl.2.2.2 fun h2 fl2 us2 cc=>h _ (a.step I1 n3 n4 fl2 us2 cc)
theorem At.looks(a:At X pins σ H1 s1 H' ea C cx s):Looks (model X.prog X.w) s.heap (typeOf (.ref ea)) (.ref C):=by
 obtain⟨_,_,oe,_,_,_,_,_,q1,q2,_⟩:=a.fly
 intro A Q E s' k q
 exact wpAny_typeOf_ref (k _ _ q1) (by rw[q2];exact q)
theorem Gs{Q:Flow→Shared→Prop}{nm:Option Str}{body:List Stmt}{hpos np:Pos}{x:Str}{rest:List ExceptHandler}(I1:Inv X pins σ H1 s1)(a:At X pins σ H1 s1 H' ea C cx s)(hg:Gl X x)(hm:X.mg x=some (.ref M))(hit:exmOne X.K (.ref C) (.ref M)=some true)(hdb:(x==("__debug__" : Str))=false)
  (h:codeAny (model X.prog X.w) (X.A.mark (some (.ref ea))) (.handlers (.ref ea) [.ExceptHandler none nm body hpos] X.env) (fun r s₂=>match r with
   | .ok f=>(match nm with
    | none=>Q f s₂
    | some n=>wpAny (model X.prog X.w) X.A (do
     bindName X.env n Value.none
     unbindBehindTheSuite X.env n hpos) (fun _ s₃=>Q f s₃) E s₂)
   | .error x=>cameBackBy (model X.prog X.w) X.A X.env E x s₂) s) :
  wpAny (model X.prog X.w) X.A (handleBy (.ref ea) X.env (.ExceptHandler (some (.Name x np)) nm body hpos::rest)) Q E s:=by
 refine wpAny_handleBy_cons (codeAny_handlers_test (T6 (X:=X.caught ea) (a.inv.caught ea) hg hm ?_ hdb)) (fun z=>nomatch z)
 exact exm_one a.inv.kIn a.looks hit _ _ _ s (fun b o e=>e) h
end
def noEx:Oc→Option Oc
 | .ex _=>none
 | o=>some o
def clr(i:Nat):Oc→Option Oc
 | .nx ρ=>some (.nx (ρ.set i .no))
 | .rt f d=>some (.rt f d)
 | _=>none
def sTry(c:FX)(Fs:FA)(hits:Nat→Bool)(G:FS):FS:=fun ρ=>(Fs ρ).bind fun xs=>(c (sndL xs)).bind fun r=>match r with|.inl _=>some (.nx ρ)|.inr n=>if hits n then(G ρ).bind noEx else none
def DU(c:FX)(Fs:FA)(hits:Nat→Bool)(i:Nat)(G:FS):FS:=fun ρ=>(Fs ρ).bind fun xs=>(c (sndL xs)).bind fun r=>match r with|.inl _=>some (.nx ρ)|.inr n=>if hits n then(G (ρ.set i .ex)).bind (clr i) else none
structure Hit(K:PySem.W.Frag)(mg:Str→Option Value)(hits:Nat→Bool)(x:Str)(M:Addr):Prop where
 gl:mg x=some (.ref M)
 hit:∀ n C,hits n=true→mg (exN n)=some (.ref C)→exmOne K (.ref C) (.ref M)=some true∧kitCls K (.ref C) (.type "ValueError")=some true
theorem Gu{K:PySem.W.Frag}{mg:Str→Option Value}{hits:Nat→Bool}{x:Str}{M:Addr}(a:mg x=some (.ref M))(b:∀ n C,hits n=true→mg (exN n)=some (.ref C)→exmOne K (.ref C) (.ref M)=some true∧kitCls K (.ref C) (.type "ValueError")=some true):Hit K mg hits x M:=⟨a,b⟩
section
variable {X:Cx}{C:Addr}{n:Nat}{e:Expr}{es:List Expr}{pos pos' tpos hpos np:Pos}{Fs:FA}{fr:Bool}{k k':Nat}{f:Addr}{fd:FuncData}{ps:List Str}{x y:Str}{st:Stmt}{p:Pos}{ct:FX}
theorem EQ{pins:List (Addr×Obj)}{s:Shared}{σ:St}{H:Hp}{De:Ends}{ρ:Rho}{xs:List Dv}{r:Dt ⊕ Nat}{h0:ExceptHandler}(F:FnOk X.prog X.w X.K X.mg X.base (CX1 X.prog X.w) k f fd ps (spx X.K X.mg fr ct))(D:Df X.K X.mg x st ps f fd)(hr:Room k' X.A)(hg:Gl X x)
  (ha:∀ E,PFA (X.wish E) (e::es) Fs) (hle:k≤k') (hdb:(x==("__debug__" : Str))=false) (hst:starEach (e::es) X.env=(false,eval e X.env)::starEach es X.env) (hpl:(backTo pos (starEach es X.env)).any (·.1)=false)
  (hs:swapsWith (.Call (.Name x p) (e::es) [] pos) none pos'.line X.env=pure false) (hstk:X.stack=X.env::X.outer) (hfr:X.env.frame=some X.env.locals)
  (I:Inv X pins σ H s) (rs:RepS X.ky H ρ σ) (e1:Fs ρ=some xs) (q:ct (sndL xs)=some r) (hN:∀ d,r = .inl d→∀ H',Same H H'→De.nx σ H')
  (hX:∀ n,r = .inr n→∀ H1 s1 H' ea C cx s',Inv X pins σ H1 s1→X.mg (exN n)=some (.ref C)→Same H H'→(ctxO cx=none∨wk n=true)→At X pins σ H1 s1 H' ea C cx s'→wpAny (model X.prog X.w) X.A (handleBy (.ref ea) X.env [h0]) (SP X pins De) X.xe s') :
  wpAny (model X.prog X.w) X.A (exec (.Try [.Expr (.Call (.Name x p) (e::es) [] pos) pos'] [h0] [] [] tpos) X.env) (SP X pins De) X.xe s:=by
 refine wpAny_Try_except ?_
 have go:∀ E1:Value→Shared→Prop,(∀ n,r = .inr n→∀ H1 s1 H' ea C cx s',Inv X pins σ H1 s1→X.mg (exN n)=some (.ref C)→Same H H'→(ctxO cx=none∨wk n=true)→At X pins σ H1 s1 H' ea C cx s'→E1 (.ref ea) s') →
    wpAny (model X.prog X.w) X.A (exec (.Expr (.Call (.Name x p) (e::es) [] pos) pos') X.env) (SP X pins De) E1 s:=fun E1 hE1=>by
  have I1:Inv (X.wish E1) pins σ H s:=I.wish E1
  refine thn (wpAny_Expr_any (thn (IM (X:=X.wish E1) (E:=fun c o H'=>∃ n C,r = .inr n∧c = .ref C∧X.mg (exN n)=some (.ref C)∧Same H H'∧(o=none∨wk n=true)) (Q:=fun _ H'=>De.nx σ H') F (hr.mono hle) hg D.mg D.fn.kp D.bd (ha E1) hdb hst hpl I1 ⟨ρ,xs,rs,e1,fun vs H1 s1 r1=>?_⟩ fun H1 s1 e s' J cx=>?_)
    fun v s1 ⟨u,H1,J,r1,q1⟩=>(show SP (X.wish E1) pins De .next s1 from⟨σ,H1,J,q1⟩)) I1.quiet hs) fun f s1 z=>z.unwish
  · refine⟨_,r,r1.sh,q,?_⟩
    cases r with
    | inl d=>exact fun v H' s' _=>hN d rfl H' (s1.trans s')
    | inr n=>exact fun C H' o hC s' ho=>⟨n,C,rfl,rfl,hC,s1.trans s',ho⟩
  · obtain⟨ea,C,H',c0,rfl,os,bare,un,hok,fly,n,C',er,ec,hC,sm,ho⟩:=cx
    cases ec
    have J:=J.unwish
    exact hE1 n er H1 s1 H' ea C c0 s' J hC sm ho ⟨J.call' (ch:=[]) os un hok bare fun b z=>absurd z (by simp),fly,un⟩
 refine wpAny_execs_cons (thn (go _ fun n er H1 s1 H' ea C c0 s' J hC sm ho a=>CZ J a hstk hfr fun s2 a2=>hX n er H1 s1 H' ea C c0 s2 J hC sm ho a2) fun f s1 z=>?_)
 cases f with
 | next=>exact wpAny_execs_nil (wpAny_execs_nil z)
 | ret v=>exact z
 | brk=>exact z
 | cont=>exact z
theorem s_try{hits:Nat→Bool}{M:Addr}{b₀:Stmt}{suite:List Stmt}{G:FS}(F:FnOk X.prog X.w X.K X.mg X.base (CX1 X.prog X.w) k f fd ps (spx X.K X.mg fr ct))(D:Df X.K X.mg x st ps f fd)(hr:Room k' X.A)(hg:Gl X x)
   (ha:∀ E,PFA (X.wish E) (e::es) Fs) (hgy:Gl X y) (hh:Hit X.K X.mg hits y M) (hsu:∀ ea,PFSs (X.caught ea) (b₀::suite) G) (hle:k≤k':=by decide) (hdb:(x==("__debug__" : Str))=false:=by decide) (hdy:(y==("__debug__" : Str))=false:=by decide) (hst:starEach (e::es) X.env=(false,eval e X.env)::starEach es X.env:=by rfl) (hpl:(backTo pos (starEach es X.env)).any (·.1)=false:=by rfl)
   (hs:swapsWith (.Call (.Name x p) (e::es) [] pos) none pos'.line X.env=pure false:=by rfl) (hstk:X.stack=X.env::X.outer:=by rfl) (hfr:X.env.frame=some X.env.locals:=by rfl) :
   PFS X (.Try [.Expr (.Call (.Name x p) (e::es) [] pos) pos'] [.ExceptHandler (some (.Name y np)) none (b₀::suite) hpos] [] [] tpos) (sTry ct Fs hits G):=by
 rintro pins s σ H De I ⟨H₀,ρ,oc,⟨O,rb⟩,e0,k⟩
 obtain⟨xs,e1,e2⟩:=f8 e0
 obtain⟨r,q,e3⟩:=f8 e2
 refine EQ F D hr hg ha hle hdb hst hpl hs hstk hfr I rb.all e1 q (fun d er H' sm=>?_) fun n er H1 s1 H' ea C c0 s' J hC sm ho a=>?_
 · subst er
   cases e3
   exact k σ H' ⟨O,rb.mono sm⟩
 · subst er
   dsimp only at e3
   split at e3
   · rename_i hn
     obtain⟨oc',e4,e5⟩:=f8 e3
     refine Gs J a hgy hh.gl (hh.hit n C hn hC).1 hdy (codeAny_handlers_suite (W7 J a fun s3 a3=>?_))
     refine wpAny_mono (hsu ea pins s3 σ H' De (a3.inv.caught ea) ⟨H₀,ρ,oc',RepB.caught ⟨O,rb.mono sm⟩ ea,e4,?_⟩) (fun f s4 z=>SP.uncaught I.ok z) fun _ _ z=>z.elim
     cases oc' with
     | nx ρ'=>cases e5;exact fun σ' H'' z=>k σ' H'' z.uncaught
     | bk ρ'=>cases e5;exact fun σ' H'' z=>k σ' H'' z.uncaught
     | ct ρ'=>cases e5;exact fun σ' H'' z=>k σ' H'' z.uncaught
     | rt f d=>cases e5;exact k
     | ex m=>cases e5
   · cases e3
end
section
variable {X:Cx}{H₀ H:Hp}{O:Own}{ρ:Rho}{σ:St}{pins:List (Addr×Obj)}{s:Shared}{ea:Addr}
theorem RepO.setC(h:RepO X H₀ H O ρ σ){i:Nat}{c:Cell}{o:Option V}(hc:KG X H (E6 O i) i c o):RepO X H₀ H (E6 O i) (ρ.set i c) (σ.set i o):=by
 have sm:Same (hidL O.adr H) (hidL (E6 O i).adr H):=F6 u3
 refine⟨h.ndA.sublist (List.Sublist.map _ (List.filter_sublist)),h.ndI.sublist (List.Sublist.map _ (List.filter_sublist)),fun a ha=>h.own a (u3 a ha),by rw[List.length_set,List.length_set];exact h.len,h.b0,h.same.trans sm,fun j c' q=>?_⟩
 by_cases e:i=j
 · subst e
   rw[List.getElem?_set,if_pos rfl]at q
   rw[List.getElem?_set,if_pos rfl]
   split at q
   · rename_i hl
     cases q
     rw[if_pos (by rw[←h.len];exact hl)]
     exact⟨_,rfl,hc⟩
   · cases q
 · rw[List.getElem?_set_ne e]at q ⊢
   obtain⟨o',e1,e2⟩:=h.at_ j c' q
   refine⟨o',e1,?_⟩
   cases c' with
   | no=>trivial
   | ex=>obtain⟨a,φ,q,r,z⟩:=e2;exact⟨a,φ,q,sm _ _ r,z⟩
   | sh f d=>obtain⟨v,q,r⟩:=e2;exact⟨v,q,Rp.mono _ sm r⟩
   | ow f ds=>obtain⟨a,vs,q1,q2,q3,r⟩:=e2;exact⟨a,vs,B3.mpr ⟨q1,fun z=>e z.symm⟩,q2,q3,Rps.mono _ sm r⟩
theorem Inv.trackX{o:HO}(I:Inv X pins σ H s)(hn:H ea=none)(hb:X.s₀.heap.get? ea=none)(hl:ea≠X.env.locals)(hc:∀ x c,X.env.cells.lookup x=some c→c≠ea)(hp:∀ p∈X.pn++pins,p.1≠ea)(ho:ObjOk X.prog X.w (upd H ea o) s.heap ea o):Inv X pins σ (upd H ea o) s:=by
 have ne:∀{b:Addr} {u:HO},H b=some u→upd H ea o b=some u:=fun{b u} e=>by
   rw[o6 fun z=>by rw[z,hn]at e;cases e];exact e
 refine⟨I.ok,I.os,I.bare,⟨I.base.keep,I.base.slot,fun b ob e n hx=>?_,I.base.there,fun b xs e=>ne (I.base.tups b xs e),fun b ob u e=>ne (I.base.frzs b ob u e),fun b ps e=>?_⟩,I.loc,I.cell,?_,fun x c e=>?_,fun p z=>?_,fun b u e=>?_,I.len⟩
 · rw[o6 fun z=>by rw[z,hb]at e;cases e];exact I.base.free b ob e n hx
 · obtain⟨more,z⟩:=I.base.tbls b ps e;exact⟨more,ne z⟩
 · rw[o6 hl.symm];exact I.free
 · rw[o6 (hc x c e)];exact I.freeC x c e
 · obtain⟨p1,p2,p3⟩:=I.pin p z
   exact⟨p1,by rw[o6 (hp p z)];exact p2,p3⟩
 · by_cases hb:b=ea
   · subst hb
     rw[p6]at e
     cases e
     exact ho
   · rw[o6 hb]at e
     exact(I.hok b u e).stay (fun c v _ q=>q) (fun c r=>ne r) fun c xs r=>ne r
theorem IN{M:Model}{A:Around}{E:Value→Shared→Prop}{i:Nat}{x:Str}{pos:Pos}{Q:Unit→Shared→Prop}(I:Inv X pins σ H s)(hN:X.N.Nodup)(hi:X.N[i]?=some x)(hk:X.env.scope.names.lookup x=some .local)
   (h:∀ s',Inv X pins (σ.set i none) H s'→Q () s'):wpAny M A (do
     bindName X.env x Value.none
     unbindBehindTheSuite X.env x pos) Q E s:=by
 obtain⟨m,hn,hl⟩:=id I.loc
 have hcls:(X.env.scope.kind == .class||(X.env.scope.kind == .module&&X.env.locals != X.env.globals))=false:=by rw[I.ok.kind];rfl
 have hiσ:i<σ.length:=by rw[I.len];exact(List.getElem?_eq_some_iff.mp hi).1
 have cne:=I.cne
 obtain⟨oL,_,_,hoL,_⟩:=id hn
 refine wpAny_nameGoes_keeps hk hn hcls fun h' v hn' hs=>?_
 have tracked:HOk X.prog X.w H h':=fun b ob e=>by
   refine(I.hok b ob e).stay (fun c w' hc q=>(hs.2 c ?_).trans q) (fun _ q=>q) fun _ _ q=>q
   rintro rfl
   rcases hc with z|hc
   · rw[←z,I.free]at e;cases e
   · rw[I.free]at hc;cases hc
 refine h _ ⟨I.ok,I.os,I.bare,⟨fun b o e n hb hx=>?_,fun b o e n hb hx=>?_,I.base.free,fun b o e hx=>?_,I.base.tups,I.base.frzs,I.base.tbls⟩,⟨_,hn',fun j y v' e1 e2 e3=>?_⟩,fun y c e=>?_,I.free,I.freeC,fun p hp=>?_,tracked,by simpa using I.len⟩
 · exact(hs.2 b (Nat.ne_of_lt (Nat.lt_of_lt_of_le (Heap.lt_size e) I.ok.above))).trans (I.base.keep b o e n hb hx)
 · obtain⟨sl,e1⟩:=I.base.slot b o e n hb hx
   exact⟨sl,(hs.2 b (Nat.ne_of_lt (Nat.lt_of_lt_of_le (Heap.lt_size e) I.ok.above))).trans e1⟩
 · obtain⟨o',e1⟩:=I.base.there b o e hx
   exact⟨o',(hs.2 b (Nat.ne_of_lt (Nat.lt_of_lt_of_le (Heap.lt_size e) I.ok.above))).trans e1⟩
 · by_cases hj:j=i
   · subst hj
     rw[List.getElem?_set_self hiσ]at e2
     cases e2
   · rw[List.getElem?_set_ne (Ne.symm hj)]at e2
     obtain⟨u',r',q⟩:=hl j y v' e1 e2 e3
     refine⟨u',r',?_⟩
     rcases q with⟨k,e⟩|⟨k,c,e,z⟩
     · refine .inl ⟨k,?_⟩
       have:y≠x:=fun e=>hj (Bl hN e1 (e ▸ hi))
       simp[this,e]
     · exact .inr ⟨k,c,e,z.sameBut hs (cne y c e)⟩
 · obtain⟨w',z⟩:=I.cell y c e
   exact⟨w',z.sameBut hs (cne y c e)⟩
 · obtain⟨e,n,ne,nf,d⟩:=I.pin p hp
   exact⟨(hs.2 p.1 ne).trans e,n,ne,nf,d⟩
end
end L2

end
section
set_option Elab.async false
set_option linter.all false
set_option maxRecDepth 100000
namespace L2
open PySem PySem.Spec PySem.W PyProof.Rows
theorem KK{M:Program}{w:World}{A:Around}{Q:Value→Shared→Prop}{E:Value→Shared→Prop}{s:Shared}{K:PySem.W.Frag}{a C:Addr}{oe:Obj}(kin:K.In s.heap)(h1:s.heap.get? a=some oe)(h2:oe.cls = .ref C)(h3:kitCls K (.ref C) (.type "ValueError")=some true)
  (q:Q (.bool true) s):wpAny (model M w) A (call (.builtin "isinstance") [.ref a,.type "ValueError"]) Q E s:=by
 obtain⟨l1,l2,l3⟩:=kit_cls (M:=model M w) kin h3
 have l4:Looks (model M w) s.heap (isInstance (.ref a) (.type "ValueError")) true:=fun A Q E s' k q=>by
  unfold isInstance
  refine wpAny_bind (wpAny_typeOf_ref (k _ _ h1) ?_)
  rw[h2]
  exact l3 _ _ _ _ k q
 refine call_isinstance_of ?_ (fun z=>nomatch z)
 unfold Builtin.«isinstance.nested»
 refine wpAny_bind (wpAny_typeOf_ref h1 ?_)
 rw[h2]
 refine wpAny_ite ?_
 rw[if_neg (show ¬(Value.ref C==Value.type "ValueError")=true from Bool.false_ne_true)]
 refine wpAny_bind (l1 _ _ _ _ (fun b o e=>e) ?_)
 refine wpAny_ite ?_
 rw[if_pos (by decide)]
 refine wpAny_bind ?_
 refine wpAny_bind (m:=isType (.type "ValueError")) (l2 _ _ _ _ (fun b o e=>e) ?_)
 refine wpAny_ite ?_
 rw[if_neg (by decide)]
 refine wpAny_bind (l4 _ _ _ _ (fun b o e=>e) ?_)
 refine wpAny_ite ?_
 rw[if_pos rfl]
 exact wpAny_pure (wpAny_pure q)
section
variable {X:Cx}{C:Addr}{n:Nat}{e:Expr}{es:List Expr}{pos pos' tpos hpos np:Pos}{Fs:FA}{fr:Bool}{k k':Nat}{f:Addr}{fd:FuncData}{ps:List Str}{x y z:Str}{st:Stmt}{p:Pos}{ct:FX}
theorem Oj:CallR X (.builtin "isinstance") (fun xs H Q=>∃ a φ,xs=[.ref a,.ty "ValueError"]∧H a=some (.ext φ)∧(∀ h,φ h→Kp X.K a h)∧Q (.bl true) H):=by
 rintro pins s σ H xs us Q I r ⟨a,φ,rfl,h1,h2,fin⟩
 obtain⟨u,u',rfl,r1,r2⟩:=vals2 r
 cases r1
 cases r2
 obtain⟨oe,C,q1,q2,q3⟩:=h2 _ (I.hok a _ h1).1
 exact KK I.kIn q1 q2 q3 ⟨.bl true,H,I,rfl,fin⟩
def fIsx(i:Nat):FE:=fun ρ=>match ρ[i]? with|some .ex=>some (.nw,.bl true)|_=>none
theorem p_isx(i:Nat){p q pe pos:Pos}(hg:Gl X "isinstance")(hm:X.mg "isinstance" = none)(hgT:Gl X "ValueError")(hmT:X.mg "ValueError" = none)(hN:X.N[i]?=some x:=by rfl)(hv:Vis X.env.scope x:=by first|exact Or.inl rfl|exact Or.inr (Or.inl rfl)|exact Or.inr (Or.inr rfl))(hd:(x==("__debug__" : Str))=false:=by decide)
  (hcd:(x==("__classdict__" : Str))=false:=by decide) (hs1:starEach [.Name "ValueError" q] X.env=[(false,eval (.Name "ValueError" q) X.env)]:=by rfl)
  (hs:starEach [.Name x pe,.Name "ValueError" q] X.env=(false,eval (.Name x pe) X.env)::starEach [.Name "ValueError" q] X.env:=by rfl):PF X (.Call (.Name "isinstance" p) [.Name x pe,.Name "ValueError" q] [] pos) (fIsx i) :=
 (Bq Oj hg hm boot_isinstance (T8 (Bn hN hv hd hcd) (T8 (pe_ty (T := "ValueError") hgT hmT (by rfl) (by decide) (by decide)) DF hs1) hs) (by decide) (by decide) hs (by rw[hs1];rfl)).imp fun σ H Q hZ=>by
  obtain⟨ρ,f,d,rs,e0,k⟩:=hZ
  unfold fIsx at e0
  split at e0
  · rename_i q
    cases e0
    obtain⟨o,q1,a,φ,rfl,q2,q3⟩:=rs.at_ i _ q
    exact⟨.ref a,q1,a,φ,rfl,q2,q3,k _ H (Same.refl H) RpF.b_⟩
  · cases e0
theorem Ol{hits:Nat→Bool}{M:Addr}{b₀:Stmt}{suite:List Stmt}{G:FS}(i:Nat)(F:FnOk X.prog X.w X.K X.mg X.base (CX1 X.prog X.w) k f fd ps (spx X.K X.mg fr ct))(D:Df X.K X.mg x st ps f fd)(hr:Room k' X.A)(hg:Gl X x)
    (ha:∀ E,PFA (X.wish E) (e::es) Fs) (hgy:Gl X y) (hh:Hit X.K X.mg hits y M) (hsu:∀ ea,PFSs (X.caught ea) (b₀::suite) G) (hNd:X.N.Nodup) (hN:X.N[i]?=some z:=by rfl) (hk:X.env.scope.names.lookup z=some .local:=by rfl) (hle:k≤k':=by decide) (hdb:(x==("__debug__" : Str))=false:=by decide) (hdy:(y==("__debug__" : Str))=false:=by decide) (hst:starEach (e::es) X.env=(false,eval e X.env)::starEach es X.env:=by rfl) (hpl:(backTo pos (starEach es X.env)).any (·.1)=false:=by rfl)
    (hs:swapsWith (.Call (.Name x p) (e::es) [] pos) none pos'.line X.env=pure false:=by rfl) (hstk:X.stack=X.env::X.outer:=by rfl) (hfr:X.env.frame=some X.env.locals:=by rfl) (hex:X.ex=[]:=by rfl) :
    PFS X (.Try [.Expr (.Call (.Name x p) (e::es) [] pos) pos'] [.ExceptHandler (some (.Name y np)) (some z) (b₀::suite) hpos] [] [] tpos) (DU ct Fs hits i G):=by
  rintro pins s σ H De I ⟨H₀,ρ,oc,⟨O,rb⟩,e0,k⟩
  obtain⟨xs,e1,e2⟩:=f8 e0
  obtain⟨r,q,e3⟩:=f8 e2
  refine EQ F D hr hg ha hle hdb hst hpl hs hstk hfr I rb.all e1 q (fun d er H' sm=>?_) fun n er H1 s1 H' ea C c0 s' J hC sm ho a=>?_
  · subst er
    cases e3
    exact k σ H' ⟨O,rb.mono sm⟩
  · subst er
    dsimp only at e3
    split at e3
    · rename_i hn
      obtain⟨oc',e4,e5⟩:=f8 e3
      refine Gs J a hgy hh.gl (hh.hit n C hn hC).1 hdy (codeAny_handlers_suite_as (W7 J a fun s3 a3=>?_))
      obtain⟨m1,m2,oe,vs,T,oT,ts,a0,g1,g2,_⟩:=a3.fly
      have hne:∀{b:Addr} {o:Obj},s1.heap.get? b=some o→ea≠b:=fun{b o} z w=>by rw[←w,m1]at z;cases z
      have It:=(a3.inv.trackX (o := .ext fun h=>∃ oe,h.get? ea=some oe∧oe.cls = .ref C) m2 (by
          cases y:X.s₀.heap.get? ea with
          | none=>rfl
          | some o =>
            obtain⟨o',e'⟩:=J.base.there ea o y (by rw[hex];simp);rw[m1]at e';cases e')
        (by obtain⟨m,⟨o,_,_,ho,_⟩,_⟩:=J.loc;exact hne ho)
        (fun x c e=>by obtain⟨v,o,ho,hd⟩:=J.cell x c e;exact(hne ho).symm)
        (fun p hp=>(hne (J.pin p hp).1).symm)
        ⟨⟨oe,g1,g2⟩,⟨oe,g1⟩,fun h1 h2 ⟨ob,z1,z2⟩ w=>⟨ob,w _ z1,z2⟩⟩).caught ea
      have sm2:Same H' (upd H' ea (.ext fun h=>∃ oe,h.get? ea=some oe∧oe.cls = .ref C)):=w8 m2
      have rb2:=rb.mono (sm.trans sm2)
      refine Bm (X:=X.caught ea) (v := .ref ea) It hNd hN (.inl hk) rfl (fun s4 I4=>?_) (.inr hk)
      refine wpAny_mono (hsu ea pins s4 (σ.set i (some (.ref ea))) _ { nx:=fun σ' H''=>De.nx (σ'.set i none) H'',rt:=De.rt } I4 ⟨H₀,ρ.set i .ex,oc',RepB.caught ⟨_,rb2.setC (c := .ex) ⟨ea,fun h=>∃ oe,h.get? ea=some oe∧oe.cls = .ref C,rfl,?_,fun h z=>?_⟩⟩ ea,e4,?_⟩) (fun f s5 w=>?_) fun _ _ w=>w.elim
      · rw[m6 fun w=>?_,p6]
        obtain⟨⟨vs,w2⟩,_⟩:=rb.own ea (u3 ea w)
        rw[sm _ _ w2]at m2
        cases m2
      · obtain⟨oe,z1,z2⟩:=z
        exact⟨oe,C,z1,z2,(hh.hit n C hn hC).2⟩
      · cases oc' with
        | nx ρ' =>
          cases e5
          refine fun σ' H'' w=>?_
          obtain⟨O',w⟩:=w.uncaught
          exact k _ _ ⟨_,w.setC (c := .no) (o:=none) trivial⟩
        | bk ρ'=>cases e5
        | ct ρ'=>cases e5
        | rt f d=>cases e5;exact k
        | ex m=>cases e5
      · cases f with
        | next =>
          obtain⟨σ',H'',I5,w⟩:=w
          exact IN (I5.uncaught I.ok) hNd hN hk fun s6 I6=>⟨_,_,I6,w⟩
        | ret u =>
          obtain⟨v,σ',H'',I5,rv,w⟩:=w
          exact IN (I5.uncaught I.ok) hNd hN hk fun s6 I6=>⟨v,_,_,I6,rv,w⟩
        | brk=>obtain⟨σ',H'',I5,w⟩:=w;exact w.elim
        | cont=>obtain⟨σ',H'',I5,w⟩:=w;exact w.elim
    · cases e3
end
end L2

end
section
set_option Elab.async false
set_option linter.all false
set_option maxRecDepth 100000
namespace L2
open PySem PySem.Spec PySem.W PyProof.Rows
abbrev FR:=Rho→Option Nat
def upX(X:Cx)(R:FR):TE:=fun σ H _=>∃ H₀ ρ n,RepB X H₀ H ρ σ∧R ρ=some n∧∀ C,X.mg (exN n)=some (.ref C)→XOk X H₀ (wk n) C
def PFX(X:Cx)(e:Expr)(R:FR):Prop:=PE X e (upX X R)
def M5(c:FX)(Fs:FA):FR:=fun ρ=>(Fs ρ).bind fun xs=>(c (sndL xs)).bind fun r=>match r with|.inl _=>none|.inr n=>some n
def sEx(R:FR):FS:=fun ρ=>(R ρ).map .ex
section
variable {X:Cx}{e a b:Expr}{es:List Expr}{pos pos' p:Pos}{Fs:FA}{R:FR}{fr:Bool}{k k':Nat}{f:Addr}{fd:FuncData}{ps:List Str}{x:Str}{st:Stmt}{ct:FX}
theorem r_call(F:FnOk X.prog X.w X.K X.mg X.base (CX1 X.prog X.w) k f fd ps (spx X.K X.mg fr ct))(D:Df X.K X.mg x st ps f fd)(hr:Room k' X.A)(hg:Gl X x)
  (ha:PFA X (e::es) Fs) (hle:k≤k':=by decide) (hdb:(x==("__debug__" : Str))=false:=by decide) (hst:starEach (e::es) X.env=(false,eval e X.env)::starEach es X.env:=by rfl) (hpl:(backTo pos (starEach es X.env)).any (·.1)=false:=by rfl) :
  PFX X (.Call (.Name x p) (e::es) [] pos) (M5 ct Fs):=by
 rintro pins s σ H Q I ⟨H₀,ρ,n,⟨O,rb⟩,e0,k⟩
 obtain⟨xs,e1,e2⟩:=f8 e0
 obtain⟨r,q,e3⟩:=f8 e2
 cases r with
 | inl d=>cases e3
 | inr m =>
  cases e3
  have go:∀ E:XK,D9 (CX1 X.prog X.w) X E→(∀ C H' o,X.mg (exN n)=some (.ref C)→Same H H'→(o=none∨wk n=true)→E (.ref C) o H')→wpAny (model X.prog X.w) X.A (eval (.Call (.Name x p) (e::es) [] pos) X.env) (EP X pins σ Q) X.xe s:=fun E hp hE =>
    Y1 (E:=E) (dvs:=[]) F (hr.mono hle) hg D.mg D.fn.kp D.bd .nil hp ha hdb hst hpl pins s σ H Q I ⟨ρ,xs,rb.all,e1,fun vs H1 s1 r1=>by
     dsimp only
     rw[List.append_nil]
     exact⟨_,.inr n,r1.sh,q,fun C H' o hC s' ho=>hE C H' o hC (s1.trans s') ho⟩⟩
  by_cases hC:∃ C,X.mg (exN n)=some (.ref C)
  · obtain⟨C,hC⟩:=hC
    obtain⟨E,hE,hp,hr⟩:=k C hC
    refine go E hp fun C' H' o hC' sm ho=>?_
    rw[hC]at hC'
    cases hC'
    exact hE H' o (rb.same.trans (i9.trans sm)) ho
  · exact go E0 KJ fun C H' o h=>(hC ⟨C,h⟩).elim
theorem s_retR(ha:PFX X e R):PFS X (.Return (some e) pos) (sEx R):=(JW ha).imp fun D σ H ⟨H₀,ρ,oc,rb,e0,k⟩=>by
 unfold sEx at e0
 cases h:R ρ with
 | none=>rw[h]at e0;cases e0
 | some n=>rw[h]at e0;cases e0;exact⟨H₀,ρ,n,rb,h,k⟩
theorem s_asgR{i:Nat}(ha:PFX X e R)(hN:X.N.Nodup)(hi:X.N[i]?=some x)(hx:Loc X.env.scope x)(hs:swapsWith e (some (.Name x pos')) pos.line X.env=pure false:=by rfl)(hf:X.fn x=true∨X.env.scope.names.lookup x=some .local:=by exact .inl rfl):
  PFS X (.Assign [.Name x pos'] e pos) (sEx R):=(JX hN hi hx ha hs hf).imp fun D σ H ⟨H₀,ρ,oc,rb,e0,k⟩=>by
 unfold sEx at e0
 cases h:R ρ with
 | none=>rw[h]at e0;cases e0
 | some n=>rw[h]at e0;cases e0;exact⟨H₀,ρ,n,rb,h,k⟩
end
end L2

end
section
set_option Elab.async false
set_option linter.all false
set_option maxRecDepth 100000
namespace L2
open PySem PySem.Spec PyProof.Rows
section
variable {X:Cx}{x y:Str}{j j2:Expr}{Fj Fk:FE}{i iy:Nat}{px px2 spos spos2 pos pos':Pos}
end
end L2

end
section
set_option Elab.async false
set_option linter.all false
set_option maxRecDepth 100000
namespace L2
open PySem PySem.Spec PyProof.Rows
theorem asn{X:Cx}{e:Expr}{Fe:FE}{pos pos':Pos}{x:Str}(i:Nat)(he:PF X e Fe)(hN:X.N.Nodup)(hi:X.N[i]?=some x:=by rfl)(hx:Loc X.env.scope x:=by exact Or.inl rfl)(hs:swapsWith e (some (.Name x pos')) pos.line X.env=pure false:=by rfl)(hf:X.fn x=true∨X.env.scope.names.lookup x=some .local:=by exact Or.inl rfl):PFS X (.Assign [.Name x pos'] e pos) (sSet [] i Fe):=V3 (rels:=[]) (A1 he hN hi hx hs hf)
section
variable {X:Cx}{e:Expr}{es:List Expr}{pos p:Pos}{Fs:FA}{r:FB}{x:Str}
theorem p_bu{id:String}(hc:M4 X (.builtin id) r)(hm:X.mg x=none)(ha:PFA X (e::es) Fs)(hg:Gl X x:=by rfl)(hv:bootBuiltins x=some (.builtin id):=by decide +kernel)(hn:x ≠ "__name__" := by decide)(hdb:(x==("__debug__" : Str))=false:=by decide)(hst:starEach (e::es) X.env=(false,eval e X.env)::starEach es X.env:=by rfl)(hpl:(backTo pos (starEach es X.env)).any (·.1)=false:=by rfl):
 PF X (.Call (.Name x p) (e::es) [] pos) (fBlt r Fs):=Od hc hg hm hv ha hn hdb hst hpl
theorem p_ty{T:String}(hc:M4 X (.type T) r)(hm:X.mg x=none)(ha:PFA X (e::es) Fs)(hg:Gl X x:=by rfl)(hv:bootBuiltins x=some (.type T):=by decide +kernel)(hn:x ≠ "__name__" := by decide)(hdb:(x==("__debug__" : Str))=false:=by decide)(hst:starEach (e::es) X.env=(false,eval e X.env)::starEach es X.env:=by rfl)(hpl:(backTo pos (starEach es X.env)).any (·.1)=false:=by rfl):
 PF X (.Call (.Name x p) (e::es) [] pos) (fBlt r Fs):=KA hc hg hm hv ha hn hdb hst hpl
theorem p_ca{fr:Bool}{k k':Nat}{f:Addr}{fd:FuncData}{ps:List Str}{ct:FC}{st:Stmt}(F:FnOk X.prog X.w X.K X.mg X.base CX0 k f fd ps (spc X.K fr ct))(D:Df X.K X.mg x st ps f fd)(hr:Room k' X.A)
  (ha:PFA X (e::es) Fs) (hg:Gl X x:=by rfl) (hle:k≤k':=by decide) (hdb:(x==("__debug__" : Str))=false:=by decide) (hst:starEach (e::es) X.env=(false,eval e X.env)::starEach es X.env:=by rfl) (hpl:(backTo pos (starEach es X.env)).any (·.1)=false:=by rfl):PF X (.Call (.Name x p) (e::es) [] pos) (i8 fr ct Fs) :=
 p_cal F D hr hg ha hle hdb hst hpl
end
section
variable {X:Cx}{a b:Expr}{Fa Fb:FE}{pos:Pos}{op:CmpOp}{r:FO}
theorem p_cm(ho:OpF X (compareOp op) r)(ha:PF X a Fa)(hb:PF X b Fb)(h:op ≠ .In:=by decide)(h2:op ≠ .NotIn:=by decide):PF X (.Compare a [op] [b] pos) (fOp r Fa Fb):=p_cmp ho ha hb (JZ _ h h2)
theorem t_cm(ho:OpF X (compareOp op) r)(ha:PF X a Fa)(hb:PF X b Fb)(h:op ≠ .In:=by decide)(h2:op ≠ .NotIn:=by decide):PFT X (.Compare a [op] [b] pos) (i6 (fOp r Fa Fb)):=t_cmp ho ha hb (JZ _ h h2)
end
section
variable {X:Cx}{scope:Scope}{x:Str}{tp pos:Pos}{elt iter:Expr}{Fi:FI}{Fe:FE}
theorem p_co(N:List Str)(nt:Nat)(js:List Nat)(XN:List Str)(xs:List (Str×NameKind))(hi:PFI X (.Name x tp) iter Fi)(he:∀ cl C fp s H,PF (o3 X N scope cl C fp s H) elt Fe)
  (h1:X.N=XN:=by rfl) (h2:X.env.scope.names=xs:=by rfl) (hk:scope.kind = .function:=by rfl) (c:DS XN xs scope N nt js=true:=by decide +kernel) (hc:X.calm=true:=by rfl) (nd:N.Nodup:=by decide +kernel) (h0:N[0]?=some x:=by rfl) (hl:∀ cl C fp s H,(o3 X N scope cl C fp s H).env.scope.names.lookup x=some .local:=by intro _ _ _ _ _;rfl) (hb:0<nt:=by decide) (hj:∀ j∈js,j<XN.length:=by decide)
  (hs:∀ x,foldedSetIterable iter X.env x=pure x:=by intro _;rfl):PF X (.ListComp elt [⟨.Name x tp,iter,[],0⟩] scope pos) (o7 nt js Fi (Tg.one 0) fYes Fe) :=
 p_comp (O3 XN xs h1 h2 hk c) hc hi (fun cl C fp s H=>Q5 nd h0 (Or.inl (hl cl C fp s H)) (Or.inr (hl cl C fp s H))) hb (fun _ _ _ _ _=>KD) he (fun j hj'=>by rw[h1];exact hj j hj') hs
theorem a_co{y:Str}{pos' spos:Pos}(i:Nat)(hN:X.N.Nodup)(N:List Str)(nt:Nat)(js:List Nat)(XN:List Str)(xs:List (Str×NameKind))(hi:PFI X (.Name x tp) iter Fi)(he:∀ cl C fp s H,PF (o3 X N scope cl C fp s H) elt Fe)
  (hix:X.N[i]?=some y:=by rfl) (hx:X.env.scope.names.lookup y=some .local:=by rfl) (hsw:swapsWith (.ListComp elt [⟨.Name x tp,iter,[],0⟩] scope pos) (some (.Name y pos')) spos.line X.env=pure true:=by rfl)
  (h1:X.N=XN:=by rfl) (h2:X.env.scope.names=xs:=by rfl) (hk:scope.kind = .function:=by rfl) (c:DS XN xs scope N nt js=true:=by decide +kernel) (hc:X.calm=true:=by rfl) (nd:N.Nodup:=by decide +kernel) (h0:N[0]?=some x:=by rfl) (hl:∀ cl C fp s H,(o3 X N scope cl C fp s H).env.scope.names.lookup x=some .local:=by intro _ _ _ _ _;rfl) (hb:0<nt:=by decide) (hj:∀ j∈js,j<XN.length:=by decide)
  (hs:∀ x,foldedSetIterable iter X.env x=pure x:=by intro _;rfl):AsgF X (.Assign [.Name y pos'] (.ListComp elt [⟨.Name x tp,iter,[],0⟩] scope pos) spos) i (o7 nt js Fi (Tg.one 0) fYes Fe) :=
 KH hN hix hx hsw (O3 XN xs h1 h2 hk c) hc hi (fun cl C fp s H=>Q5 nd h0 (Or.inl (hl cl C fp s H)) (Or.inr (hl cl C fp s H))) hb (fun _ _ _ _ _=>KD) he (fun j hj'=>by rw[h1];exact hj j hj') hs
end
theorem p_i{X:Cx}{a b:Expr}{Fa Fb:FE}{pos:Pos}(ha:PF X a Fa)(hb:PF X b Fb)(hs:Bf b:=by exact fun _ _=>rfl):PF X (.Subscript a b pos) (fAt Fa Fb):=p_ix ha hb hs
theorem Df.d{P:Program}{w:World}{K:PySem.W.Frag}{mg:Str→Option Value}{base:Heap}{x:Str}{st:Stmt}{f:Addr}{fd:FuncData}{N ps:List Str}{np nn:Nat}{fr:Bool}(D:Df K mg x st ps f fd)(k:Nat)(F:FS)(S:FnScope N ps (g6 st))
 (body:∀(cdv:Value) (A:Around) (outer:List Env) (s:Shared) (H:Hp) (E:XK),Room k (A.deeper (envOfC x (g6 st) s.heap.objs.size f cdv))→(A.deeper (envOfC x (g6 st) s.heap.objs.size f cdv)).units+64<cLine →
  PFSs (cxOf CX0 P w K mg base N x (g6 st) f cdv A outer s H E).nox (v6 st) F) (hp:np=ps.length:=by rfl) (hn:nn=N.length:=by rfl):FnOk P w K mg base CX0 (k+1) f fd ps (spc K fr (cOf np nn fr F)):=Fun.dat D.fn S hp hn fun cdv A outer s H E hr=>body cdv A outer s H E hr hr.units
theorem q_n{X:Cx}{x:Str}{pos:Pos}{es:List Expr}{Fs:FA}(i:Nat)(hr:PFA X es Fs)(hN:X.N[i]?=some x:=by rfl)(hv:Vis X.env.scope x:=by first|exact Or.inl rfl|exact Or.inr (Or.inl rfl)|exact Or.inr (Or.inr rfl))(hd:(x==("__debug__" : Str))=false:=by decide)(hcd:(x==("__classdict__" : Str))=false:=by decide)(hs:starEach (.Name x pos::es) X.env=(false,eval (.Name x pos) X.env)::starEach es X.env:=by rfl):PFA X (.Name x pos::es) (f7 (fN i) Fs):=i0 (f9 i hN hv hd hcd) hr hs
end L2

end
section
set_option Elab.async false
set_option linter.all false
set_option maxRecDepth 100000
namespace L2
open PySem PySem.Spec PyProof.Rows
end L2

end
section
local macro_rules|`(tactic| omega)=>`(tactic| first|lia|omega +splitDisjunctions)
set_option Elab.async false
set_option linter.all false
set_option maxRecDepth 100000
set_option maxHeartbeats 2000000
namespace L2
open PySem PySem.Spec PyProof.Rows
section
variable {α β:Type}
def insK(p:Int×α):List (Int×α)→List (Int×α)
 | []=>[p]
 | q::qs=>if p.1≤q.1 then p::q::qs else q::insK p qs
def KL:List (Int×α)→List (Int×α)
 | []=>[]
 | p::ps=>insK p (KL ps)
end
section
variable {X:Cx}{pins:List (Addr×Obj)}{σ:St}{H:Hp}{s:Shared}
end
def Gv(c:FC):List Dt→Option (List Int)
 | []=>some []
 | d::ds=>(c [d]).bind fun r=>(intD r).bind fun i=>(Gv c ds).map (i::·)
section
variable {X:Cx}{pins:List (Addr×Obj)}{σ:St}{H:Hp}{s:Shared}{k:Nat}{f:Addr}{fd:FuncData}{p:Str}{fr:Bool}{ct:FC}{l:Addr}{vs:List V}{ds:List Dt}{ks:List Int}{Q:VK}
end
section
variable {X:Cx}{a:Expr}{Fa:FE}{k:Nat}{f:Addr}{fd:FuncData}{prm:Str}{fr:Bool}{ct:FC}{x:Str}{p pos kp kpos:Pos}
def fSortK(c:FC)(F:FE):FE:=fun ρ=>(F ρ).bind fun x=>(lstD x.2).bind fun ds=>(Gv c ds).bind fun ks=>if ds.length<64∧ks.Nodup then some (newL ((KL (ks.zip ds)).map (·.2))) else none
end
end L2

end
section
set_option linter.all false
set_option maxRecDepth 100000
namespace L2
open PySem
abbrev L(ns:List Int):Dt := .lst (ns.map .int)
abbrev T(ns:List Int):Dt := .tup (ns.map .int)
theorem i7{α β:Type}{a:α}{f:α→Option β}:(some a).bind f=f a:=rfl
theorem DV{α:Type}{xs:List α}{i:Int}(h0:0≤i):atI xs i=xs[i.toNat]?:=by
 unfold atI ixN
 rw[if_pos h0]
 by_cases h:i<xs.length
 · rw[if_pos h];rfl
 · rw[if_neg h,List.getElem?_eq_none (by omega)];rfl
theorem KM{α:Type}{x:α}{xs:List α}:atI (x::xs) 0=some x:=DH (j:=0) rfl
theorem atI_c1{α:Type}{x y:α}{xs:List α}:atI (x::y::xs) 1=some y:=DH (j:=1) rfl
theorem atI_c2{α:Type}{x y z:α}{xs:List α}:atI (x::y::z::xs) 2=some z:=DH (j:=2) rfl
theorem G3:∀ ns:List Int,p9 (ns.map Dt.int)=true
 | []=>rfl
 | n::ns=>by rw[List.map_cons,p9,G3 ns];rfl
theorem Al:∀(k:Nat) (ns:List Int),oksN k (ns.map Dt.int)=true
 | k,[]=>by cases k<;>rfl
 | k,n::ns=>by rw[List.map_cons,oksN,Al k ns];cases k<;>rfl
theorem BM:∀ ns:List Int,pys (ns.map Dt.int)=ns.map PyData.int
 | []=>rfl
 | n::ns=>by rw[List.map_cons,pys,BM ns];rfl
theorem Q6:∀ ns ms:List Int,PyData.eqvAll (ns.map PyData.int) (ms.map PyData.int)=decide (ns=ms)
 | [],[]=>by simp[PyData.eqvAll]
 | [],m::ms=>by simp[PyData.eqvAll]
 | n::ns,[]=>by simp[PyData.eqvAll]
 | n::ns,m::ms=>by
  rw[List.map_cons,List.map_cons,PyData.eqvAll,Q6 ns ms,PyData.eqv,Bool.eq_iff_iff]
  simp
theorem Om(ns:List Int):(Dt.scr ns).okN 8=true:=by simp[Dt.okN]
theorem ER(ns ms:List Int):opEq (.scr ns) (L ms)=some (.nw,.bl (decide (ns=ms))):=by
 unfold opEq
 rw[Om]
 unfold L
 rw[Dt.okN,Al]
 unfold eqD
 rw[Dt.py,Dt.py,BM,PyData.eqv,Q6]
 rfl
theorem j7(i j:Int):opEq (.int i) (.int j)=some (.nw,.bl (decide (i=j))):=by
 unfold opEq eqD
 rw[Dt.py,Dt.py,PyData.eqv,Bool.beq_eq_decide_eq]
 rfl
theorem Z3(i j:Int):opNe (.int i) (.int j)=some (.nw,.bl (!decide (i=j))):=by
 unfold opNe eqD
 rw[Dt.py,Dt.py,PyData.eqv,Bool.beq_eq_decide_eq]
 rfl
theorem AI{i j:Int}(h:j.natAbs<2 ^ 64):Y6 i j=true:=by unfold Y6;rw[decide_eq_true h];simp
section
variable (i j:Int)
end
def j9(ns:List Int)(k:Int):Int:=if k<ns.length then ns.getD k.toNat 0 else if ns=[] then 0 else ns.getD (k.fmod ns.length).toNat 0*31+k
end L2

end
section
set_option linter.all false
set_option maxRecDepth 100000
namespace L2
open PySem
section
variable {α β γ:Type}{g:Tg}{Fc:FT}{Fe:FE}{ρ0:Rho}
theorem Da(e:α→Dt)(h:α→Dv):∀(xs:List α),(∀ x∈xs,(g.put (e x) ρ0).bind Fe=some (h x))→G2 g fYes Fe ρ0 (xs.map e)=some (xs.map h)
 | [],_=>rfl
 | x::xs,q=>by
  have q1:=q x List.mem_cons_self
  have ih:=Da e h xs fun y hy=>q y (List.mem_cons_of_mem _ hy)
  rw[List.map_cons,G2]
  cases p:g.put (e x) ρ0 with
  | none=>rw[p]at q1;cases q1
  | some ρ1 =>
   rw[p]at q1
   have q1:Fe ρ1=some (h x):=q1
   simp[fYes,q1,ih]
theorem BN(h:α→Dv):∀ xs:List α,sndL (xs.map h)=xs.map fun x=>(h x).2
 | []=>rfl
 | x::xs=>by rw[List.map_cons,sndL,BN h xs];rfl
theorem Am{h:α→Dv}:∀{xs:List α},(∀ x∈xs,(h x).1.isFr=true)→F9 (xs.map h)=true
 | [],_=>rfl
 | x::xs,q=>by rw[List.map_cons,F9,q x List.mem_cons_self,Am fun y hy=>q y (List.mem_cons_of_mem _ hy)];rfl
theorem z5{nt:Nat}{js:List Nat}{Fi:FI}{ρ:Rho}{e:α→Dt}{h:α→Dt}{xs:List α}(hi:Fi ρ=some (xs.map e))(q:∀ x∈xs,(g.put (e x) (sigD nt js ρ)).bind Fe=some (.nw,h x)):o7 nt js Fi g fYes Fe ρ=some (.nw,.lst (xs.map h)):=by
 unfold o7
 rw[hi,i7,Da e (fun x=>(.nw,h x)) xs q,i7,Am (fun x _=>rfl),BN]
 rfl
variable {F:FS}
def nextO(G:FS):Oc→Option Oc
 | .nx ρ=>G ρ
 | .ct ρ=>G ρ
 | .bk ρ=>some (.nx ρ)
 | .rt f d=>some (.rt f d)
 | .ex C=>some (.ex C)
theorem A8{x:Dt}{xs:List Dt}{ρ:Rho}:forF g F (x::xs) ρ=((g.put x ρ).bind F).bind (nextO (forF g F xs)):=by
 rw[forF]
 cases g.put x ρ with
 | none=>rfl
 | some ρ1 =>
  show(F ρ1).bind _=(F ρ1).bind _
  congr 1
  first|done|(funext oc;cases oc<;>rfl)
theorem Db(e:α→Dt)(R:β→γ→Rho)(step:β→α→β):∀(xs:List α) (b:β) (j:γ),(∀ b x j,x∈xs→∃ j',(g.put (e x) (R b j)).bind F=some (.nx (R (step b x) j')))→∃ j',forF g F (xs.map e) (R b j)=some (.nx (R (xs.foldl step b) j'))
 | [],b,j,_=>⟨j,rfl⟩
 | x::xs,b,j,h=>by
  obtain⟨j1,h1⟩:=h b x j List.mem_cons_self
  obtain⟨j2,h2⟩:=Db e R step xs (step b x) j1 fun b y j hy=>h b y j (List.mem_cons_of_mem _ hy)
  refine⟨j2,?_⟩
  rw[List.map_cons,A8,h1]
  exact h2
end
abbrev LL(rows:List (List Int)):Dt := .lst (rows.map L)
abbrev TTu(rows:List (List Int)):Dt := .tup (rows.map T)
abbrev C6(k:Int)(bills:List (List Int)):Dt := .tup [.int k,TTu bills]
theorem flat_T(ns:List Int):(T ns).flat=true:=by show p9 _=true;exact G3 ns
theorem U4:∀ rows:List (List Int),p9 (rows.map T)=true
 | []=>rfl
 | r::rows=>by rw[List.map_cons,p9,flat_T,U4 rows];rfl
theorem Oo(f:Fl)(i:Int):nrm f (.int i)=(.nw,.int i):=rfl
theorem KN(ns:List Int):lfl (ns.map .int) = .nw:=by unfold lfl;rw[G3];rfl
theorem JB(ns:List Int):newL (ns.map .int)=(.nw,L ns):=by unfold newL;rw[KN]
theorem M6{α:Type}(h:α→Bool):∀ xs:List α,AD (xs.map fun x => .bl (h x))=some (xs.map h)
 | []=>rfl
 | x::xs=>by rw[List.map_cons,AD,M6 h xs];rfl
theorem W8(lo:Int)(n:Nat):K9 lo n=(List.range n).map fun(k:Nat) => .int (lo+(k:Int)):=rfl
theorem o2(c:Int){m:Int}(h:0<m):0≤c.fmod m∧c.fmod m<m:=⟨Int.fmod_nonneg_of_pos c h,Int.fmod_lt_of_pos c h⟩
def Dc(c m:Int):Int :=
 if m=2 then(if((c.fdiv (10 ^ 30)).fmod 2)=1 then -(c.fmod (10 ^ 30)) else c.fmod (10 ^ 30))
 else
  let wide:Int:=if m=0 then 9 else 61
  let n:=c.fmod wide
  if wide.fdiv 2<n then n-wide else n
theorem KO(c m:Int):(Dc c m).natAbs<10 ^ 30:=by
 unfold Dc
 have a1:=Int.fmod_nonneg_of_pos c (show(0:Int)<10 ^ 30 by decide)
 have a2:=Int.fmod_lt_of_pos c (show(0:Int)<10 ^ 30 by decide)
 dsimp only
 split
 · split<;>omega
 · have hw:(if m=0 then(9:Int) else 61)=9∨(if m=0 then(9:Int) else 61)=61:=by split<;>simp
   generalize (if m=0 then(9:Int) else 61)=wide at *
   have b1:=Int.fmod_nonneg_of_pos c (show(0:Int)<wide by omega)
   have b2:=Int.fmod_lt_of_pos c (show(0:Int)<wide by omega)
   split<;>omega
def V4(ns:List Int)(at_:Int)(n:Nat)(m:Int):List Int:=(List.range n).map fun(k:Nat)=>Dc (j9 ns (at_+(k:Int))) m
theorem JC(ns:List Int)(a:Int)(n:Nat)(m:Int):(V4 ns a n m).length=n:=by unfold V4;simp
def t6(ns:List Int):Int:=if(j9 ns 3).fmod 7=6 then 0 else if(j9 ns 2).fmod 5<3 then 0 else if(j9 ns 2).fmod 5=3 then 1 else 2
def W9(ns:List Int):Int:=if(j9 ns 3).fmod 7=6 then 6 else 1+(j9 ns 0).fmod 4
def BO(ns:List Int):Int:=if(j9 ns 3).fmod 7=6 then 8 else(j9 ns 1).fmod 5
def z7(ns:List Int):Nat:=(if t6 ns=2 then 1+(W9 ns).fmod 2 else W9 ns).toNat
def L1(ns:List Int):Nat:=(if t6 ns=2 then(BO ns).fmod 4 else BO ns).toNat
def E7(ns:List Int):List (List Int):=(List.range (L1 ns)).map fun(k:Nat)=>V4 ns (8+(z7 ns:Int)*(k:Int)) (z7 ns) (t6 ns)
theorem BP(ns:List Int):1≤z7 ns∧z7 ns≤6:=by
 have h1:=o2 (j9 ns 0) (show(0:Int)<4 by decide)
 have h2:=o2 (W9 ns) (show(0:Int)<2 by decide)
 unfold z7
 split
 · omega
 · unfold W9;split<;>omega
theorem Dd(ns:List Int):L1 ns≤8:=by
 have h1:=o2 (j9 ns 1) (show(0:Int)<5 by decide)
 have h2:=o2 (BO ns) (show(0:Int)<4 by decide)
 unfold L1
 split
 · omega
 · unfold BO;split<;>omega
theorem DW(ns:List Int):t6 ns=0∨t6 ns=1∨t6 ns=2:=by
 unfold t6
 split
 · simp
 · split
   · simp
   · split<;>simp
end L2

end
section
local macro_rules|`(tactic| omega)=>`(tactic| first|lia|omega +splitDisjunctions)
set_option linter.all false
set_option maxRecDepth 100000
namespace L2
open PySem
def isWh:Dt→Bool
 | .int _=>true
 | _=>false
def Wide(n:Nat)(rows:List (List Int)):Prop:=∀ r∈rows,r.length=n
theorem KP(d:Dt):nrm .nw d=(.nw,d):=by unfold nrm;split<;>rfl
theorem run{F G:FS}{ρ ρ':Rho}{r:Option Oc}(h:F ρ=some (.nx ρ'))(k:G ρ'=r):sSeq F G ρ=r:=by
 unfold sSeq
 rw[h]
 exact k
theorem u6{np n:Nat}{fr:Bool}{F:FS}{ds:List Dt}{f:Fl}{d:Dt}(hl:ds.length=np)(h:F (rho0 n ds)=some (.rt f d))(hf:(f.isFr||d.flat)=true):cOf np n fr F ds=some d:=by
 unfold cOf
 rw[if_pos hl,h]
 show(if(fr&&!(f.isFr||d.flat))=true then none else some d)=some d
 rw[hf]
 cases fr<;>rfl
theorem rng_ok{n:Nat}(h:n≤1000000):Z0 (n:Int)=true:=by
 unfold Z0
 rw[decide_eq_true (show -1000000≤(n:Int) by omega),decide_eq_true (show(n:Int)≤1000000 by omega)]
 rfl
theorem KQ(ns:List Int)(a:Int)(n:Nat)(m:Int):∀ x∈V4 ns a n m,x.natAbs<10 ^ 30:=fun x hx=>by
 unfold V4 at hx
 obtain⟨k,_,rfl⟩:=List.mem_map.mp hx
 exact KO _ _
theorem DX(ns:List Int):Wide (z7 ns) (E7 ns):=fun r hr=>by
 unfold E7 at hr
 obtain⟨k,_,rfl⟩:=List.mem_map.mp hr
 exact JC _ _ _ _
theorem Gw(ns:List Int):∀ r∈E7 ns,∀ x∈r,x.natAbs<10 ^ 30:=fun r hr=>by
 unfold E7 at hr
 obtain⟨k,_,rfl⟩:=List.mem_map.mp hr
 exact KQ _ _ _ _
theorem ES(ns:List Int):(E7 ns).length=L1 ns:=by unfold E7;simp
end L2

end
section
set_option linter.all false
set_option maxRecDepth 100000
namespace L2
open PySem
@[simp] theorem x0:∀(n:Nat) (ds:List Dt),rho0 n ds=List.map (Cell.sh false) ds++List.replicate (n-List.length ds) Cell.no:=by intros;rfl
@[simp] theorem x1:∀(F G:FS) (ρ:Rho),sSeq F G ρ=Option.bind (F ρ) (seqO G):=by intros;rfl
@[simp] theorem x2:∀(G:FS) (ρ:Rho),seqO G (Oc.nx ρ)=G ρ:=by intros;rfl
@[simp] theorem x3:∀(G:FS) (x:Oc),(∀(ρ:Rho),x=Oc.nx ρ→False)→seqO G x=some x:=by exact @L2.seqO.eq_2
@[simp] theorem x4:∀(c:FT) (F G:FS) (ρ:Rho),sIf c F G ρ=Option.bind (c ρ) fun b=>if b=true then F ρ else G ρ:=by intros;rfl
@[simp] theorem x5:∀(F:FE) (ρ:Rho),i6 F ρ=Option.bind (F ρ) fun x=>blD (Prod.snd x):=by intros;rfl
@[simp] theorem x6:∀(r:FO) (Fa Fb:FE) (ρ:Rho),
 fOp r Fa Fb ρ=Option.bind (Fa ρ) fun x=>Option.bind (Fb ρ) fun y=>r (Prod.snd x) (Prod.snd y):=by intros;rfl
@[simp] theorem x7:∀(i:Nat) (ρ:Rho),fN i ρ=CS ρ i:=by intros;rfl
@[simp] theorem x8:∀(ρ:Rho) (i:Nat),CS ρ i=Option.bind ρ[i]? Cell.val:=by intros;rfl
@[simp] theorem x9:Cell.val Cell.no=none:=by intros;rfl
@[simp] theorem x10:∀(f:Bool) (d:Dt),Cell.val (Cell.sh f d)=some (nrm (flOf f) d):=by intros;rfl
@[simp] theorem x11:∀(f:Bool) (ds:List Dt),Cell.val (Cell.ow f ds)=some (flOf f,Dt.lst ds):=by intros;rfl
@[simp] theorem x12:∀(f:Bool),flOf f=if f=true then Fl.fr else Fl.sh:=by intros;rfl
@[simp] theorem x13:∀(r:FB) (Fs:FA) (ρ:Rho),fBlt r Fs ρ=Option.bind (Fs ρ) fun xs=>r (sndL xs):=by intros;rfl
@[simp] theorem x14:∀(Fa:FE) (Fs:FA) (ρ:Rho),f7 Fa Fs ρ=Option.bind (Fa ρ) fun x=>Option.bind (Fs ρ) fun xs=>some (x::xs):=by intros;rfl
@[simp] theorem x15:∀(x:Rho),fNil x=some []:=by intros;rfl
@[simp] theorem x16:sndL []=[]:=by intros;rfl
@[simp] theorem x17:∀(x_1:Dv) (xs:List Dv),sndL (x_1::xs)=Prod.snd x_1::sndL xs:=by intros;rfl
@[simp] theorem x18:∀(xs:List Dt),bLen [Dt.lst xs]=some (Fl.nw,Dt.int ↑(List.length xs)):=by intros;rfl
@[simp] theorem x19:∀(xs:List Dt),bLen [Dt.tup xs]=some (Fl.nw,Dt.int ↑(List.length xs)):=by intros;rfl
@[simp] theorem x20:∀(xs:List Int),bLen [Dt.scr xs]=some (Fl.nw,Dt.int ↑(List.length xs)):=by intros;rfl
@[simp] theorem x22:∀(b:Bool),blD (Dt.bl b)=some b:=by intros;rfl
@[simp] theorem x24:truD Dt.non=some false:=by intros;rfl
@[simp] theorem x25:∀(b:Bool),truD (Dt.bl b)=some b:=by intros;rfl
@[simp] theorem x26:∀(i:Int),truD (Dt.int i)=some (i != 0):=by intros;rfl
@[simp] theorem x27:∀(ds:List Dt),truD (Dt.lst ds)=some !List.isEmpty ds:=by intros;rfl
@[simp] theorem x28:∀(ds:List Dt),truD (Dt.tup ds)=some !List.isEmpty ds:=by intros;rfl
@[simp] theorem x30:∀(F:FE) (ρ:Rho),sRet F ρ=Option.map (fun x=>Oc.rt (Prod.fst x) (Prod.snd x)) (F ρ):=by intros;rfl
@[simp] theorem x31:∀(ρ:Rho),m9 ρ=some (Oc.nx ρ):=by intros;rfl
@[simp] theorem x32:∀(Fa Fb:FE) (ρ:Rho),fAt Fa Fb ρ=Option.bind (Fa ρ) fun x=>Option.bind (Fb ρ) fun y=>opAt x y:=by intros;rfl
@[simp] theorem x33:∀(x y:Dv),
 opAt x y =
  match Prod.snd x,Prod.snd y with
  | Dt.lst ds,Dt.int i=>Option.map (nrm (Fl.item (Prod.fst x))) (atI ds i)
  | Dt.tup ds,Dt.int i=>Option.map (nrm (Fl.item (Prod.fst x))) (atI ds i)
  | Dt.scr ns,Dt.int i=>Option.map (fun n=>(Fl.nw,Dt.int n)) (atI ns i)
  | x,x_1=>none:=by intros;rfl
@[simp] theorem x34:∀(Fs:FA) (ρ:Rho),
 fLst Fs ρ =
  Option.bind (Fs ρ) fun xs =>
   if List.length xs≤1000 then some (if M3 xs=true then Fl.nw else Fl.tn,Dt.lst (sndL xs)) else none:=by intros;rfl
@[simp] theorem x35:∀(Fs:FA) (ρ:Rho),
 fTup Fs ρ =
  Option.bind (Fs ρ) fun xs =>
   if List.length xs≤1000 then
    some (if M3 xs=true then Fl.nw else if F9 xs=true then Fl.fr else Fl.sh,Dt.tup (sndL xs))
   else none:=by intros;rfl
@[simp] theorem x36:Fl.item Fl.tn=Fl.sh:=by intros;rfl
@[simp] theorem x37:∀(x:Fl),(x=Fl.tn→False)→Fl.item x=x:=by exact @L2.Fl.item.eq_2
@[simp] theorem x38:∀(d:Dt) (x:Rho),fC d x=some (Fl.nw,d):=by intros;rfl
@[simp] theorem x39:∀(F:FE) (ρ:Rho),fTru F ρ=Option.bind (F ρ) fun x=>truD (Prod.snd x):=by intros;rfl
@[simp] theorem x40:∀(F:FT) (ρ:Rho),fNot F ρ=Option.map not (F ρ):=by intros;rfl
@[simp] theorem x41:∀(F G:FT) (ρ:Rho),fAnd F G ρ=Option.bind (F ρ) fun b=>if b=true then G ρ else some false:=by intros;rfl
@[simp] theorem x42:∀(F G:FT) (ρ:Rho),fOr F G ρ=Option.bind (F ρ) fun b=>if b=true then some true else G ρ:=by intros;rfl
@[simp] theorem x43:∀(F G:FE) (ρ:Rho),
 vAnd F G ρ=Option.bind (i6 F ρ) fun b=>if b=true then G ρ else some (Fl.nw,Dt.bl false):=by intros;rfl
@[simp] theorem x44:∀(F G:FE) (ρ:Rho),vOr F G ρ=Option.bind (i6 F ρ) fun b=>if b=true then some (Fl.nw,Dt.bl true) else G ρ:=by intros;rfl
@[simp] theorem x45:∀(F:FE) (ρ:Rho),vNot F ρ=Option.map (fun b=>(Fl.nw,Dt.bl !b)) (i6 F ρ):=by intros;rfl
@[simp] theorem x46:∀(F:FE) (ρ:Rho),
 fNeg F ρ =
  Option.bind (F ρ) fun x =>
   match Prod.snd x with
   | Dt.int i=>some (Fl.nw,Dt.int (-i))
   | x=>none:=by intros;rfl
@[simp] theorem x47:∀(F:FT) (Fa Fb:FE) (ρ:Rho),fIf F Fa Fb ρ=Option.bind (F ρ) fun b=>if b=true then Fa ρ else Fb ρ:=by intros;rfl
@[simp] theorem x48:∀(T:String) (F:FE) (ρ:Rho),fIsi T F ρ=Option.map (fun x=>(Fl.nw,Dt.bl (BE (tyN (Prod.snd x)) T))) (F ρ):=by intros;rfl
@[simp] theorem x49:∀(t T:String),BE t T=(t==T||t == "bool" && T == "int"):=by intros;rfl
@[simp] theorem x50:tyN Dt.non = "NoneType" := by intros;rfl
@[simp] theorem x51:∀(b:Bool),tyN (Dt.bl b) = "bool" := by intros;rfl
@[simp] theorem x52:∀(i:Int),tyN (Dt.int i) = "int" := by intros;rfl
@[simp] theorem x53:∀(x_1:PySem.Str),tyN (Dt.str x_1) = "str" := by intros;rfl
@[simp] theorem x54:∀(xs:List Dt),tyN (Dt.lst xs) = "list" := by intros;rfl
@[simp] theorem x55:∀(ns:List Int),tyN (Dt.scr ns) = "list" := by intros;rfl
@[simp] theorem x56:∀(xs:List Dt),tyN (Dt.tup xs) = "tuple" := by intros;rfl
@[simp] theorem x57:∀(rels:List Nat) (i:Nat) (F:FE) (ρ:Rho),
 sSet rels i F ρ =
  Option.map (fun x=>Oc.nx (List.set (relS rels ρ) i (Cell.sh (Fl.isFr (Prod.fst x)) (Prod.snd x))))
   (F (z4 (relS rels ρ))):=by intros;rfl
@[simp] theorem x58:∀(x:Rho),relS [] x=x:=by intros;rfl
@[simp] theorem x59:∀(x:Rho) (i:Nat) (is:List Nat),relS (i::is) x=relS is (CY x i):=by intros;rfl
@[simp] theorem x60:z4 []=[]:=by intros;rfl
@[simp] theorem x61:∀(c:Cell) (ρ:List Cell),z4 (c::ρ)=C0 c::z4 ρ:=by intros;rfl
@[simp] theorem x62:∀(f:Bool) (ds:List Dt),C0 (Cell.ow f ds)=Cell.no:=by intros;rfl
@[simp] theorem x63:∀(x:Cell),(∀(f:Bool) (ds:List Dt),x=Cell.ow f ds→False)→C0 x=x:=by exact @L2.C0.eq_2
@[simp] theorem x64:∀(fr:Bool) (c:FC) (Fs:FA) (ρ:Rho),
 i8 fr c Fs ρ=Option.bind (Fs ρ) fun xs=>Option.map (nrm (if fr=true then Fl.nw else Fl.sh)) (c (sndL xs)):=by intros;rfl
@[simp] theorem x65:Fl.isFr Fl.nw=true:=by intros;rfl
@[simp] theorem x66:Fl.isFr Fl.fr=true:=by intros;rfl
@[simp] theorem x68:Fl.isNw Fl.nw=true:=by intros;rfl
@[simp] theorem x69:∀(x:Fl),(x=Fl.nw→False)→Fl.isNw x=false:=by exact @L2.Fl.isNw.eq_2
@[simp] theorem x70:M3 []=true:=by intros;rfl
@[simp] theorem x71:∀(x_1:Dv) (xs:List Dv),M3 (x_1::xs)=(Fl.isNw (Prod.fst x_1)&&M3 xs):=by intros;rfl
@[simp] theorem x72:F9 []=true:=by intros;rfl
@[simp] theorem x73:∀(x_1:Dv) (xs:List Dv),F9 (x_1::xs)=(Fl.isFr (Prod.fst x_1)&&F9 xs):=by intros;rfl
@[simp] theorem x74:∀(F:FE) (ρ:Rho),AG F ρ=Option.map (fun x=>Oc.nx ρ) (F ρ):=by intros;rfl
@[simp] theorem x75:∀(rels:List Nat) (Fi:FI) (g:Tg) (F:FS) (ρ:Rho),
 sFor rels Fi g F ρ=Option.bind (Fi (z4 (relS rels ρ))) fun items=>forF g F items (relS rels ρ):=by intros;rfl
@[simp] theorem x76:∀(F:FE) (ρ:Rho),iSeq F ρ=Option.bind (F ρ) fun x=>seqD (Prod.snd x):=by intros;rfl
@[simp] theorem x77:∀(ds:List Dt),seqD (Dt.lst ds)=some ds:=by intros;rfl
@[simp] theorem x78:∀(ds:List Dt),seqD (Dt.tup ds)=some ds:=by intros;rfl
@[simp] theorem x80:∀(i:Nat) (F:FE) (ρ:Rho),
 IH i F ρ =
  Option.bind (F ρ) fun x =>
   if Fl.isNw (Prod.fst x)=true then some (Oc.nx (List.set ρ i (Cell.sh true (Prod.snd x)))) else none:=by intros;rfl
@[simp] theorem x81:∀(i:Nat) (F:FE) (ρ:Rho),
 sOwn i F ρ =
  Option.bind (F (z4 ρ)) fun x =>
   match x with
   | (Fl.nw,Dt.lst ds)=>if i<List.length ρ then some (Oc.nx (List.set ρ i (Cell.ow true ds))) else none
   | (Fl.tn,Dt.lst ds)=>if i<List.length ρ then some (Oc.nx (List.set ρ i (Cell.ow false ds))) else none
   | x=>none:=by intros;rfl
@[simp] theorem x82:∀(i:Nat) (F:FE) (ρ:Rho),
 II i F ρ =
  Option.bind (F ρ) fun x =>
   match x with
   | (Fl.nw,Dt.lst ds)=>if i<List.length ρ then some (Oc.nx (List.set ρ i (Cell.ow true ds))) else none
   | x=>none:=by intros;rfl
@[simp] theorem x83:∀(w:FW) (i:Nat) (F:FE) (ρ:Rho),
 sWr w i F ρ =
  Option.bind (J3 ρ i) fun o =>
   Option.bind (F (z4 ρ)) fun x =>
    Option.map (fun ds=>Oc.nx (List.set ρ i (Cell.ow (Prod.fst o&&Fl.isFr (Prod.fst x)) ds)))
     (w (Prod.snd o) (Prod.snd x)):=by intros;rfl
@[simp] theorem x84:∀(w:FW) (i:Nat) (F:FE) (ρ:Rho),
 sWrA w i F ρ =
  Option.bind (J3 ρ i) fun o =>
   Option.bind (F ρ) fun x =>
    if Fl.isNw (Prod.fst x)=true then
     Option.map (fun ds=>Oc.nx (List.set ρ i (Cell.ow (Prod.fst o) ds))) (w (Prod.snd o) (Prod.snd x))
    else none:=by intros;rfl
@[simp] theorem x85:∀(i:Nat) (Fj Fe:FE) (ρ:Rho),
 sPut i Fj Fe ρ =
  Option.bind (J3 ρ i) fun o =>
   Option.bind (Fe (z4 ρ)) fun x =>
    Option.bind (Fj ρ) fun j =>
     Option.bind (intD (Prod.snd j)) fun n =>
      Option.map (fun ds=>Oc.nx (List.set ρ i (Cell.ow (Prod.fst o&&Fl.isFr (Prod.fst x)) ds)))
       (setD (Prod.snd o) n (Prod.snd x)):=by intros;rfl
@[simp] theorem x86:∀(ρ:Rho) (i:Nat),
 J3 ρ i =
  match ρ[i]? with
  | some (Cell.ow f ds)=>some (f,ds)
  | x=>none:=by intros;rfl
@[simp] theorem x87:∀(F:FE) (ρ:Rho),iEnum F ρ=Option.bind (F ρ) fun x=>Option.map (KI 0) (lstD (Prod.snd x)):=by intros;rfl
@[simp] theorem x88:∀(F:FE) (ρ:Rho),iRev F ρ=Option.bind (F ρ) fun x=>Option.map List.reverse (lstD (Prod.snd x)):=by intros;rfl
@[simp] theorem x89:∀(ds:List Dt),lstD (Dt.lst ds)=some ds:=by intros;rfl
@[simp] theorem x91:∀(F G:FE) (ρ:Rho),
 iZip F G ρ =
  Option.bind (F ρ) fun x =>
   Option.bind (G ρ) fun y =>
    Option.bind (seqD (Prod.snd x)) fun xs =>
     Option.bind (seqD (Prod.snd y)) fun ys=>if List.length xs=List.length ys then some (zipD xs ys) else none:=by intros;rfl
@[simp] theorem x92:∀(F:FE) (ρ:Rho),
 B2 F ρ =
  Option.bind (F ρ) fun x =>
   Option.bind (intD (Prod.snd x)) fun j=>if Z0 j=true then some (K9 0 (Int.toNat j)) else none:=by intros;rfl
@[simp] theorem x93:∀(i:Int),intD (Dt.int i)=some i:=by intros;rfl
@[simp] theorem x95:∀(ds:List Dt) (d:Dt),wApp ds d=if List.length ds<1000000 then some (ds++[d]) else none:=by intros;rfl
@[simp] theorem x96:∀(ds:List Dt) (d:Dt),wIns0 ds d=if List.length ds<1000000 then some (d::ds) else none:=by intros;rfl
@[simp] theorem x97:∀(ds:List Dt) (j:Int) (d:Dt),setD ds j d=Option.map (fun k=>List.set ds k d) (ixN (List.length ds) j):=by intros;rfl
@[simp] theorem x98:∀(xs:List Dt),bLst [Dt.lst xs]=some (newL xs):=by intros;rfl
@[simp] theorem x99:∀(xs:List Dt),bLst [Dt.tup xs]=some (newL xs):=by intros;rfl
@[simp] theorem x101:∀(xs:List Dt),bTup [Dt.lst xs]=some (if p9 xs=true then Fl.nw else Fl.sh,Dt.tup xs):=by intros;rfl
@[simp] theorem x102:∀(xs:List Dt),bTup [Dt.tup xs]=some (if p9 xs=true then Fl.nw else Fl.sh,Dt.tup xs):=by intros;rfl
@[simp] theorem x104:∀(x:Dt) (x_1:Rho) (i:Nat),Tg.put (Tg.one i) x x_1=some (List.set x_1 i (Cell.sh false x)):=by intros;rfl
@[simp] theorem x105:∀(x:Rho) (is:List Nat) (ds:List Dt),
 Tg.put (Tg.many is) (Dt.tup ds) x=if List.length ds=List.length is then some (G1 x is ds) else none:=by intros;rfl
@[simp] theorem x107:∀(x:Rho) (i:Nat) (is:List Nat) (d:Dt) (ds:List Dt),
 G1 x (i::is) (d::ds)=G1 (List.set x i (Cell.sh false d)) is ds:=by intros;rfl
@[simp] theorem x108:∀(x:Rho) (x_1:List Nat) (x_2:List Dt),
 (∀(i:Nat) (is:List Nat) (d:Dt) (ds:List Dt),x_1=i::is→x_2=d::ds→False)→G1 x x_1 x_2=x:=by exact @L2.G1.eq_2
@[simp] theorem x109:AF Cell.no=Cell.no:=by intros;rfl
@[simp] theorem x110:∀(f:Bool) (d:Dt),AF (Cell.sh f d)=Cell.sh false d:=by intros;rfl
@[simp] theorem x111:∀(f:Bool) (ds:List Dt),AF (Cell.ow f ds)=Cell.sh false (Dt.lst ds):=by intros;rfl
@[simp] theorem x112:∀(nt:Nat) (js:List Nat) (ρ:Rho),
 sigD nt js ρ =
  List.replicate nt Cell.no ++
   List.map
    (fun j =>
     match ρ[j]? with
     | some c=>AF c
     | none=>Cell.no)
    js:=by intros;rfl
@[simp] theorem x113:∀(r r':FO) (Fa Fb Fc:FE) (ρ:Rho),
 C8 r r' Fa Fb Fc ρ =
  Option.bind (Fa ρ) fun x =>
   Option.bind (Fb ρ) fun y =>
    Option.bind (r (Prod.snd x) (Prod.snd y)) fun z =>
     Option.bind (blD (Prod.snd z)) fun k =>
      if k=true then Option.bind (Fc ρ) fun w=>r' (Prod.snd y) (Prod.snd w) else some (Fl.nw,Dt.bl false):=by intros;rfl
@[simp] theorem x114:∀(c:FC) (F:FE) (ρ:Rho),
 fSortK c F ρ =
  Option.bind (F ρ) fun x =>
   Option.bind (lstD (Prod.snd x)) fun ds =>
    Option.bind (Gv c ds) fun ks =>
     if List.length ds<64∧List.Nodup ks then
      some (newL (List.map (fun x=>Prod.snd x) (KL (List.zip ks ds))))
     else none:=by intros;rfl
@[simp] theorem x115:∀(i j:Int),opLt (Dt.int i) (Dt.int j)=some (Fl.nw,Dt.bl (decide (i<j))):=by intros;rfl
@[simp] theorem x116:∀(i j:Int),opLe (Dt.int i) (Dt.int j)=some (Fl.nw,Dt.bl (decide (i≤j))):=by intros;rfl
@[simp] theorem x117:∀(i j:Int),opGt (Dt.int i) (Dt.int j)=some (Fl.nw,Dt.bl (decide (j<i))):=by intros;rfl
@[simp] theorem x118:∀(i j:Int),opGe (Dt.int i) (Dt.int j)=some (Fl.nw,Dt.bl (decide (j≤i))):=by intros;rfl
@[simp] theorem x119:∀(i j:Int),Ks (Dt.int i) (Dt.int j)=some (Fl.nw,Dt.int (i-j)):=by intros;rfl
@[simp] theorem x120:∀(i j:Int),z0 (Dt.int i) (Dt.int j)=if B0 i j=true then some (Fl.nw,Dt.int (Int.fmod i j)) else none:=by intros;rfl
@[simp] theorem x121:∀(i j:Int),Y8 (Dt.int i) (Dt.int j)=if Y6 i j=true then some (Fl.nw,Dt.int (i*j)) else none:=by intros;rfl
@[simp] theorem x122:∀(i j:Int),Bz (Dt.int i) (Dt.int j)=if J2 i j=true then some (Fl.nw,Dt.int (Int.fdiv i j)) else none:=by intros;rfl
@[simp] theorem x123:∀(i j:Int),BA (Dt.int i) (Dt.int j)=if Y7 i j=true then some (Fl.nw,Dt.int (i ^ Int.toNat j)) else none:=by intros;rfl
@[simp] theorem x124:∀(i j:Int),v1 (Dt.int i) (Dt.int j)=some (Fl.nw,Dt.int (i+j)):=by intros;rfl
@[simp] theorem x125:∀(f:Fl) (i:Int),nrm f (Dt.int i)=(Fl.nw,Dt.int i):=by intros;rfl
@[simp] theorem x126:∀(f:Fl) (i:Bool),nrm f (Dt.bl i)=(Fl.nw,Dt.bl i):=by intros;rfl
@[simp] theorem x127:∀(f:Fl),nrm f Dt.non=(Fl.nw,Dt.non):=by intros;rfl
@[simp] theorem x128:∀(f:Fl) (ns:List Int),nrm f (Dt.scr ns)=(f,Dt.scr ns):=by intros;rfl
@[simp] theorem x129:∀(f:Fl) (ns:List Int),nrm f (L ns)=(f,L ns):=by intros;rfl
@[simp] theorem x130:∀(f:Fl) (ns:List (List Int)),nrm f (LL ns)=(f,LL ns):=by intros;rfl
@[simp] theorem x134:∀{α β:Type} {a:α} {f:α→Option β},Option.bind (some a) f=f a:=by intros;rfl
@[simp] theorem x135:∀{α β:Type} {f:α→Option β},Option.bind none f=none:=by intros;rfl
@[simp] theorem x136:∀{α:Type} {x:α} {xs:List α},atI (x::xs) 0=some x:=by exact @L2.KM
@[simp] theorem x137:∀{α:Type} {x y:α} {xs:List α},atI (x::y::xs) 1=some y:=by exact @L2.atI_c1
@[simp] theorem x138:∀{α:Type} {x y z:α} {xs:List α},atI (x::y::z::xs) 2=some z:=by exact @L2.atI_c2
@[simp] theorem y1(ns:List Int):newL (List.map Dt.int ns)=(Fl.nw,Dt.lst (List.map Dt.int ns)):=JB ns
@[simp] theorem y2:newL []=(Fl.nw,Dt.lst []):=rfl
@[simp] theorem y3(ns:List Int):p9 (List.map Dt.int ns)=true:=G3 ns
@[simp] theorem y4(d:Dt):nrm Fl.nw d=(Fl.nw,d):=KP d
@[simp] theorem y5(i:Int):Dt.flat (Dt.int i)=true:=rfl
@[simp] theorem y6(i:Bool):Dt.flat (Dt.bl i)=true:=rfl
@[simp] theorem y7(f:Fl)(ds:List Dt):nrm f (Dt.lst ds)=(f,Dt.lst ds):=rfl
@[simp] theorem y8:p9 []=true:=rfl
@[simp] theorem y9(d:Dt)(ds:List Dt):p9 (d::ds)=(d.flat&&p9 ds):=by rw[p9]
@[simp] theorem y10(ds:List Dt):Dt.flat (Dt.lst ds)=false:=by rw[Dt.flat]
@[simp] theorem y11(ds:List Dt):Dt.flat (Dt.tup ds)=p9 ds:=by rw[Dt.flat]
@[simp] theorem y12(f:Fl)(ds:List Dt):nrm f (Dt.tup ds)=(if p9 ds=true then Fl.nw else f,Dt.tup ds):=rfl
@[simp] theorem xd1:tyN Dt.dic = "dict" := rfl
@[simp] theorem xd2:Dt.flat Dt.dic=true:=by unfold Dt.flat;rfl
end L2

end
section
local macro_rules|`(tactic| omega)=>`(tactic| first|lia|omega +splitDisjunctions)
set_option linter.all false
set_option maxRecDepth 100000
namespace L2
open PySem
@[simp] theorem y13(n:Nat)(h:n≤1000000):Z0 (n:Int)=true:=rng_ok h
end L2
namespace L2
open PySem
theorem KR{α:Type}(xs:List α)(n:Nat):cutD xs (some (n:Int)) none=xs.drop n:=by
 unfold cutD
 rw[HT.sIx_none,HT.sIx_nat]
 by_cases h:n≤xs.length
 · rw[Nat.min_eq_left h,List.take_of_length_le (by rw[List.length_drop];omega)]
 · rw[Nat.min_eq_right (by omega),List.drop_eq_nil_of_le (by omega),List.drop_eq_nil_of_le (by omega)];simp
theorem cut_to{α:Type}(xs:List α)(n:Nat):cutD xs none (some (n:Int))=xs.take n:=by
 unfold cutD
 rw[HT.sIx_none,HT.sIx_nat,List.drop_zero,Nat.sub_zero]
 by_cases h:n≤xs.length
 · rw[Nat.min_eq_left h]
 · rw[Nat.min_eq_right (by omega),List.take_of_length_le (by omega),List.take_of_length_le (by omega)]
@[simp] theorem y14(F:FE)(A B:FP)(ρ:Rho):fSl F A B ρ=(F ρ).bind fun x=>(A ρ).bind fun lo=>(B ρ).bind fun hi=>match x.2 with|.lst ds=>some (newL (cutD ds lo hi))|_=>none:=rfl
@[simp] theorem y15(F:FE)(ρ:Rho):n9 F ρ=(F ρ).bind fun x=>(intD x.2).map some:=rfl
@[simp] theorem y16(ρ:Rho):i5 ρ=some none:=rfl
end L2

end
section
local macro_rules|`(tactic| omega)=>`(tactic| first|lia|omega +splitDisjunctions)
set_option linter.all false
namespace Br
structure BI(a b u0 u1 u2 l0 l1 l2:Int):Prop where
 up:a*u1+b*u2=u0
 lo:a*l1+b*l2=l0
 gcd:Int.gcd u0 l0=Int.gcd a b
 p1:u0.natAbs*l1.natAbs+l0.natAbs*u1.natAbs≤a.natAbs+2*b.natAbs
 p2:u0.natAbs*l2.natAbs+l0.natAbs*u2.natAbs≤a.natAbs+2*b.natAbs
 ph:(u0=a∧u1=1∧u2=0∧l0=b∧l1=0∧l2=1)∨(0≤u0*l0∧u0≠0)
 b1:u1.natAbs≤a.natAbs+2*b.natAbs+1
 b2:u2.natAbs≤a.natAbs+2*b.natAbs+1
 b3:l1.natAbs≤a.natAbs+2*b.natAbs+1
 b4:l2.natAbs≤a.natAbs+2*b.natAbs+1
 c1:u0.natAbs≤a.natAbs+b.natAbs
 c2:l0.natAbs≤b.natAbs
theorem BI.start(a b:Int):BI a b a 1 0 b 0 1 where
 up:=by simp
 lo:=by simp
 gcd:=rfl
 p1:=by simp;omega
 p2:=by simp
 ph := .inl ⟨rfl,rfl,rfl,rfl,rfl,rfl⟩
 b1:=by simp
 b2:=by simp
 b3:=by simp
 b4:=by simp
 c1:=by omega
 c2:=by omega
theorem pot(L A R Qa u1 l1 f1 E:Nat)(hA:Qa*L+R≤A+E)(hf:f1≤u1+Qa*l1):L*f1+R*l1≤A*l1+L*u1+E*l1:=by
 have h1:L*f1≤L*(u1+Qa*l1):=Nat.mul_le_mul_left L hf
 have h2:L*(u1+Qa*l1)=L*u1+Qa*L*l1:=by
  rw[Nat.mul_add,←Nat.mul_assoc,Nat.mul_comm L Qa]
 have h3:(Qa*L+R)*l1≤(A+E)*l1:=Nat.mul_le_mul_right l1 hA
 rw[Nat.add_mul,Nat.add_mul]at h3
 omega
theorem ET(u l:Int)(h:0<l):(u-u.fdiv l*l).natAbs<l.natAbs∧0≤l*(u-u.fdiv l*l)∧(0≤u*l→(u.fdiv l).natAbs*l.natAbs+(u-u.fdiv l*l).natAbs=u.natAbs) ∧
  (u.fdiv l).natAbs*l.natAbs≤u.natAbs+(u-u.fdiv l*l).natAbs:=by
 have hs:u.fdiv l*l=u-u.fmod l:=Int.fdiv_mul_self u l
 have hq:(u.fdiv l).natAbs*l.natAbs=(u.fdiv l*l).natAbs:=(Int.natAbs_mul _ _).symm
 have e:u-u.fdiv l*l=u.fmod l:=by omega
 rw[e,hq,hs]
 have h1:0≤u.fmod l:=Int.fmod_nonneg_of_pos u h
 have h2:u.fmod l<l:=Int.fmod_lt_of_pos u h
 refine⟨by omega,Int.mul_nonneg (by omega) h1,fun hu=>?_,by omega⟩
 have hu0:0≤u:=by
  by_cases hu':0≤u
  · exact hu'
  · have:=Int.mul_neg_of_neg_of_pos (show u<0 by omega) h
    omega
 have:u.fmod l≤u:=by
  have q1:0≤u.fdiv l:=Int.fdiv_nonneg hu0 (by omega)
  have q2:0≤u.fdiv l*l:=Int.mul_nonneg q1 (by omega)
  omega
 omega
theorem Op(u l:Int)(hl:l≠0):(u-u.fdiv l*l).natAbs<l.natAbs∧0≤l*(u-u.fdiv l*l)∧(0≤u*l→(u.fdiv l).natAbs*l.natAbs+(u-u.fdiv l*l).natAbs=u.natAbs) ∧
   (u.fdiv l).natAbs*l.natAbs≤u.natAbs+(u-u.fdiv l*l).natAbs:=by
 rcases Int.lt_or_gt_of_ne hl with h|h
 · have q:=ET (-u) (-l) (by omega)
   rw[Int.neg_fdiv_neg]at q
   have e : -u-u.fdiv l * -l = -(u-u.fdiv l*l):=by rw[Int.mul_neg];omega
   rw[e,Int.natAbs_neg,Int.natAbs_neg,Int.natAbs_neg,Int.neg_mul_neg,Int.neg_mul_neg]at q
   exact q
 · exact ET u l h
theorem BQ{a b c:Nat}(h:a*b≤c)(ha:a≠0):b≤c:=Nat.le_trans (Nat.le_mul_of_pos_left b (Nat.pos_of_ne_zero ha)) h
theorem IP(u q l:Int):(u-q*l).natAbs≤u.natAbs+q.natAbs*l.natAbs:=by
 have:=Int.natAbs_mul q l
 omega
theorem BI.turn{a b u0 u1 u2 l0 l1 l2:Int}(h:BI a b u0 u1 u2 l0 l1 l2)(hl:l0≠0):
   BI a b l0 l1 l2 (u0-u0.fdiv l0*l0) (u1-u0.fdiv l0*l1) (u2-u0.fdiv l0*l2):=by
 obtain⟨r1,r2,r3,r4⟩:=Op u0 l0 hl
 have hL:l0.natAbs≠0:=fun e=>hl (Int.natAbs_eq_zero.mp e)
 have hup:=h.up
 have hlo:=h.lo
 generalize eq:u0.fdiv l0=q at *
 have lin:∀(x y:Int),a*(x-q*l1)+b*(y-q*l2)=(a*x+b*y)-q*(a*l1+b*l2):=fun x y=>by
   rw[Int.mul_sub,Int.mul_sub,Int.mul_add,Int.mul_left_comm a q l1,Int.mul_left_comm b q l2];omega
 have f1:(u1-q*l1).natAbs≤u1.natAbs+q.natAbs*l1.natAbs:=IP u1 q l1
 have f2:(u2-q*l2).natAbs≤u2.natAbs+q.natAbs*l2.natAbs:=IP u2 q l2
 have key:∀(x y f:Nat),f≤x+q.natAbs*y→u0.natAbs*y+l0.natAbs*x≤a.natAbs+2*b.natAbs→((0≤u0*l0)∨(y=0)∨(y=1∧x=0∧u0=a∧l0=b)) →
     l0.natAbs*f+(u0-q*l0).natAbs*y≤a.natAbs+2*b.natAbs:=fun x y f hf hp hc=>by
   rcases hc with hc|hc|⟨hc,hx,ha,hb⟩
   · have:=pot l0.natAbs u0.natAbs (u0-q*l0).natAbs q.natAbs x y f 0 (by have:=r3 hc;omega) hf
     omega
   · subst hc
     have:l0.natAbs*f≤l0.natAbs*x:=Nat.mul_le_mul_left _ (by omega)
     omega
   · subst hc;subst hx
     have:=pot l0.natAbs u0.natAbs (u0-q*l0).natAbs q.natAbs 0 1 f (2*(u0-q*l0).natAbs) (by omega) hf
     have hab:u0.natAbs=a.natAbs:=by rw[ha]
     have hbb:l0.natAbs=b.natAbs:=by rw[hb]
     generalize (u0-q*l0).natAbs=R at *
     generalize l0.natAbs*f=Z at *
     omega
 have ph1:0≤u0*l0∨l1.natAbs=0∨(l1.natAbs=1∧u1.natAbs=0∧u0=a∧l0=b):=by
   rcases h.ph with⟨_,_,_,_,e,_⟩|⟨e,_⟩
   · exact .inr (.inl (by rw[e];rfl))
   · exact .inl e
 have ph2:0≤u0*l0∨l2.natAbs=0∨(l2.natAbs=1∧u2.natAbs=0∧u0=a∧l0=b):=by
   rcases h.ph with⟨e1,_,e2,e3,_,e4⟩|⟨e,_⟩
   · exact .inr (.inr ⟨by rw[e4];rfl,by rw[e2];rfl,e1,e3⟩)
   · exact .inl e
 have k1:=key _ _ _ f1 h.p1 ph1
 have k2:=key _ _ _ f2 h.p2 ph2
 have c2:=h.c2
 refine⟨hlo,?_,?_,k1' k1,k1' k2,.inr ⟨r2,hl⟩,h.b3,h.b4,?_,?_,by omega,by omega⟩
 · rw[lin,hup,hlo]
 · rw[Int.gcd_sub_mul_right_right,Int.gcd_comm,h.gcd]
 · exact Nat.le_succ_of_le (BQ (Nat.le_trans (Nat.le_add_right _ _) k1) hL)
 · exact Nat.le_succ_of_le (BQ (Nat.le_trans (Nat.le_add_right _ _) k2) hL)
where k1' {x y:Nat} (h:x≤y):x≤y:=h
theorem BI.fin{a b u0 u1 u2 l1 l2:Int}(h:BI a b u0 u1 u2 0 l1 l2):(u0.natAbs:Int)=Int.gcd a b:=by
 have:=h.gcd
 rw[Int.gcd_zero_right]at this
 rw[this]
end Br

end
section
local macro_rules|`(tactic| omega)=>`(tactic| first|lia|omega +splitDisjunctions)
set_option linter.all false
set_option maxRecDepth 100000
namespace L2
open PySem
end L2
namespace L2
open PySem
theorem IQ{n i:Nat}(h:i<n):ixN n (i:Int)=some i:=by
 unfold ixN
 rw[if_pos (by omega),if_pos (by omega)];simp
end L2
namespace L2
open PySem
theorem us0{P:List Value→Prop}(h:P []):∀ us:List Value,us.length=0→P us:=fun us hl=>(List.length_eq_zero_iff.mp hl).symm ▸ h
theorem usS{P:List Value→Prop}{n:Nat}(h:∀ a us,us.length=n→P (a::us)):∀ us:List Value,us.length=n+1→P us:=fun us hl=>by
 cases us with
 | nil=>cases hl
 | cons a us=>exact h a us (Nat.succ.inj hl)
theorem us1{P:List Value→Prop}(h:∀ a,P [a]):∀ us:List Value,us.length=1→P us:=usS fun a=>us0 (h a)
theorem us2{P:List Value→Prop}(h:∀ a b,P [a,b]):∀ us:List Value,us.length=2→P us:=usS fun a=>(usS fun b=>us0 (h a b))
theorem us3{P:List Value→Prop}(h:∀ a b c,P [a,b,c]):∀ us:List Value,us.length=3→P us:=usS fun a=>(usS fun b=>(usS fun c=>us0 (h a b c)))
theorem us4{P:List Value→Prop}(h:∀ a b c d,P [a,b,c,d]):∀ us:List Value,us.length=4→P us:=usS fun a=>(usS fun b=>(usS fun c=>(usS fun d=>us0 (h a b c d))))
end L2

end
section
set_option Elab.async false
set_option linter.all false
set_option maxRecDepth 100000
namespace L2
open PySem PySem.Spec PyProof.Rows
open Builtin Builtin.Str
section
variable {X:Cx}{a b c e:Expr}{Fa Fb Fe:FE}{pos:Pos}
def okS(x:Str):Bool:=decide (x.length≤100000)
theorem okS_{x:Str}(h:okS x=true):x.length≤100000:=of_decide_eq_true h
theorem sl5:(100000:Nat)≤sizeLine:=by decide
def rSS(C:Str→Str→Bool)(g:Str→Str→Dt):FO
 | .str x,.str y=>if C x y then some (.nw,g x y) else none
 | _,_=>none
theorem BR{f:Value→Value→Sem Value}{C:Str→Str→Bool}{g:Str→Str→Dt}(h:∀ pins s σ H x y t u Q,Inv X pins σ H s→C x y=true→(∀ v H',Same H H'→RpF X.ky H .nw (g x y) H' v→Q v H')→wpAny (model X.prog X.w) X.A (f (.str x t) (.str y u)) (EP X pins σ Q) X.xe s):OpF X f (rSS C g):=by
 rintro pins s σ H x y v u Q I r1 r2 ⟨d1,d2,f1,d,q1,q2,e,k⟩
 cases d1<;>first|cases e|skip
 cases d2<;>first|cases e|skip
 rename_i x0 y0
 rw[Rp.str_]at q1 q2
 subst q1 q2
 obtain⟨t,rfl⟩:=r1
 obtain⟨t',rfl⟩:=r2
 replace e:(if C x0 y0 then some (Fl.nw,g x0 y0) else none)=some (f1,d):=e
 split at e
 · rename_i hc
   cases e
   exact h pins s σ H x0 y0 t t' Q I hc k
 · cases e
theorem DY{pins:List (Addr×Obj)}{s:Shared}{σ:St}{H:Hp}{Q:VK}{z:Str}(I:Inv X pins σ H s)(k:∀ v H',Same H H'→RpF X.ky H .nw (.str z) H' v→Q v H')(t:Tok)(n:Nat):EP X pins σ Q (.str z t) { s with toks:=n } :=
 ⟨.str z,H,I.tok n,⟨t,rfl⟩,k _ H (Same.refl H) RpF.s_⟩
theorem ep_bl{pins:List (Addr×Obj)}{s:Shared}{σ:St}{H:Hp}{Q:VK}{z:Bool}(I:Inv X pins σ H s)(k:∀ v H',Same H H'→RpF X.ky H .nw (.bl z) H' v→Q v H'):EP X pins σ Q (.bool z) s :=
 ⟨.bl z,H,I,rfl,k _ H (Same.refl H) RpF.b_⟩
theorem KS{pins:List (Addr×Obj)}{s:Shared}{σ:St}{H:Hp}{Q:VK}{z:Int}(I:Inv X pins σ H s)(k:∀ v H',Same H H'→RpF X.ky H .nw (.int z) H' v→Q v H')(t:Tok)(n:Nat):EP X pins σ Q (.int z t) { s with toks:=n } :=
 ⟨.int z,H,I.tok n,⟨t,rfl⟩,k _ H (Same.refl H) RpF.i_⟩
def A3:FO:=rSS (fun x y=>okS x&&okS y) fun x y => .str (x++y)
theorem G4:OpF X (binaryOp .Add) A3:=BR fun pins s σ H x y t u Q I hc k=>by
 rw[Bool.and_eq_true]at hc
 have h1:=okS_ hc.1
 have h2:=okS_ hc.2
 exact SB.add (fun t' n=>DY I k t' n) (by have:=(by decide:(200000:Nat)≤sizeLine);omega)
def EU:FO:=rSS (fun _ _=>true) fun y x => .bl (Txt.contains x y)
theorem o_inS:OpF X (compareOp .In) EU:=BR fun pins s σ H y x t u Q I hc k=>SB.contains (ep_bl I k)
theorem p_me{r:FO}{id:String}{name:Str}{apos cpos:Pos}(ho:OpF X (fun v u=>call (.builtin id) [v,u]) r)(slot:Slot "str" name id)(hty:typeOf (.builtin id)=pure (.type "method_descriptor"))(hs0:∀ dx dy z,r dx dy=some z→∃ x,dx = .str x)
   (ha:PF X a Fa) (hb:PF X b Fb) (hbase:attributeBase a name X.env (eval a X.env)=eval a X.env:=by rfl)
   (hfew:((backTo cpos (starEach [b] X.env)).all (fun x=>!x.1)&&(backToKw cpos (keywordEach [] X.env)).all (fun x=>x.1.isSome)&&decide ([b].length+([]:List Keyword).length+(if([]:List Keyword).isEmpty then 0 else 1)<30))=true:=by rfl)
   (hline:(apos.endLine==cpos.line)=true:=by rfl) (hs:starEach [b] X.env=[(false,eval b X.env)]:=by rfl) :
   PF X (.Call (.Attribute a name apos) [b] [] cpos) (fOp r Fa Fb):=by
 have hm:MtR X id (fun x xs H Q=>∃ y dx dy f d,xs=[y]∧Rp X.K emp dx H x∧Rp X.K emp dy H y∧r dx dy=some (f,d)∧∀ v H',Same H H'→RpF X.ky H f d H' v→Q v H'):=by
   rintro pins s σ H x xs v us Q I r1 r2 ⟨y,dx,dy,f,d,rfl,h⟩
   obtain⟨u,rfl,ru⟩:=V1 r2
   exact ho pins s σ H x y v u Q I r1 ru ⟨dx,dy,f,d,h⟩
 refine(Kj F.plainAttrs_str slot hty hm ha (i0 hb i3 hs) hbase hfew hline hs rfl).imp ?_
 rintro σ H Q ⟨ρ,f,d,rs,e,k⟩
 obtain⟨⟨fa,da⟩,ea,e⟩:=f8 e
 obtain⟨⟨fb,db⟩,eb,e⟩:=f8 e
 refine⟨ρ,fa,da,rs,ea,fun v H1 s1 r1=>⟨?_,?_⟩⟩
 · obtain⟨x,ex⟩:=hs0 da db _ e
   have ex:da = .str x:=ex
   subst ex
   have ev:=Rp.str_.mp r1.sh
   subst ev
   rfl
 · refine⟨ρ,[(fb,db)],rs.mono s1,by simp[f7,fNil,eb],?_⟩
   rintro us H2 s2 ru
   obtain⟨y,r0,eu,ry,er⟩:=ru
   have er:r0=[]:=er
   subst er
   exact⟨y,da,db,f,d,eu,Rp.mono _ s2 r1.sh,ry.sh,e,fun w H' s' r'=>k w H' (s1.trans (s2.trans s')) (r'.early (s1.trans s2))⟩
theorem DZ{C:Str→Str→Bool}{g:Str→Str→Dt}:∀ dx dy z,rSS C g dx dy=some z→∃ x,dx = .str x
 | .str x,_,_,_=>⟨x,rfl⟩
def C1:FO:=rSS (fun _ _=>true) fun x y => .bl (Txt.startswith x y)
theorem KT:OpF X (fun v u=>call (.builtin "str.startswith") [v,u]) C1:=BR fun pins s σ H x y t u Q I hc k=>SC.startswith (ep_bl I k)
def An:FO:=rSS (fun _ _=>true) fun x y => .int (Txt.find x y)
theorem o_find:OpF X (fun v u=>call (.builtin "str.find") [v,u]) An:=BR fun pins s σ H x y t u Q I hc k=>SC.find (KS I k _ _)
theorem Z4{apos cpos:Pos}(ha:PF X a Fa)(hb:PF X b Fb)(hbase:attributeBase a "startswith" X.env (eval a X.env)=eval a X.env:=by rfl)
  (hfew:((backTo cpos (starEach [b] X.env)).all (fun x=>!x.1)&&(backToKw cpos (keywordEach [] X.env)).all (fun x=>x.1.isSome)&&decide ([b].length+([]:List Keyword).length+(if([]:List Keyword).isEmpty then 0 else 1)<30))=true:=by rfl)
  (hline:(apos.endLine==cpos.line)=true:=by rfl) (hs:starEach [b] X.env=[(false,eval b X.env)]:=by rfl):PF X (.Call (.Attribute a "startswith" apos) [b] [] cpos) (fOp C1 Fa Fb) :=
 p_me KT F.slot_str_startswith F.type_str_startswith DZ ha hb hbase hfew hline hs
theorem p_find{apos cpos:Pos}(ha:PF X a Fa)(hb:PF X b Fb)(hbase:attributeBase a "find" X.env (eval a X.env)=eval a X.env:=by rfl)
  (hfew:((backTo cpos (starEach [b] X.env)).all (fun x=>!x.1)&&(backToKw cpos (keywordEach [] X.env)).all (fun x=>x.1.isSome)&&decide ([b].length+([]:List Keyword).length+(if([]:List Keyword).isEmpty then 0 else 1)<30))=true:=by rfl)
  (hline:(apos.endLine==cpos.line)=true:=by rfl) (hs:starEach [b] X.env=[(false,eval b X.env)]:=by rfl):PF X (.Call (.Attribute a "find" apos) [b] [] cpos) (fOp An Fa Fb) :=
 p_me o_find F.slot_str_find F.type_str_find DZ ha hb hbase hfew hline hs
def spOk(x y:Str):Bool:=okS x&&(!(y.length==0)&&decide ((Txt.split x y).length≤100000))
def r9:FO:=rSS spOk fun x y => .lst ((Txt.split x y).map .str)
theorem Dg:∀(l:List (Str×Tok)),Vals (l.map fun p=>V.str p.1) (strValues l)
 | [] => .nil
 | p::l => .cons ⟨p.2,rfl⟩ (Dg l)
theorem EV{K:PySem.W.Frag}{B H:Hp}:∀(l:List Str),Rps K B (l.map .str) H (l.map V.str)
 | []=>by unfold Rps;rfl
 | p::l=>by
  rw[List.map_cons,List.map_cons]
  unfold Rps
  exact⟨_,_,rfl,Rp.str_.mpr rfl,EV l⟩
theorem O7:∀ ts:List Str,p9 (ts.map .str)=true
 | []=>by unfold p9;rfl
 | t::ts=>by
  rw[List.map_cons]
  unfold p9
  rw[O7 ts]
  rfl
theorem KU(ts:List Str):lfl (ts.map .str) = .nw:=by unfold lfl;rw[O7];rfl
theorem Ea{pins:List (Addr×Obj)}{s:Shared}{σ:St}{H:Hp}{Q:VK}{ts:List Str}{l:List (Str×Tok)}(I:Inv X pins σ H s)(hl:l.map (·.1)=ts)(hn:ts.length≤100000)(k:∀ v H',Same H H'→RpF X.ky H .nw (.lst (ts.map .str)) H' v→Q v H')(n:Nat):
   EP X pins σ Q (.ref s.heap.objs.size) { s with toks:=n,heap:=s.heap.push { cls := .type "list",data := .seq (strValues l).toArray } }:=by
 have hf:H s.heap.objs.size=none:=I.hok.fresh (Nat.le_refl _)
 have hv:Vals (ts.map V.str) (strValues l):=by
   have:=Dg l
   rw[show(l.map fun p=>V.str p.1)=ts.map V.str by rw[←hl,List.map_map];rfl]at this
   exact this
 refine⟨.ref s.heap.objs.size,upd H s.heap.objs.size (.lst (ts.map V.str)),I.laid (t':=n) (fun b u e=>Heap.get?_push_of_some _ e) (Nat.le_refl _) ?_,rfl,k _ _ (w8 hf) ?_⟩
 · exact⟨by rw[List.length_map];exact Nat.le_trans hn sl5,_,0,hv,Heap.get?_push_size _ rfl⟩
 · have:=Y9 (X:=X.ky) (p:=s.heap.objs.size) hf (EV (K:=X.ky.K) (B:=emp) (H:=H) ts)
   rw[KU]at this
   exact this
theorem Oq:OpF X (fun v u=>call (.builtin "str.split") [v,u]) r9:=BR fun pins s σ H x y t u Q I hc k=>by
 unfold spOk at hc
 rw[Bool.and_eq_true,Bool.and_eq_true]at hc
 obtain⟨c1,c2,c3⟩:=hc
 have c1:x.length≤sizeLine:=Nat.le_trans (okS_ c1) sl5
 have c2:(y.length==0)=false:=by simpa using c2
 have c3:(Txt.split x y).length≤100000:=of_decide_eq_true c3
 cases h1:(decide (x.length<y.length)||decide (strKind x<strKind y))
 · cases hf:(occurrences x y 0 x.length (x.length+1)).isEmpty
   · have e:Txt.split x y=partsBetween x (occurrences x y 0 x.length (x.length+1)) y.length:=(if_neg (ne_true_of_eq_false h1)).trans (if_neg (ne_true_of_eq_false hf))
     refine call_meets F.slot_str_split (typeIs_str _ _ _) F.entry_str_split (F.args_str_split_2 _ _) (meets_str_split_sep x y t u h1 c2 hf c1 (by rw[←e];exact Nat.le_trans c3 sl5)) ?_
     rw[strsFrom_eq]
     exact Ea I ((numbered_texts _ _).trans e.symm) c3 k _
   · have e:Txt.split x y=[x]:=(if_neg (ne_true_of_eq_false h1)).trans (if_pos hf)
     exact call_meets F.slot_str_split (typeIs_str _ _ _) F.entry_str_split (F.args_str_split_2 _ _) (meets_str_split_not_found x y t u h1 c2 hf) (Ea (l:=[(x,t)]) I e.symm c3 k s.toks)
 · have e:Txt.split x y=[x]:=if_pos h1
   exact call_meets F.slot_str_split (typeIs_str _ _ _) F.entry_str_split (F.args_str_split_2 _ _) (meets_str_split_cannot_occur x y t u h1) (Ea (l:=[(x,t)]) I e.symm c3 k s.toks)
theorem J4{apos cpos:Pos}(ha:PF X a Fa)(hb:PF X b Fb)(hbase:attributeBase a "split" X.env (eval a X.env)=eval a X.env:=by rfl)
  (hfew:((backTo cpos (starEach [b] X.env)).all (fun x=>!x.1)&&(backToKw cpos (keywordEach [] X.env)).all (fun x=>x.1.isSome)&&decide ([b].length+([]:List Keyword).length+(if([]:List Keyword).isEmpty then 0 else 1)<30))=true:=by rfl)
  (hline:(apos.endLine==cpos.line)=true:=by rfl) (hs:starEach [b] X.env=[(false,eval b X.env)]:=by rfl):PF X (.Call (.Attribute a "split" apos) [b] [] cpos) (fOp r9 Fa Fb) :=
 p_me Oq F.slot_str_split F.type_str_split DZ ha hb hbase hfew hline hs
def AJ:List Dt→Option (List Str)
 | []=>some []
 | .str i::ds=>(AJ ds).map (i::·)
 | _::_=>none
theorem EW:∀{ds:List Dt} {ns:List Str},AJ ds=some ns→ds=ns.map Dt.str
 | [],ns,h=>by cases h;rfl
 | d::ds,ns,h=>by
  cases d with
  | str i =>
   unfold AJ at h
   cases q:AJ ds with
   | none=>rw[q]at h;cases h
   | some ms=>rw[q]at h;cases h;rw[EW q];rfl
  | _=>unfold AJ at h;cases h
theorem Di:∀ ns:List Str,AJ (ns.map Dt.str)=some ns
 | []=>rfl
 | n::ns=>by rw[List.map_cons,AJ,Di ns];rfl
theorem AK{K:PySem.W.Frag}{B H:Hp}:∀{ts:List Str} {vs:List V},Rps K B (ts.map .str) H vs→vs=ts.map V.str
 | [],vs,h=>by unfold Rps at h;exact h
 | t::ts,vs,h=>by
  rw[List.map_cons]at h
  unfold Rps at h
  obtain⟨v,r,rfl,h1,h2⟩:=h
  rw[Rp.str_.mp h1,AK h2];rfl
theorem V5:∀{ts:List Str} {its:List Value},Vals (ts.map V.str) its→∃ l,its=strValues l∧l.map (·.1)=ts
 | [],its,h=>by cases h;exact⟨[],rfl,rfl⟩
 | t::ts,its,h=>by
  cases h with
  | cons h1 h2 =>
   obtain⟨k,rfl⟩:=h1
   obtain⟨l,rfl,hl⟩:=V5 h2
   exact⟨(t,k)::l,rfl,by rw[List.map_cons,hl]⟩
def jnOk(x:Str)(ts:List Str):Bool:=decide (ts.length≤100000)&&JoinOk x ts
def Q7:FO:=fun x y=>match x,y with
 | .str x,.lst ds=>(AJ ds).bind fun ts=>if jnOk x ts then some (.nw,.str (Txt.join x ts)) else none
 | _,_=>none
theorem BS{dx dy:Dt}{f:Fl}{d:Dt}(e:Q7 dx dy=some (f,d)):∃ x ts,dx = .str x∧dy = .lst (ts.map .str)∧jnOk x ts=true∧f = .nw∧d = .str (Txt.join x ts):=by
 unfold Q7 at e
 split at e
 · rename_i x ds
   obtain⟨ts,e1,e2⟩:=f8 e
   split at e2
   · rename_i hc
     cases e2
     exact⟨x,ts,rfl,by rw[EW e1],hc,rfl,rfl⟩
   · cases e2
 · cases e
theorem o_join:OpF X (fun v u=>call (.builtin "str.join") [v,u]) Q7:=by
 rintro pins s σ H x y v u Q I r1 r2 ⟨d1,d2,f1,d,q1,q2,e,k⟩
 obtain⟨x0,ts,rfl,rfl,hc,rfl,rfl⟩:=BS e
 have hx:=Rp.str_.mp q1
 subst hx
 obtain⟨t,rfl⟩:=r1
 obtain⟨a,vs,rfl,_,h3,h4⟩:=Rp.lst_.mp q2
 have hv:=AK h4
 subst hv
 cases r2
 obtain⟨its,rv,pl,hz⟩:=I.list (SqL.of (K:=X.K) h3)
 obtain⟨l,rfl,hl⟩:=V5 rv
 unfold jnOk at hc
 rw[Bool.and_eq_true]at hc
 exact SC.join pl.isList hl hc.2 fun t' n=>DY I k t' n
theorem KW:∀ dx dy z,Q7 dx dy=some z→∃ x,dx = .str x:=fun dx dy z e=>by
 obtain⟨x,ts,h,_⟩:=BS (f:=z.1) (d:=z.2) e
 exact⟨x,h⟩
theorem p_join{apos cpos:Pos}(ha:PF X a Fa)(hb:PF X b Fb)(hbase:attributeBase a "join" X.env (eval a X.env)=eval a X.env:=by rfl)
  (hfew:((backTo cpos (starEach [b] X.env)).all (fun x=>!x.1)&&(backToKw cpos (keywordEach [] X.env)).all (fun x=>x.1.isSome)&&decide ([b].length+([]:List Keyword).length+(if([]:List Keyword).isEmpty then 0 else 1)<30))=true:=by rfl)
  (hline:(apos.endLine==cpos.line)=true:=by rfl) (hs:starEach [b] X.env=[(false,eval b X.env)]:=by rfl):PF X (.Call (.Attribute a "join" apos) [b] [] cpos) (fOp Q7 Fa Fb) :=
 p_me o_join F.slot_str_join F.type_str_join KW ha hb hbase hfew hline hs
def bStr:FB
 | [.int i]=>if i.natAbs.log2<1920 then some (.nw,.str (toString i)) else none
 | _=>none
theorem c_str:M4 X (.type "str") bStr:=by
 rintro pins s σ H xs us Q I r ⟨ds,f,d,rs,e,k⟩
 unfold bStr at e
 split at e
 · rename_i i
   split at e
   · rename_i hc
     cases e
     obtain⟨v,rfl,h⟩:=rs.one'
     rw[Rp.int_]at h
     subst h
     obtain⟨u,rfl,t,rfl⟩:=V1 r
     exact P.str_of_int hc (DY I k _ _)
   · cases e
 · cases e
def Dj:FB
 | [.str x]=>if x.length≤640 then(PySem.intText? x).map fun n=>(.nw,.int n) else none
 | _=>none
theorem KY:M4 X (.type "int") Dj:=by
 rintro pins s σ H xs us Q I r ⟨ds,f,d,rs,e,k⟩
 unfold Dj at e
 split at e
 · rename_i x
   split at e
   · rename_i hc
     cases hn:PySem.intText? x with
     | none=>rw[hn]at e;cases e
     | some n =>
      rw[hn]at e
      cases e
      obtain⟨v,rfl,h⟩:=rs.one'
      rw[Rp.str_]at h
      subst h
      obtain⟨u,rfl,t,rfl⟩:=V1 r
      exact PySem.W.KIN.call_text hn hc (KS I k _ _)
   · cases e
 · cases e
def P7:FB
 | [.str x]=>if okS x then some (.nw,.int x.length) else none
 | _=>none
theorem Gx:M4 X (.builtin "len") P7:=by
 rintro pins s σ H xs us Q I r ⟨ds,f,d,rs,e,k⟩
 unfold P7 at e
 split at e
 · rename_i x
   split at e
   · rename_i hc
     cases e
     obtain⟨v,rfl,h⟩:=rs.one'
     rw[Rp.str_]at h
     subst h
     exact DK pins s σ H _ us Q I r ⟨x,rfl,Nat.le_trans (okS_ hc) sl5,k _ H (Same.refl H) RpF.i_⟩
   · cases e
 · cases e
def V6:FO
 | .str z,.int i=>if okS z then(atI z.cps.toList i).map fun c=>(.nw,.str ⟨#[c]⟩) else none
 | _,_=>none
theorem JD{dx dy:Dt}{f:Fl}{d:Dt}(e:V6 dx dy=some (f,d)):∃ z i c,dx = .str z∧dy = .int i∧okS z=true∧atI z.cps.toList i=some c∧f = .nw∧d = .str ⟨#[c]⟩:=by
 unfold V6 at e
 split at e
 · rename_i z i
   split at e
   · rename_i hc
     cases hn:atI z.cps.toList i with
     | none=>rw[hn]at e;cases e
     | some c=>rw[hn]at e;cases e;exact⟨z,i,c,rfl,rfl,hc,hn,rfl,rfl⟩
   · cases e
 · cases e
theorem p_ixS(ha:PF X a Fa)(hb:PF X b Fb)(hs:Bf b:=by exact fun _ _=>rfl):PF X (.Subscript a b pos) (fOp V6 Fa Fb):=by
 refine(pe_ix Kg ha hb hs).imp fun σ H Q h=>?_
 obtain⟨ρ,f,d,rs,e,k⟩:=h
 obtain⟨⟨fa,da⟩,ea,e⟩:=f8 e
 obtain⟨⟨fb,db⟩,eb,e⟩:=f8 e
 refine⟨ρ,fa,da,rs,ea,fun v H1 s1 r1=>⟨ρ,fb,db,rs.mono s1,eb,fun u H2 s2 r2=>?_⟩⟩
 replace e:V6 da db=some (f,d):=e
 obtain⟨z,i,c,rfl,rfl,hc,hn,rfl,rfl⟩:=JD e
 have h1:=Rp.str_.mp r1.sh
 have h2:=Rp.int_.mp r2.sh
 exact⟨z,i,c,h1,h2,Nat.le_trans (okS_ hc) sl5,hn,k _ H2 (s1.trans s2) RpF.s_⟩
theorem sl_str:SlR X (fun x lo hi H Q=>∃ z,x = .str z∧z.length≤sizeLine∧Q (.str (Txt.slice z lo hi)) H):=by
 intro pins s σ H x v vl vu lo hi sl Q I rx hs pl pu h
 obtain⟨z,rfl,hz,q⟩:=h
 obtain⟨t,rfl⟩:=rx
 refine⟨"str",_,F.slot_str_getitem.lookup,typeIs_str _ _ _,?_⟩
 have fin:∀ t' k,EP X pins σ Q (.str (Txt.slice z lo hi) t') { s with toks:=k }:=fun t' k=>⟨.str _,H,I.tok k,⟨t',rfl⟩,q⟩
 have hx:=Nat.le_trans (Txt.slice_le z lo hi) hz
 cases pl<;>cases pu
 · exact wpAny_getItem_str_slice (l:=none) (u:=none) (st:=none) hs rfl (post_val_or_str ⟨hx,fin⟩)
 · exact wpAny_getItem_str_slice (l:=none) (u:=some (_,_)) (st:=none) hs rfl (post_val_or_str ⟨hx,fin⟩)
 · exact wpAny_getItem_str_slice (l:=some (_,_)) (u:=none) (st:=none) hs rfl (post_val_or_str ⟨hx,fin⟩)
 · exact wpAny_getItem_str_slice (l:=some (_,_)) (u:=some (_,_)) (st:=none) hs rfl (post_val_or_str ⟨hx,fin⟩)
def fSlS(F:FE)(L U:FP):FE:=fun ρ=>(F ρ).bind fun x=>(L ρ).bind fun lo=>(U ρ).bind fun hi=>match x.2 with|.str z=>if okS z then some (.nw,.str (Txt.slice z lo hi)) else none|_=>none
theorem A4{F:FE}{lo hi:Option Expr}{L U:FP}{p2:Pos}(he:PF X e F)(hl:PFP X lo L)(hu:PFP X hi U):PF X (.Subscript e (.Slice lo hi none p2) pos) (fSlS F L U) :=
 (EF sl_str he hl hu).imp fun σ H Q ⟨ρ,f,d,rs,e0,k⟩=>by
  obtain⟨⟨fx,dx⟩,e1,e2⟩:=f8 e0
  obtain⟨l,e3,e4⟩:=f8 e2
  obtain⟨u,e5,e6⟩:=f8 e4
  clear e0 e2 e4
  refine⟨ρ,fx,dx,rs,e1,fun v H1 s1 r1=>⟨ρ,l,rs.mono s1,e3,fun H2 s2=>⟨ρ,u,rs.mono (s1.trans s2),e5,fun H3 s3=>?_⟩⟩⟩
  cases dx<;>first|cases e6|skip
  rename_i z
  replace e6:(if okS z then some (Fl.nw,Dt.str (Txt.slice z l u)) else none)=some (f,d):=e6
  split at e6
  · rename_i hc
    cases e6
    exact⟨z,Rp.str_.mp r1.sh,Nat.le_trans (okS_ hc) sl5,k _ H3 (s1.trans (s2.trans s3)) RpF.s_⟩
  · cases e6
def Its(x:Str):It:=⟨fun i _=>i<x.cps.size,fun i H y H'=>H'=H∧∃ c,x.cps[i]?=some c∧y = .str ⟨#[c]⟩,fun i _=>x.cps.size≤i⟩
theorem KZ{P:Program}{w:World}{K:PySem.W.Frag}{tg:Expr}(it:Addr)(x:Str)(t:Tok)(n:String)(hn:n = "str_ascii_iterator" ∨ n = "str_iterator"):Turn P w K tg (Its x) [it] it (fun i h=>i≤x.cps.size∧h.IsStrIter it n x t i) where
 mem:=by simp
 obj:=fun i h st b hb=>by
  have e:b=it:=by simpa using hb
  subst e
  obtain⟨_,o,ho,hc,hd⟩:=st
  exact⟨o,ho,fun v z=>by rw[hd]at z;cases z⟩
 keep:=fun i h h' st k=>by
  obtain⟨hi,o,ho,r⟩:=st
  exact⟨hi,o,k it (by simp) _ ho,r⟩
 item:=by
  intro X hP hw hK hc i pins s σ H E I hf st hg
  subst hP hw hK
  obtain⟨f0,f1,f2,f3,f4,f5⟩:=hf it (by simp)
  have W:Walks X.prog X.w X.A it [it] [it] x.cps.size (SignAt x) (fun i h=>h.IsStrIter it n x t i):=by
    rcases hn with rfl|rfl
    · exact Walks.strAscii (I.ok.hd hc) it x t
    · exact Walks.strWide (I.ok.hd hc) it x t
  refine W.item i s _ _ hg st.2 fun v h' tk hv st' kk=>?_
  obtain⟨c,u,h1,rfl⟩:=hv
  have I1:Inv X pins σ H { s with heap:=h',toks:=tk }:=I.turned (fun b o hb e=>kk b o (by simpa using hb) e) f0 f1 f3 f4 f5
  obtain⟨o,ho,hcl,hd⟩:=st'
  refine⟨_,rfl,Ix (s:={ s with heap:=h',toks:=tk }) (n:=n) ho hcl hd (by rcases hn with rfl|rfl<;>decide) ⟨.str ⟨#[c]⟩,H,I1,⟨u,rfl⟩,⟨rfl,c,h1,rfl⟩,⟨hg,o,ho,hcl,hd⟩,fun b hb=>(hf b hb).1⟩⟩
 done:=by
  intro X hP hw hK hc i pins s σ H E I hf st hg
  subst hP hw hK
  obtain⟨f0,f1,f2,f3,f4,f5⟩:=hf it (by simp)
  have W:Walks X.prog X.w X.A it [it] [it] x.cps.size (SignAt x) (fun i h=>h.IsStrIter it n x t i):=by
    rcases hn with rfl|rfl
    · exact Walks.strAscii (I.ok.hd hc) it x t
    · exact Walks.strWide (I.ok.hd hc) it x t
  have hi:i=x.cps.size:=Nat.le_antisymm st.1 hg
  subst hi
  exact W.done s _ _ st.2 fun h' tk kk=>⟨rfl,I.turned (fun b o hb e=>kk b o (by simpa using hb) e) f0 f1 f3 f4 f5⟩
 self:=fun A i s Q E st h=>by
  rcases hn with rfl|rfl
  · exact wpAny_pyIter_striter_ascii st.2 h
  · exact wpAny_pyIter_striter_wide st.2 h
def chD(x:Str):List Dt:=x.cps.toList.map fun c => .str ⟨#[c]⟩
theorem La{K:PySem.W.Frag}{x:Str}{H1:Hp}:Walk K (Its x) (chD x) H1:=by
 intro A H sm hA
 refine⟨fun i d e=>?_,fun i hi=>(show x.cps.size≤i by simpa[chD]using hi)⟩
 unfold chD at e
 rw[List.getElem?_map]at e
 cases hc:x.cps.toList[i]? with
 | none=>rw[hc]at e;cases e
 | some c =>
  rw[hc]at e
  cases e
  have hc':x.cps[i]?=some c:=by simpa using hc
  have hi:i<x.cps.size:=by
   have:=(Array.getElem?_eq_some_iff.mp hc').1
   exact this
  refine⟨hi,?_⟩
  rintro y H' ⟨rfl,c',h1,rfl⟩
  rw[hc']at h1
  cases h1
  exact⟨Same.refl _,fun _ _=>rfl,Rp.str_.mpr rfl⟩
def iStr(F:FE):FI:=fun ρ=>(F ρ).bind fun x=>match x.2 with|.str z=>if okS z then some (chD z) else none|_=>none
theorem i_str{tg:Expr}(ha:PF X a Fa):PFI X tg a (iStr Fa):=by
 intro pins s σ H R I ⟨ρ,items,rs,e0,k⟩
 obtain⟨⟨f,d⟩,e1,e2⟩:=f8 e0
 refine thn (ha pins s σ H (fun x H1=>Same H H1∧Rp X.K emp d H1 x) I ⟨ρ,f,d,rs,e1,fun v H1 s1 r1=>⟨s1,r1.sh⟩⟩) ?_
 rintro v s1 ⟨x,H1,I1,r1,sm,rd⟩
 cases d<;>first|cases e2|skip
 rename_i z
 replace e2:(if okS z then some (chD z) else none)=some items:=e2
 split at e2
 · rename_i hc
   cases e2
   have ex:=Rp.str_.mp rd
   subst ex
   obtain⟨t,rfl⟩:=r1
   have fin:∀(o:Obj) (n:String),(n = "str_ascii_iterator" ∨ n = "str_iterator")→(s1.heap.push o).IsStrIter s1.heap.objs.size n z t 0→PIE X pins σ tg R (.ref s1.heap.objs.size) { s1 with heap:=s1.heap.push o }:=by
     intro o n hn st
     refine⟨s1.heap.objs.size,[s1.heap.objs.size],_,_,H1,rfl,I1.kept (t':=s1.toks) fun b o e=>Heap.get?_push_of_some _ e,KZ _ z t n hn,⟨Nat.zero_le _,st⟩,fun b hb=>?_,k _ H1 sm ?_ La⟩
     · have e:b=s1.heap.objs.size:=by simpa using hb
       subst e
       exact I1.fpOk (Nat.le_refl _) (I1.hok.fresh (Nat.le_refl _))
     · have:=okS_ hc
       unfold chD
       rw[List.length_map]
       exact Nat.le_trans (by simpa[Str.length]using this) sl5
   cases hq:z.cps.all (·<128)
   · exact wpAny_pyIter_wide hq (fin _ _ (.inr rfl) ⟨_,Heap.get?_push_size _ rfl,rfl,rfl⟩)
   · exact wpAny_pyIter_ascii hq (fin _ _ (.inl rfl) ⟨_,Heap.get?_push_size _ rfl,rfl,rfl⟩)
 · cases e2
section
variable {prog:Program}{w:World}{A:Around}{E:Value→Shared→Prop}{s:Shared}
end
theorem Os{b:Stmt}{h0:ExceptHandler}{tpos:Pos}{F:FS}(hx:∀ v s,X.xe v s→False)(hb:PFS X b F):PFS X (.Try [b] [h0] [] [] tpos) F:=by
 intro pins s σ H D I h
 refine wpAny_Try_except (wpAny_execs_cons (wpAny_mono (hb pins s σ H D I h) (fun f s1 z=>?_) fun _ _ z=>(hx _ _ z).elim))
 cases f with
 | next=>exact wpAny_execs_nil (wpAny_execs_nil z)
 | ret v=>exact z
 | brk=>exact z
 | cont=>exact z
def Eb:FO
 | .str x,.int n=>if decide (0≤n)&&(decide (n≤1000)&&decide (x.length≤1)) then some (.nw,.str (Txt.mul x n)) else none
 | _,_=>none
end
end L2

end
section
set_option Elab.async false
set_option linter.all false
set_option maxRecDepth 100000
namespace L2
open PySem PySem.Spec PyProof.Rows
open Builtin Builtin.Str PySem.StrLaws
def tx(l:List Nat):Str:=⟨l.toArray⟩
theorem t9(l:List Nat):(tx l).cps.toList=l:=by simp[tx]
theorem Lb(x:Str):tx x.cps.toList=x:=by simp[tx]
theorem t7(l:List Nat):(tx l).length=l.length:=by simp[tx,Str.length]
theorem Lc{a b:List Nat}(h:tx a=tx b):a=b:=by
 have:=congrArg (fun x:Str=>x.cps.toList) h
 simpa[t9]using this
theorem Ld{x:Str}{l:List Nat}(h:x.cps.toList=l):x=tx l:=by rw[←h,Lb]
theorem Gy(a b:List Nat):tx a++tx b=tx (a++b):=Ld (by rw[Str.cps_append,Array.toList_append,t9,t9])
theorem Ot(l:List Nat)(c:Nat):Txt.startswith (tx l) (tx [c])=(l.head?==some c):=by
 unfold Txt.startswith
 rw[subAt_eq,t9,t9,t7,t7]
 cases l with
 | nil=>rfl
 | cons a r =>
  rw[List.drop_zero,show[c].length=1 from rfl]
  simp
theorem Le(l:List Nat):Txt.slice (tx l) (some 1) none=tx (l.drop 1):=by
 by_cases h0:l.length=0
 · rw[List.length_eq_zero_iff]at h0;subst h0;rfl
 unfold Txt.slice
 have e:strSliceIndices (some 1) none 1 (tx l).length=strSliceIndices (some ((1:Nat):Int)) (some ((l.length:Nat):Int)) 1 (tx l).length:=by
   rw[t7]
   have e1:max (0:Int) (min ((l.length:Nat):Int) (l.length:Int))=l.length:=by omega
   simp only[strSliceIndices]
   rw[if_neg (by omega:¬((l.length:Nat):Int)<0),e1]
   rfl
 have e2:(strSliceIndices (some ((1:Nat):Int)) (some ((l.length:Nat):Int)) 1 (tx l).length).filterMap ((tx l).cps[·]?)=l.drop 1:=by
   rw[sliced_plain (tx l) (by omega) (by rw[t7];exact Nat.le_refl _),t9]
   exact List.take_of_length_le (by rw[List.length_drop];exact Nat.le_refl _)
 have e3:(strSliceIndices (some ((1:Nat):Int)) (some ((l.length:Nat):Int)) 1 (tx l).length).length=l.length-1:=by
   rw[strSliceIndices_plain (by omega) (by rw[t7];exact Nat.le_refl _),List.length_map,List.length_range]
 rw[e,e3,if_neg (by rw[t7];simp;omega),e2]
 rfl
theorem at_tx{l y:List Nat}{hi i:Nat}(h:StrLaws.At (tx l) (tx y) hi i):(l.drop i).take y.length=y:=by
 have:=h.2
 rw[subAt_eq,t9,t7,t9]at this
 exact eq_of_beq this
theorem Lf{l y:List Nat}{i:Nat}(h1:i+y.length≤l.length)(h2:(l.drop i).take y.length=y):StrLaws.At (tx l) (tx y) (tx l).length i:=by
 refine⟨by rw[t7,t7];exact h1,?_⟩
 rw[subAt_eq,t9,t7,t9,h2]
 exact beq_self_eq_true _
theorem JE(l:List Nat)(c:Nat):Txt.contains (tx l) (tx [c])=decide (c∈l):=by
 unfold Txt.contains
 rcases occ_head (tx l) (tx [c]) 1 (Nat.le_refl _) with⟨e,hn⟩|⟨i,r,e,ha,_⟩
 · rw[e]
   symm
   show decide (c∈l)=false
   rw[decide_eq_false_iff_not]
   intro hc
   obtain⟨i,hi,e2⟩:=List.mem_iff_getElem.mp hc
   refine hn i (Lf (by show i+1≤_;omega) ?_)
   show(l.drop i).take 1=[c]
   rw[List.drop_eq_getElem_cons hi,e2]
   rfl
 · rw[e]
   symm
   show decide (c∈l)=true
   rw[decide_eq_true_eq]
   have:=at_tx ha
   have h2:c∈(l.drop i).take [c].length:=by rw[this];simp
   exact List.mem_of_mem_drop (List.mem_of_mem_take h2)
def B4(s:List Nat):List (List Nat)→List Nat
 | []=>[]
 | [p]=>p
 | p::q::r=>p++s++B4 s (q::r)
theorem Ec(s:List Nat):∀ ps:List (List Nat),Txt.join (tx s) (ps.map tx)=tx (B4 s ps)
 | []=>rfl
 | [p]=>rfl
 | p::q::r=>by
  have ih:=Ec s (q::r)
  unfold Txt.join at ih ⊢
  rw[glued_eq_join]at ih ⊢
  show tx p++tx s++Str.join (tx s) ((q::r).map tx)=_
  rw[ih,Gy,Gy]
  rfl
end L2

end
section
set_option Elab.async false
set_option linter.all false
set_option maxRecDepth 100000
namespace L2
open PySem PySem.Spec PyProof.Rows PySem.W
open Builtin Builtin.Str PySem.StrLaws
def D(m:Nat):List Nat:=(Nat.toDigits 10 m).map Char.toNat
theorem EX:∀ d:Nat,d<10→(Nat.digitChar d).toNat=48+d:=by decide
theorem D_lt{m:Nat}(h:m<10):D m=[48+m]:=by
 unfold D
 rw[Nat.toDigits_of_lt_base h,List.map_cons,List.map_nil,EX m h]
theorem Ao{m:Nat}(h:10≤m):D m=D (m / 10)++[48+m % 10]:=by
 have hm:m % 10<10:=Nat.mod_lt m (by decide)
 have t:Nat.toDigits 10 (m / 10)++Nat.toDigits 10 (m % 10)=Nat.toDigits 10 (10*(m / 10)+m % 10):=Nat.toDigits_append_toDigits (by decide) (by omega) hm
 rw[Nat.div_add_mod]at t
 unfold D
 rw[←t,List.map_append,Nat.toDigits_of_lt_base hm,List.map_cons,List.map_nil,EX _ hm]
theorem D_ne(m:Nat):D m≠[]:=by
 by_cases h:m<10
 · rw[D_lt h];simp
 · rw[Ao (by omega)];simp
theorem Dk(m:Nat):∀ c∈D m,48≤c∧c≤57:=by
 induction m using Nat.strongRecOn with
 | _ m ih =>
  by_cases h:m<10
  · rw[D_lt h];intro c hc;rw[List.mem_singleton]at hc;omega
  · rw[Ao (by omega)]
    intro c hc
    rw[List.mem_append,List.mem_singleton]at hc
    rcases hc with hc|hc
    · exact ih (m / 10) (by omega) c hc
    · omega
theorem IR:∀(k m:Nat),m<10 ^ (k+1)→(D m).length≤k+1
 | 0,m,h=>by rw[D_lt (by simpa using h)];exact Nat.le_refl _
 | k+1,m,h=>by
  by_cases h0:m<10
  · rw[D_lt h0];simp
  · rw[Ao (by omega),List.length_append]
    have:=IR k (m / 10) (by rw[Nat.pow_succ]at h;omega)
    simp only[List.length_cons,List.length_nil]
    omega
theorem Lg:∀(m:Nat),m≠0→(D m).head?≠some 48:=by
 intro m
 induction m using Nat.strongRecOn with
 | _ m ih =>
  intro h0
  by_cases h:m<10
  · rw[D_lt h];simp;omega
  · rw[Ao (by omega)]
    have:=ih (m / 10) (by omega) (by omega)
    cases hd:D (m / 10) with
    | nil=>exact absurd hd (D_ne _)
    | cons a r=>rw[hd]at this;exact this
theorem D_val(m:Nat):NumText.digitsVal (D m)=m:=KIN.val_back m
def nL(n:Int):List Nat:=if n<0 then 45::D n.natAbs else D n.natAbs
theorem nS_eq(n:Int):Str.ofString (toString n)=tx (nL n):=by
 unfold nL
 cases n with
 | ofNat m =>
  rw[if_neg (by simp)]
  exact Ld (KIN.signs_num m)
 | negSucc m =>
  rw[if_pos (Int.negSucc_lt_zero m)]
  have e:toString (Int.negSucc m) = "-" ++ toString (((m+1:Nat)):Int):=rfl
  refine Ld ?_
  rw[e]
  have h1:=KIN.signs_num (m+1)
  have h2:(Str.ofString ("-" ++ toString ((m+1:Nat):Int))).cps.toList=(Str.ofString "-").cps.toList++(Str.ofString (toString ((m+1:Nat):Int))).cps.toList:=by
   simp[signs_ofString]
  rw[h2,h1]
  rfl
theorem Ap{n:Int}(h:n.natAbs<10 ^ 30):(nL n).length≤31:=by
 have:=IR 29 n.natAbs h
 unfold nL
 split
 · simp only[List.length_cons];omega
 · omega
theorem BU(n:Int):∀ c∈nL n,c=45∨(48≤c∧c≤57):=by
 unfold nL
 intro c hc
 split at hc
 · rcases List.mem_cons.mp hc with h|h
   · exact .inl h
   · exact .inr (Dk _ c h)
 · exact .inr (Dk _ c hc)
theorem X0{n:Int}(h:n.natAbs<10 ^ 30):PySem.intText? (tx (nL n))=some n:=by
 have hl:=Ap h
 have hall:NumText.AllDigits (D n.natAbs):=fun c hc=>Dk _ c hc
 by_cases h0:n<0
 · have e:nL n=45::D n.natAbs:=if_pos h0
   have:=PySem.intText_neg (x:=tx (nL n)) (cs:=D n.natAbs) (by rw[t9,e]) hall (D_ne _) (by rw[t7];omega)
   rw[this,D_val]
   congr 1
   omega
 · have e:nL n=D n.natAbs:=if_neg h0
   have:=PySem.intText_digits (x:=tx (nL n)) (by rw[t9,e];exact hall) (by rw[t9,e];exact D_ne _) (by rw[t7];omega)
   rw[this,t9,e,D_val]
   congr 1
   omega
end L2

end
section
set_option Elab.async false
set_option linter.all false
set_option maxRecDepth 100000
namespace L2
open PySem PySem.Spec PyProof.Rows PySem.W
open Builtin Builtin.Str PySem.StrLaws
def Asc(l:List Nat):Prop:=∀ c∈l,c<128
theorem Asc.app{a b:List Nat}(h:Asc a)(k:Asc b):Asc (a++b):=fun c hc=>(List.mem_append.mp hc).elim (h c) (k c)
theorem Asc.drop{a:List Nat}(h:Asc a)(n:Nat):Asc (a.drop n):=fun c hc=>h c (List.mem_of_mem_drop hc)
theorem Ed(n:Int):Asc (nL n):=fun c hc=>by have:=BU n c hc;omega
theorem Dl{s:List Nat}(hs:Asc s):∀{ps:List (List Nat)},(∀ p∈ps,Asc p)→Asc (B4 s ps)
 | [],_=>fun c hc=>by cases hc
 | [p],h=>h p (by simp)
 | p::q::r,h=>((h p (by simp)).app hs).app (Dl hs fun z hz=>h z (List.mem_cons_of_mem _ hz))
theorem Lh{l:List Nat}(h:Asc l):PyData.strOk (tx l)=true:=by
 unfold PyData.strOk
 rw[←Array.all_toList,t9,List.all_eq_true]
 intro c hc
 have:=h c hc
 exact decide_eq_true (by omega)
theorem Li(a b:List Nat):eqD (.str (tx a)) (.str (tx b))=decide (a=b):=by
 unfold eqD
 rw[Dt.py,Dt.py,PyData.eqv]
 by_cases h:a=b
 · subst h;simp
 · rw[decide_eq_false h]
   apply Bool.eq_false_iff.mpr
   intro e
   exact h (Lc (eq_of_beq e))
theorem Ee{a:List Nat}(h:Asc a)(n:Nat):(Dt.str (tx a)).okN n=true:=by
 cases n<;>(unfold Dt.okN;exact Lh h)
theorem Bi{a b:List Nat}(ha:Asc a)(hb:Asc b):opEq (.str (tx a)) (.str (tx b))=some (.nw,.bl (decide (a=b))):=by
 unfold opEq
 rw[Ee ha,Ee hb,Li]
 rfl
theorem Ef{a b:List Nat}(ha:Asc a)(hb:Asc b):opNe (.str (tx a)) (.str (tx b))=some (.nw,.bl (!decide (a=b))):=by
 unfold opNe
 rw[Ee ha,Ee hb,Li]
 rfl
theorem G5{l:List Nat}(h:l.length≤100000):okS (tx l)=true:=by unfold okS;rw[t7];exact decide_eq_true h
theorem v3{a b:List Nat}(ha:a.length≤100000)(hb:b.length≤100000):A3 (.str (tx a)) (.str (tx b))=some (.nw,.str (tx (a++b))):=by
 unfold A3 rSS
 simp only[]
 rw[G5 ha,G5 hb,Gy]
 rfl
theorem J5(l:List Nat)(c:Nat):C1 (.str (tx l)) (.str (tx [c]))=some (.nw,.bl (l.head?==some c)):=by
 unfold C1 rSS
 simp only[]
 rw[Ot]
 rfl
theorem Lj(l:List Nat)(c:Nat):EU (.str (tx [c])) (.str (tx l))=some (.nw,.bl (decide (c∈l))):=by
 unfold EU rSS
 simp only[]
 rw[JE]
 rfl
theorem Lk{l:List Nat}{i:Int}{c:Nat}(h:l.length≤100000)(e:atI l i=some c):V6 (.str (tx l)) (.int i)=some (.nw,.str (tx [c])):=by
 unfold V6
 simp only[]
 rw[G5 h,t9,e]
 rfl
def sD(ps:List (List Nat)):List Dt:=ps.map fun p => .str (tx p)
theorem Eg(ps:List (List Nat)):sD ps=(ps.map tx).map Dt.str:=by unfold sD;rw[List.map_map];rfl
theorem Dm(x:Str):∀(ts:List Str) (a:Nat),ts.foldl (·+·.length+x.length) a≤a+(ts.map fun t=>t.length+x.length).sum
 | [],a=>by simp
 | t::ts,a=>by
  rw[List.foldl_cons,List.map_cons,List.sum_cons]
  have:=Dm x ts (a+t.length+x.length)
  omega
theorem IS{α:Type}(f:α→Nat)(b:Nat):∀(l:List α),(∀ x∈l,f x≤b)→(l.map f).sum≤l.length*b
 | [],_=>by simp
 | x::l,h=>by
  rw[List.map_cons,List.sum_cons,List.length_cons,Nat.succ_mul]
  have:=IS f b l fun y hy=>h y (List.mem_cons_of_mem _ hy)
  have:=h x (by simp)
  omega
theorem Ou{s:List Nat}{ps:List (List Nat)}(h1:ps.length≤1000)(h2:∀ p∈ps,p.length≤5000)(h3:s.length≤10):jnOk (tx s) (ps.map tx)=true:=by
 unfold jnOk JoinOk
 rw[Bool.and_eq_true,List.length_map]
 refine⟨decide_eq_true (by omega),?_⟩
 rw[Bool.not_eq_true']
 rw[List.foldl_toArray]
 have a:=Dm (tx s) (ps.map tx) 0
 have b:=IS (fun t:Str=>t.length+(tx s).length) 5010 (ps.map tx) (fun t ht=>by
  obtain⟨p,hp,rfl⟩:=List.mem_map.mp ht
  rw[t7,t7]
  have:=h2 p hp
  omega)
 rw[List.length_map]at b
 have c:ps.length*5010≤1000*5010:=Nat.mul_le_mul_right _ h1
 generalize ((ps.map tx).map fun t=>t.length+(tx s).length).sum=S at *
 generalize (ps.map tx).foldl (·+·.length+(tx s).length) 0=F at *
 unfold tooLong sizeLine
 exact decide_eq_false (by omega)
theorem JF{s:List Nat}{ps:List (List Nat)}(h1:ps.length≤1000)(h2:∀ p∈ps,p.length≤5000)(h3:s.length≤10):Q7 (.str (tx s)) (.lst (sD ps))=some (.nw,.str (tx (B4 s ps))):=by
 unfold Q7
 simp only[]
 rw[Eg,Di]
 show(if jnOk (tx s) (ps.map tx) then some (Fl.nw,Dt.str (Txt.join (tx s) (ps.map tx))) else none)=_
 rw[Ou h1 h2 h3,Ec]
 rfl
theorem JG{n:Int}(h:n.natAbs<10 ^ 30):n.natAbs.log2<1920:=by
 by_cases h0:n.natAbs=0
 · rw[h0];decide
 · exact(Nat.log2_lt h0).mpr (Nat.lt_trans h (by decide))
theorem IT{n:Int}(h:n.natAbs<10 ^ 30):bStr [.int n]=some (.nw,.str (tx (nL n))):=by
 unfold bStr
 simp only[]
 rw[if_pos (JG h)]
 have:(Str.ofString (toString n))=tx (nL n):=nS_eq n
 rw[this]
theorem Ll{n:Int}(h:n.natAbs<10 ^ 30):Dj [.str (tx (nL n))]=some (.nw,.int n):=by
 unfold Dj
 simp only[]
 rw[t7,if_pos (by have:=Ap h;omega),X0 h]
 rfl
theorem BV{l:List Nat}(h:l.length≤100000):P7 [.str (tx l)]=some (.nw,.int l.length):=by
 unfold P7
 simp only[]
 rw[G5 h,t7]
 rfl
theorem Lm(l:List Nat):chD (tx l)=l.map fun c => .str (tx [c]):=by
 unfold chD
 rw[t9]
 rfl
end L2

end
section
set_option Elab.async false
set_option linter.all false
set_option maxRecDepth 100000
namespace L2
open PySem PySem.Spec PySem.W PyProof.Rows
section
variable {X:Cx}{x:Str}{e j:Expr}{Fe Fj:FE}{i:Nat}{px spos pos:Pos}
end
end L2

end
section
set_option Elab.async false
set_option linter.all false
set_option maxRecDepth 100000
namespace L2
open PySem PySem.Spec PySem.W PyProof.Rows
def sOr(F G:FS):FS:=fun ρ=>(F ρ).orElse fun _=>G ρ
theorem s_or{X:Cx}{st:Stmt}{F G:FS}(h:PFS X st F)(h':PFS X st G):PFS X st (sOr F G):=fun pins s σ H D I ⟨H₀,ρ,oc,rb,e,k⟩=>by
 unfold sOr at e
 cases q:F ρ with
 | some o=>rw[q]at e;cases e;exact h pins s σ H D I ⟨H₀,ρ,oc,rb,q,k⟩
 | none=>rw[q]at e;exact h' pins s σ H D I ⟨H₀,ρ,oc,rb,e,k⟩
def upXP(X:Cx)(R:FR):TE:=fun σ H _=>∃ ρ n,RepS X.ky H ρ σ∧R ρ=some n∧∃ E:XK,(∀ C H' o,X.mg (exN n)=some (.ref C)→Same H H'→(o=none∨wk n=true)→E (.ref C) o H')∧D9 (CX1 X.prog X.w) X E
def PFXP(X:Cx)(e:Expr)(R:FR):Prop:=PE X e (upXP X R)
section
variable {X:Cx}{e a b:Expr}{es:List Expr}{pos pos' p:Pos}{Fs:FA}{R:FR}{fr:Bool}{k k':Nat}{f:Addr}{fd:FuncData}{ps:List Str}{x:Str}{st:Stmt}{ct:FX}
theorem IU(F:FnOk X.prog X.w X.K X.mg X.base (CX1 X.prog X.w) k f fd ps (spx X.K X.mg fr ct))(D:Df X.K X.mg x st ps f fd)(hr:Room k' X.A)(hg:Gl X x)
  (ha:PFA X (e::es) Fs) (hle:k≤k':=by decide) (hdb:(x==("__debug__" : Str))=false:=by decide) (hst:starEach (e::es) X.env=(false,eval e X.env)::starEach es X.env:=by rfl) (hpl:(backTo pos (starEach es X.env)).any (·.1)=false:=by rfl) :
  PFXP X (.Call (.Name x p) (e::es) [] pos) (M5 ct Fs):=by
 rintro pins s σ H Q I ⟨ρ,n,rs,e0,E,hE,hp⟩
 obtain⟨xs,e1,e2⟩:=f8 e0
 obtain⟨r,q,e3⟩:=f8 e2
 cases r with
 | inl d=>cases e3
 | inr m =>
  cases e3
  exact Y1 (E:=E) (dvs:=[]) F (hr.mono hle) hg D.mg D.fn.kp D.bd .nil hp ha hdb hst hpl pins s σ H Q I ⟨ρ,xs,rs,e1,fun vs H1 s1 r1=>by
   dsimp only
   rw[List.append_nil]
   exact⟨_,.inr n,r1.sh,q,fun C H' o hC s' ho=>hE C H' o hC (s1.trans s') ho⟩⟩
end
section
variable {M:Model}{A:Around}{E:Value→Shared→Prop}{s:Shared}{h0:Heap}{H:Hp}{ea C L:Addr}
theorem setFl{Q:Unit→Shared→Prop}{T:Addr}{oe oT:Obj}{vs ts:Array Value}{fl:Value}(q1:s.heap.get? ea=some oe)(q4:oe.data = .fields vs)(q5:vs[1]?=some (.ref T))(q9:s.heap.get? T=some oT)(q10:oT.data = .fields ts)(q11:ts[3]?=some fl)
  (h:∀ h',(∀ b,b≠T→h'.get? b=s.heap.get? b)→(∃ oT' ts',h'.get? T=some oT'∧oT'.data = .fields ts'∧ts'[3]?=some (rawInt L))→Q () { s with heap:=h' }) :
  wpAny M A (setFlight (.ref ea) (some L)) Q E s:=by
 unfold setFlight
 refine wpAny_bind (wpAny_field q1 q4 q5 ?_)
 rw[if_pos (show(Value.ref T != Value.none)=true from by simp)]
 have sz:3<ts.size:=(Array.getElem?_eq_some_iff.mp q11).1
 refine wpAny_setField q9 q10 sz (h _ (fun b hb=>Heap.get?_update_other _ _ (Ne.symm hb)) ⟨_,_,Heap.get?_update_self _ q9 (Obj.isFreed_of_fields (Obj.data_mapFields q10 _)),Obj.data_mapFields q10 _,by simp[sz]⟩)
end
section
variable {X:Cx}{N:List Str}{scope:Scope}{nt:Nat}{js:List Nat}{pins:List (Addr×Obj)}{σ:St}{H2:Hp}{s2:Shared}{fp:List Addr}{C:Addr}{cl:List (Str×Addr)}{E:XK}{Q0:Value→Shared→Prop}
def Ln(X:Cx)(scope:Scope)(cl:List (Str×Addr))(C:Addr)(Q0:Value→Shared→Prop)(e:Value)(s':Shared):Prop :=
 ∃ m,s'.heap.Ns C m∧∀ h',Heap.SameBut C s'.heap h'→wpAny (model X.prog X.w) X.A (PySem.passOn "comprehension.variables-let-go" e (compEnvC scope cl C X.env)) Q0 X.xe { s' with heap:=h' }
abbrev cY(X:Cx)(N:List Str)(scope:Scope)(cl:List (Str×Addr))(C:Addr)(fp:List Addr)(s:Shared)(H:Hp)(Q0:Value→Shared→Prop):Cx:=(o3 X N scope cl C fp s H).wish (notedBy (model X.prog X.w) X.A (compEnvC scope cl C X.env) (Ln X scope cl C Q0))
theorem AL(I2:Inv X pins σ H2 s2)(f2:∀ b∈fp,FpOk X pins H2 b)(hstk:X.stack=X.env::X.outer)(hfr:X.env.frame=some X.env.locals)(hex:X.ex=[])(hC:s2.heap.objs.size≤C)(hl:Aj X E):
   D9 (CX1 X.prog X.w) (cY X N scope cl C fp s2 H2 Q0) E:=by
 rintro pins' σ' H s e s' I ⟨ea,Cc,H',cx,rfl,os,bare,un,hok,fly,hE⟩
 have I':Inv (cY X N scope cl C fp s2 H2 Q0) pins' σ' H' s':=I.call' os un hok bare fun b z=>absurd z (by simp)
 have ff:s'.heap.FunFrames X.base X.stack:=I'.stack
 obtain⟨T,a0,n3,n4,fl⟩:=fly.base ff
 have c2:=fly.c2
 obtain⟨n1,n2,_⟩:=fly
 have fpS:∀ b∈fp,X.s₀.heap.get? b=none:=fun b hb=>by
   rcases(f2 b hb).2.2.2.1 with z|z
   · rw[hex]at z;simp at z
   · exact Heap.get?_none_of_le z
 have th:∀ b o,s2.heap.get? b=some o→b ∉ fp→∃ o',s.heap.get? b=some o':=fun b o q nb=>I.base.there b o q nb
 have th0:∀ b o,X.s₀.heap.get? b=some o→∃ o',s.heap.get? b=some o':=fun b o q=>by
   obtain⟨o',q'⟩:=I2.base.there b o q (by rw[hex];simp)
   exact th b o' q' fun z=>by rw[fpS b z]at q;cases q
 have new0:∀ b,s.heap.get? b=none→X.s₀.heap.get? b=none:=fun b q=>by
   cases y:X.s₀.heap.get? b with
   | none=>rfl
   | some o=>obtain⟨o',e'⟩:=th0 b o y;rw[q]at e';cases e'
 have ths:∀ b o,s.heap.get? b=some o→∃ o',s'.heap.get? b=some o':=fun b o q=>un.there b o q (by simp)
 obtain⟨mC,nsC,_⟩:=I.loc
 have nsC:s.heap.Ns C mC:=nsC
 obtain⟨oC,_,_,gC,_⟩:=id nsC
 obtain⟨mC',nsC',_⟩:=I'.loc
 have nsC':s'.heap.Ns C mC':=nsC'
 have hfree:H' C=none:=I'.free
 have cNe:C≠ea:=fun z=>by rw[z,n1]at gC;cases gC
 have cNT:C≠T:=fun z=>by rw[z,n3]at gC;cases gC
 have cNf:C ∉ frs X.stack:=fun z=>by
   obtain⟨_,o,q,_⟩:=I2.stack.mem z
   exact absurd (Heap.lt_size q) (Nat.not_lt.mpr hC)
 show wpAny _ X.A (noteFrame (.ref ea) X.env) _ _ s'
 refine DR (by rw[←hstk];exact I'.ok.frames) hfr (by rw[←hstk];exact fl) fun h1 held us cc=>?_
 have k1:∀ b o,s'.heap.get? b=some o→b ∉ (ea::T::frs X.stack)→h1.get? b=some o:=fun b o q m=>held.1 b o (hideAll_get _ q m)
 have sl1:∀ b∈frs X.stack,∀ o,s'.heap.get? b=some o→∃ z,h1.get? b=some { o with slots:=z }:=fun b hb o q=>by
   obtain⟨_,o',q',nf⟩:=ff.mem hb
   rw[q]at q';cases q'
   exact us b o q nf
 obtain⟨_,_,_,oe,vs,T',oT,ts,q1,⟨q2,q3⟩,q4,q5,q6,q7,q8,q9,q10⟩:=held
 have q12:vs[2]?=some cx:=by
   obtain⟨oe',vs',y1,y2,y3⟩:=cc cx c2
   rw[q1]at y1;cases y1
   rw[q4]at y2;cases y2
   exact y3
 have hT:T'=T∨s'.heap.get? T'=none:=by
   by_cases m:T'∈(ea::T::frs X.stack)
   · rcases List.mem_cons.mp m with z|m
     · exact absurd z q7
     · rcases List.mem_cons.mp m with z|m
       · exact .inl z
       · obtain⟨_,o,e1,nf⟩:=ff.mem m
         obtain⟨z,e2⟩:=sl1 T' m o e1
         rw[q8]at e2
         cases e2
         exact absurd q9 (nf ts)
   · refine .inr ?_
     cases z:s'.heap.get? T' with
     | none=>rfl
     | some o=>rw[hideAll_get _ z m]at q6;cases q6
 have T's:s.heap.get? T'=none:=by
   rcases hT with z|z
   · rw[z];exact n3
   · cases y:s.heap.get? T' with
     | none=>rfl
     | some o=>obtain⟨o',e'⟩:=ths T' o y;rw[z]at e';cases e'
 have T'H:H' T'=none:=by
   rcases hT with z|z
   · rw[z];exact n4
   · cases y:H' T' with
     | none=>rfl
     | some o=>obtain⟨ob,q⟩:=(I'.hok T' o y).obj;rw[z]at q;cases q
 have cNT':C≠T':=fun z=>by rw[z,T's]at gC;cases gC
 refine⟨mC',?_,fun h2 sb=>?_⟩
 · obtain⟨o,es,ep,g,r⟩:=nsC'
   exact⟨o,es,ep,k1 C o g (by simp[cNe,cNT,cNf]),r⟩
 have g1:h2.get? ea=some oe:=(sb.2 ea (Ne.symm cNe)).trans q1
 have g8:h2.get? T'=some oT:=(sb.2 T' (Ne.symm cNT')).trans q8
 have fin:∀ h3,(∀ b,b≠T'→h3.get? b=h2.get? b)→(∃ oT' ts',h3.get? T'=some oT'∧oT'.data = .fields ts'∧ts'[3]?=some (rawInt X.env.locals))→X.xe (.ref ea) { s' with heap:=h3 }:=fun h3 kp ⟨oT',ts',w1,w2,w3⟩=>by
   have kp1:∀ b o,s'.heap.get? b=some o→b≠ea→b≠T→b≠T'→b≠C→b ∉ frs X.stack→h3.get? b=some o:=fun b o q m1 m2 m3 m4 m5=>(kp b m3).trans ((sb.2 b m4).trans (k1 b o q (by simp[m1,m2,m5])))
   have hok3:HOk X.prog X.w H' h3:=Bh I'.hok fun b o hb q=>kp1 b o q (fun z=>hb (z ▸ n2)) (fun z=>hb (z ▸ n4)) (fun z=>hb (z ▸ T'H)) (fun z=>hb (z ▸ hfree)) fun z=>hb (I'.stkFree b z)
   have ub:Un (frs X.stack) fp H2 H' s2.heap s'.heap:=I'.base
   have kk:∀ b o o',s2.heap.get? b=some o→b ∉ fp→s'.heap.get? b=some o'→b ∉ frs X.stack→h3.get? b=some o':=fun b o o' w nb w' m=>by
     obtain⟨o1,w1⟩:=th b o w nb
     exact kp1 b o' w' (fun z=>by rw[z,n1]at w1;cases w1) (fun z=>by rw[z,n3]at w1;cases w1) (fun z=>by rw[z,T's]at w1;cases w1) (fun z=>absurd (Heap.lt_size w) (by rw[z];exact Nat.not_lt.mpr hC)) m
   have sl3:∀ b∈frs X.stack,∀ o,s'.heap.get? b=some o→∃ z,h3.get? b=some { o with slots:=z }:=fun b hb o q=>by
     obtain⟨z,e⟩:=sl1 b hb o q
     obtain⟨_,o',q',nf⟩:=ff.mem hb
     rw[q]at q';cases q'
     exact⟨z,(kp b fun w=>by rw[w,q8]at e;cases e;exact nf ts q9).trans ((sb.2 b fun w=>cNf (w ▸ hb)).trans e)⟩
   have un3:Un (frs X.stack) fp H2 H' s2.heap h3:={
     keep:=fun b o q n hb hx=>kk b o o q hx (ub.keep b o q n hb hx) hb
     slot:=fun b o q n hb hx=>by
       obtain⟨z,e⟩:=ub.slot b o q n hb hx
       obtain⟨z',e'⟩:=sl3 b hb _ e
       exact⟨z',e'⟩
     free:=ub.free
     there:=fun b o q hx=>by
       obtain⟨o',e⟩:=ub.there b o q hx
       by_cases m:b∈frs X.stack
       · obtain⟨z',e'⟩:=sl3 b m _ e
         exact⟨_,e'⟩
       · exact⟨_,kk b o _ q hx e m⟩
     tups:=ub.tups
     frzs:=ub.frzs
     tbls:=ub.tbls }
   exact hl pins σ H' _ ea Cc _ cx hfr (I2.call' (s':={ s' with heap:=h3 }) (os.trans I.os) un3 hok3 bare fun b hb=>⟨(f2 b hb).2.2.2.1,(f2 b hb).2.1,(f2 b hb).2.2.2.2.1,(f2 b hb).2.2.2.2.2⟩)
     ⟨new0 ea n1,n2,oe,vs,T',oT',ts',a0,(kp ea (Ne.symm q7)).trans g1,q2,q3,q4,q5,new0 T' T's,T'H,q7,w1,w2,w3,q12⟩ hE
 unfold PySem.passOn
 refine wpAny_bind (wpAny_field g1 q4 q5 ?_)
 rw[if_neg (show ¬((Value.ref T'==Value.none)=true)from by simp)]
 have go:wpAny (model X.prog X.w) X.A (setFlight (.ref ea) (compEnvC scope cl C X.env).frame >>= fun _=>throw (Value.ref ea)) Q0 X.xe { s' with heap:=h2 }:=by
   refine wpAny_bind ?_
   show wpAny _ _ (setFlight (.ref ea) X.env.frame) _ _ _
   rw[hfr]
   exact setFl (s:={ s' with heap:=h2 }) g1 q4 q5 g8 q9 q10 fun h3 a b=>wpAny_throw (fin h3 a b)
 first
   | exact wpAny_bind (wpAny_pure go)
   | exact go
end
section
variable {X:Cx}{N:List Str}{scope:Scope}{nt:Nat}{js:List Nat}{tg elt iter:Expr}{Fi:FI}{g:Tg}{Fe:FE}{Re:FR}{pos:Pos}
def D6(g:Tg)(Fe:FE)(Re:FR)(ρ0:Rho):List Dt→Option Nat
 | []=>none
 | x::xs=>(g.put x ρ0).bind fun ρ1=>match Fe ρ1 with|some _=>D6 g Fe Re ρ0 xs|none=>Re ρ1
def AM(nt:Nat)(js:List Nat)(Fi:FI)(g:Tg)(Fe:FE)(Re:FR):FR:=fun ρ=>(Fi ρ).bind fun items=>D6 g Fe Re (sigD nt js ρ) items
theorem nfr{scope:Scope}(h:scope.names.all (fun x=>x.2 != .free)=true):∀ x∈scope.names,x.2 ≠ .free:=fun x hx=>by have:=List.all_eq_true.mp h x hx;simpa using this
theorem r_comp(S:CompScope X N scope nt js)(hc:X.calm=true)(hi:PFI X tg iter Fi)(hg:∀ cl C fp s H xe,PG ((o3 X N scope cl C fp s H).wish xe) tg (g.low X.K))(hb:g.below nt)
  (he:∀ cl C fp s H xe,PF ((o3 X N scope cl C fp s H).wish xe) elt Fe) (hr:∀ cl C fp s H xe,PFXP ((o3 X N scope cl C fp s H).wish xe) elt Re) (hj:∀ j∈js,j<X.N.length)
  (hfree:∀ x∈scope.names,x.2 ≠ .free) (hstk:X.stack=X.env::X.outer) (hfr:X.env.frame=some X.env.locals) (hex:X.ex=[]) (hs:∀ x,foldedSetIterable iter X.env x=pure x:=by intro _;rfl) :
  PFX X (.ListComp elt [⟨tg,iter,[],0⟩] scope pos) (AM nt js Fi g Fe Re):=by
 rintro pins s σ H Q I ⟨H₀,ρ,n,⟨O,rb⟩,e0,k⟩
 obtain⟨items,ei,er⟩:=f8 e0
 have rs:=rb.all
 obtain⟨E,hE,hl⟩:∃ E:XK,(∀ C H' o,X.mg (exN n)=some (.ref C)→Same H H'→(o=none∨wk n=true)→E (.ref C) o H')∧Aj X E:=by
  by_cases hC:∃ C,X.mg (exN n)=some (.ref C)
  · obtain⟨C,hC⟩:=hC
    obtain⟨E,a,_,_,b⟩:=k C hC
    refine⟨E,fun C' H' o h sm ho=>?_,b⟩
    rw[hC]at h
    cases h
    exact a H' o (rb.same.trans (i9.trans sm)) ho
  · exact⟨fun _ _ _=>False,fun C _ _ h=>(hC ⟨C,h⟩).elim,fun _ _ _ _ _ _ _ _ _ _ _ z=>z.elim⟩
 have nofr:o0 X.env scope.names []=[]:=by
  have:∀ l:List (Str×NameKind),(∀ x∈l,x.2 ≠ .free)→o0 X.env l []=[]:=fun l=>by
    induction l with
    | nil=>intro _;rfl
    | cons x r ih =>
      intro h
      unfold o0
      rw[if_neg (by simpa using h x (by simp))]
      exact ih fun y hy=>h y (by simp[hy])
  exact this _ hfree
 have rel:relabel scope X.env=scope:=by
  have:∀ l:List (Str×NameKind),(∀ x∈l,x.2 ≠ .free)→(l.map fun(n,k)=>if(k==NameKind.free&&X.env.scope.kind == .function&&X.env.kindOf n==some .cell) then(n,NameKind.cell) else(n,k))=l:=fun l=>by
    induction l with
    | nil=>intro _;rfl
    | cons x r ih =>
      intro h
      have hx:(x.2==NameKind.free)=false:=by simpa using h x (by simp)
      rw[List.map_cons,ih fun y hy=>h y (by simp[hy])]
      obtain⟨a,b⟩:=x
      simp only at hx
      simp[hx]
  unfold relabel
  rw[this _ hfree]
 rw[eval_ListComp]
 refine wpAny_comprehension (g:=⟨tg,iter,[],0⟩) (gs:=[]) rfl hs hfree S.kind S.loc (thn (hi pins s σ H (fun J H1=>Same H H1∧items.length≤sizeLine∧Walk X.K J items H1) I ⟨ρ,items,rs,ei,fun J H1 sm hsz wk=>⟨sm,hsz,wk⟩⟩) fun xv s1 h1=>thn h1 fun itv s2 h2=>?_)
 obtain⟨it,fp,tn,J,H2,rfl,I2,T,st2,f2,sm2,hsz,wk⟩:=h2
 refine wpAny_newObj_type (hd:=by size_fits) ?_
 have fresh2:H2 s2.heap.objs.size=none:=I2.fresh
 have I3:=I2.lnew (ys:=[]) (its:=[]) (t':=s2.toks) .nil (Nat.zero_le _)
 have ltf:∀ b∈fp,b<s2.heap.objs.size:=fun b hb=>by
  obtain⟨o,e,_⟩:=T.obj 0 _ st2 b hb
  exact Heap.lt_size e
 have f3:∀ b∈fp,FpOk X pins (upd H2 s2.heap.objs.size (.lst [])) b:=fun b hb=>⟨by rw[o6 (Nat.ne_of_lt (ltf b hb))];exact(f2 b hb).1,(f2 b hb).2⟩
 generalize e3:({ s2 with heap:=s2.heap.push { cls := .type "list",dict:=none,data := .seq ([]:List Value).toArray } }:Shared)=s3 at *
 have k3:∀ b o,s2.heap.get? b=some o→s3.heap.get? b=some o:=fun b o e=>by rw[←e3];exact Heap.get?_push_of_some _ e
 have os3:s3.os=s2.os:=by rw[←e3]
 have sz3:s2.heap.objs.size<s3.heap.objs.size:=by rw[←e3];show _<(s2.heap.push _).objs.size;rw[Heap.size_push];exact Nat.lt_succ_self _
 refine Bv fun h4 ns4 k4 nc4=>?_
 have I4:=Bw S I2 I3 (Un.laid k3 (Nat.le_refl _) fresh2) os3 (Nat.le_of_lt sz3) f3 (fun b hb=>by obtain⟨o,e,_⟩:=T.obj 0 _ st2 b hb;exact⟨o,k3 b o e⟩) ns4 k4 nc4
 have st4:tn 0 h4:=T.keep _ _ _ st2 fun b _ o e=>k4 b o (k3 b o e)
 rw[nofr]at I4
 generalize eC:s3.heap.objs.size=C at *
 generalize eD:s2.heap.objs.size=D at *
 generalize ecl:cellsFrom (C+1) scope.names []=cl at *
 refine(show ∀ ce:Env,ce=compEnvC scope cl C X.env→codeAny (model X.prog X.w) X.A (.compStart (.ListComp elt [⟨tg,iter,[],0⟩] scope pos) 0 (.ref it) (.ref D) ce) (fun r s'=>∃ m,s'.heap.Ns C m∧∀ h',Heap.SameBut C s'.heap h'→match r with
  | .ok _=>EP X pins σ Q (.ref D) { s' with heap:=h' }
  | .error x=>wpAny (model X.prog X.w) X.A (PySem.passOn "comprehension.variables-let-go" x ce) (EP X pins σ Q) X.xe { s' with heap:=h' }) { s3 with heap:=h4 }from ?_) _ (by unfold compEnvC;rw[rel];rfl)
 rintro _ rfl
 have I4:=I4.wish (notedBy (model X.prog X.w) X.A (compEnvC scope cl C X.env) (Ln X scope cl C (EP X pins σ Q)))
 have ps:D9 (CX1 X.prog X.w) (cY X N scope cl C fp s2 H2 (EP X pins σ Q)) E:=AL I2 f2 hstk hfr hex (by omega) hl
 have stat:∀{H':Hp},(∀ b∈fp,H' b=none)→∀ b∈fp,FpOk (cY X N scope cl C fp s2 H2 (EP X pins σ Q)) [] H' b:=fun hn b hb=>by
  exact⟨hn b hb,(I4.ok.exf b hb).1,I4.ok.exfs b hb,.inl hb,(I4.ok.exf b hb).2,fun p hp=>absurd (show p∈([]:List (Addr×Obj))from hp) (by simp)⟩
 have loop:∀ s4:Shared,s4={ s3 with heap:=h4 }→codeAny (model X.prog X.w) X.A (.compLoop (.ListComp elt [⟨tg,iter,[],0⟩] scope pos) 0 (.ref it) (.ref D) (compEnvC scope cl C X.env)) (fun r s'=>∃ m,s'.heap.Ns C m∧∀ h',Heap.SameBut C s'.heap h'→match r with
  | .ok _=>EP X pins σ Q (.ref D) { s' with heap:=h' }
  | .error x=>wpAny (model X.prog X.w) X.A (PySem.passOn "comprehension.variables-let-go" x (compEnvC scope cl C X.env)) (EP X pins σ Q) X.xe { s' with heap:=h' }) s4:=by
  rintro s4 rfl
  refine N5 (fun nn s'=>∃ i ys H',Inv (cY X N scope cl C fp s2 H2 (EP X pins σ Q)) [] (sig nt js σ) H' s'∧tn i s'.heap∧(∀ b∈fp,H' b=none)∧nn=items.length-i∧H' D=some (.lst ys)∧Same H2 (hidL [D] H')∧ys.length≤i∧D6 g Fe Re (sigD nt js ρ) (items.drop i)=some n) ?_ (items.length-0)
    ⟨0,[],_,I4,st4,fun b hb=>(f3 b hb).1,rfl,p6,by rw[N9,BJ fresh2];exact Same.refl _,Nat.le_refl _,er⟩
  rintro nn s5 ⟨i,ys,H5,I5,st5,fr5,rfl,d5,sm5,l5,r5⟩
  have hlt:i<items.length:=by
    by_cases z:i<items.length
    · exact z
    · rw[List.drop_of_length_le (by omega)]at r5;cases r5
  obtain⟨x,hx⟩:∃ x,items[i]?=some x:=⟨_,List.getElem?_eq_getElem hlt⟩
  have hdrop:items.drop i=x::items.drop (i+1):=by
    rw[List.drop_eq_getElem_cons hlt]
    rw[List.getElem?_eq_getElem hlt]at hx
    cases hx;rfl
  rw[hdrop]at r5
  unfold D6 at r5
  obtain⟨ρ1,p1,r6⟩:=f8 r5
  obtain⟨go,yl⟩:=(wk [D] H5 sm5 (fun a ha=>by rw[List.mem_singleton.mp ha];exact⟨_,d5⟩)).1 i x hx
  refine wpAny_mono (T.item (cY X N scope cl C fp s2 H2 (EP X pins σ Q)) rfl rfl rfl hc i [] s5 _ H5 _ I5 (stat fr5) st5 go) (fun r s6 hZ=>?_) fun _ _ z=>z
  obtain⟨u,rfl,h6⟩:=hZ
  refine wpAny_mono h6 (fun _ s7 hZ=>?_) fun _ _ z=>z
  obtain⟨xv,H7,I7,r7,y7,st7,fr7⟩:=hZ
  have I7':=I7.pinned (stat fr7) (T.obj _ _ st7)
  obtain⟨s3',k3',r3'⟩:=yl xv H7 y7
  have d7:H7 D=some (.lst ys):=by rw[k3' D (by simp)];exact d5
  have sm7:Same H2 (hidL [D] H7):=sm5.trans s3'
  have gY:PG (cY X N scope cl C fp s2 H2 (EP X pins σ Q)) tg (g.low X.K):=hg _ _ _ _ _ _
  refine wpAny_mono (gY _ s7 _ H7 xv u (fun σ2 H'=>(σ2.length=(sig nt js σ).length∧∀ i,nt≤i→σ2[i]?=(sig nt js σ)[i]?)∧H'=H7∧RepS ⟨X.K,H2⟩ (hidL [D] H7) ρ1 σ2) I7' r7 (Tg.ok hb _ _ _ _ (Tg.low_mono (Tg.sim (Y:=⟨X.K,H2⟩) (Hh:=hidL [D] H7) i9 ((rs.mono (sm2.trans sm7)).sigs (fun j z=>by rw[I.len];exact hj j z) sm7) r3' p1) fun σ4 H4 z=>z))) (fun _ s8 hZ=>?_) fun _ _ z=>z
  obtain⟨σ8,H8,I8,⟨l8,o8⟩,rfl,rs8⟩:=hZ
  refine wpAny_pure ?_
  rw[if_pos rfl]
  cases ef:Fe ρ1 with
  | none =>
    rw[ef]at r6
    have eR:PFXP (cY X N scope cl C fp s2 H2 (EP X pins σ Q)) elt Re:=hr _ _ _ _ _ _
    refine wpAny_mono (eR _ s8 σ8 H8 (fun _ _=>False) I8 ⟨ρ1,n,rs8.mono i9,r6,E,fun C' H' o hC sm ho=>hE C' H' o hC (sm2.trans (sm7.trans (i9.trans sm))) ho,ps⟩) (fun y s9 hZ=>?_) fun _ _ z=>z
    obtain⟨_,_,_,_,z⟩:=hZ
    exact z.elim
  | some xv' =>
    rw[ef]at r6
    have eF:PF (cY X N scope cl C fp s2 H2 (EP X pins σ Q)) elt Fe:=he _ _ _ _ _ _
    have own:OwnL (cY X N scope cl C fp s2 H2 (EP X pins σ Q)) [D] H8:=fun a ha=>by
      rw[List.mem_singleton.mp ha]
      exact⟨⟨ys,d7⟩,fresh2⟩
    refine wpAny_mono (PE.frame eF _ s8 σ8 H8 (fun v H10=>H10 D=some (.lst ys)∧Same H2 (hidL [D] H10)) I8 ⟨[D],own,ρ1,xv'.1,xv'.2,rs8,ef,fun v H6 s6 _ n6=>⟨by rw[J1 (by simp)];exact d7,by rw[B8 n6];exact sm7.trans s6⟩⟩) (fun y s10 hZ=>?_) fun _ _ z=>z
    obtain⟨v,H10,I10,r10,d10,sm10⟩:=hZ
    refine wpAny_mono (T9 (X:=(cY X N scope cl C fp s2 H2 (EP X pins σ Q))) _ s10 σ8 H10 (.ref D) [v] (.ref D) [y] (fun z H'=>H'=upd H10 D (.lst (ys++[v]))) I10 rfl (.cons r10 .nil) ⟨_,ys,v,rfl,rfl,d10,by omega,rfl⟩) (fun _ s11 hZ=>?_) fun _ _ z=>z
    obtain⟨_,H11,I11,_,rfl⟩:=hZ
    refine⟨_,(by omega:items.length-(i+1)<items.length-i),i+1,ys++[v],_,I11.unpinned.weak l8.symm (Bx l8 o8),T.keep _ _ _ st7 fun b hb o e=>(I11.pin (b,o) (List.mem_append_right _ (List.mem_append_right _ (z8 hb e)))).1,fun b hb=>?_,rfl,p6,by rw[N9];exact sm10,by rw[List.length_append];simp;omega,r6⟩
    obtain⟨o,e,_⟩:=T.obj _ _ st7 b hb
    exact(I11.pin (b,o) (List.mem_append_right _ (List.mem_append_right _ (z8 hb e)))).2.1
 exact codeAny_compStart_list (loop _ rfl) (T.self _ _ _ _ _ st4 (loop _ rfl))
end
section
variable {X:Cx}{x:Str}{e j:Expr}{Fe Fj:FE}{i:Nat}{px spos pos:Pos}
theorem o_mulS:OpF X (binaryOp .Mult) Eb:=by
 rintro pins s σ H x y v u Q I r1 r2 ⟨d1,d2,f,d,q1,q2,e,k⟩
 cases d1<;>first|cases e|skip
 cases d2<;>first|cases e|skip
 rename_i z n
 rw[Rp.str_]at q1
 rw[Rp.int_]at q2
 subst q1 q2
 obtain⟨t,rfl⟩:=r1
 obtain⟨t',rfl⟩:=r2
 unfold Eb at e
 simp only at e
 split at e
 · rename_i hc
   cases e
   simp only[Bool.and_eq_true,decide_eq_true_eq]at hc
   obtain⟨h0,h1,h2⟩:=hc
   refine SB.mul ⟨?_,fun a b=>?_,fun a b=>?_⟩ fun t' n=>DY I k t' n
   · simp
     omega
   · have:(9223372036854775807:Int) / n≥1:=(Int.le_ediv_iff_mul_le (by omega)).mpr (by omega)
     show ¬(z.length:Int) > (2 ^ 63-1) / n
     have e:(2:Int) ^ 63-1=9223372036854775807:=by decide
     rw[e]
     omega
   · have:z.length*n.toNat≤1*1000:=Nat.mul_le_mul h2 (by omega)
     have l5:=sl5
     exact decide_eq_false (by omega)
 · cases e
end
end L2

end
section
set_option Elab.async false
set_option linter.all false
set_option maxRecDepth 100000
namespace L2
open PySem PySem.Spec PyProof.Rows PySem.W
open Builtin Builtin.Str PySem.StrLaws
theorem D_of:∀(k:Nat) (l:List Nat),l.length=k+1→(∀ c∈l,48≤c∧c≤57)→l.head?≠some 48→∃ m,m≠0∧m<10 ^ l.length∧l=D m
 | 0,l,hl,hd,h0=>by
  match l,hl with
  | [c],_ =>
    have:=hd c (by simp)
    have h0:c≠48:=by simpa using h0
    refine⟨c-48,by omega,by simp;omega,?_⟩
    rw[D_lt (by omega)]
    congr 1
    omega
 | k+1,l,hl,hd,h0=>by
  have hne:l≠[]:=by intro h;rw[h]at hl;simp at hl
  have e:=List.dropLast_concat_getLast hne
  generalize l.dropLast=a at *
  generalize l.getLast hne=c at *
  subst e
  have la:a.length=k+1:=by simpa using hl
  have ha:a≠[]:=by intro h;rw[h]at la;simp at la
  obtain⟨m,h1,h2,h3⟩:=D_of k a la (fun x hx=>hd x (by simp[hx])) (by
    cases a with
    | nil=>exact absurd rfl ha
    | cons x r=>simpa using h0)
  have hc:=hd c (by simp)
  refine⟨10*m+(c-48),by omega,?_,?_⟩
  · rw[List.length_append,la,List.length_singleton,Nat.pow_succ]
    rw[la]at h2
    omega
  · rw[Ao (by omega),show(10*m+(c-48)) / 10=m by omega,show(10*m+(c-48)) % 10=c-48 by omega,←h3,show 48+(c-48)=c by omega]
theorem EY{w s:List Nat}(h1:1≤s.length)(h2:s.length≤30)(hd:∀ c∈s,48≤c∧c≤57)(h0:s.head?=some 48→w=[48])(hw:w=s∨w=45::s):∃ n:Int,n.natAbs<10 ^ 30∧w=nL n:=by
 by_cases z:s.head?=some 48
 · exact⟨0,by decide,(h0 z).trans (by decide)⟩
 · obtain⟨m,m0,ml,me⟩:=D_of (s.length-1) s (by omega) hd z
   have ml:m<10 ^ 30:=Nat.lt_of_lt_of_le ml (Nat.pow_le_pow_right (by decide) h2)
   rcases hw with hw|hw
   · refine⟨m,by simpa using ml,?_⟩
     rw[hw,me]
     unfold nL
     rw[if_neg (by omega)]
     rfl
   · refine⟨-(m:Int),by simpa using ml,?_⟩
     rw[hw,me]
     unfold nL
     rw[if_pos (by omega)]
     simp
end L2

end
section
set_option Elab.async false
set_option linter.all false
set_option maxRecDepth 100000
namespace L2
open PySem PySem.Spec PySem.W PyProof.Rows
theorem Gz:entryFor table "proto.unchain" = some Builtin.«proto.unchain»:=entryFor_of_fast (by kernel_rfl)
section
variable {prog:Program}{w:World}{A:Around}{E:Value→Shared→Prop}{env:Env}{nm q:Str}{C N ea:Addr}{bs bm:List Value}{hdct:Bool}{sn:List Str}{sub:List Value}{ab:Bool}{col:Option Bool}{dd:Option Addr}{k0 k1 k2 k3 k5:Option Value}{newId:String}
theorem BW{s:Shared}{x:Sem Value}{pos:Pos}{Q:Flow→Shared→Prop}(hbase:bm.contains (.type "BaseException")=true)(hh:A.handled=some (.ref ea))
  (h:wpAny (model prog w) A x (fun v s1=>∃ e t,v = .ref e∧s1.heap.get? C=some (excClassObj nm q C N bs bm hdct sn sub ab col dd k0 k1 k2 k3 k5 newId)∧s1.heap.get? e=some { cls := .ref C,data := .fields #[.ref t,.none,.none,.none,.bool false,.none] } ∧
   ea≠e∧C2 s1.heap ea .none∧∀ h',h'.get? e=some { cls := .ref C,data := .fields #[.ref t,.none,.ref ea,.none,.bool true,.none] }→(∀ b,b≠e→h'.get? b=s1.heap.get? b)→E (.ref e) { s1 with heap:=h' }) E s) :
  wpAny (model prog w) A (raiseStmt env (some x) (some (do let v ←(pure Value.none:Sem Value);standAt pos;pure v))) Q E s:=by
 have hcB:(Value.ref C::bm).contains (.type "BaseException")=true:=by rw[List.contains_cons,hbase,Bool.or_true]
 unfold raiseStmt
 refine wpAny_bind (wpAny_mono h (fun v s1 hZ=>?_) fun _ _ x=>x)
 obtain⟨e,t,rfl,hC,he,hne,c2,hE⟩:=hZ
 obtain⟨hp,g,d,tk,os⟩:=s1
 refine wpAny_bind (wpAny_holding (wpAny_bind (wpAny_pure (wpAny_bind (wpAny_standAt (wpAny_pure (wpAny_bind (wpAny_pure ?_))))))))
 repeat (first|with_reducible refine wpAny_loadPart_at he ?_|with_reducible refine wpAny_loadPart_at hC ?_|(with_reducible refine wpAny_isSubtype_exc hC ?_;rw[hcB])|wp_step)
 have nCe:C≠e:=fun z=>by
  subst z
  rw[hC]at he
  cases he
 have he1:=Heap.get?_update_self (Obj.mapFields fun x=>x.setIfInBounds 3 Value.none) he rfl
 have he2:=Heap.get?_update_self (Obj.mapFields fun x=>x.setIfInBounds 4 (Value.bool true)) he1 rfl
 have oth:∀ b,b≠e→((hp.update e (Obj.mapFields fun x=>x.setIfInBounds 3 Value.none)).update e (Obj.mapFields fun x=>x.setIfInBounds 4 (Value.bool true))).get? b=hp.get? b:=fun b hb=>(Heap.get?_update_other _ _ (Ne.symm hb)).trans (Heap.get?_update_other _ _ (Ne.symm hb))
 have hC2:=(oth C nCe).trans hC
 generalize (hp.update e (Obj.mapFields fun x=>x.setIfInBounds 3 Value.none)).update e (Obj.mapFields fun x=>x.setIfInBounds 4 (Value.bool true))=h2 at *
 have he2:h2.get? e=some { cls := .ref C,data := .fields #[.ref t,.none,.none,.none,.bool true,.none] }:=he2
 repeat (first|with_reducible refine wpAny_loadPart_at he2 ?_|with_reducible refine wpAny_loadPart_at hC2 ?_|(with_reducible refine wpAny_isSubtype_exc hC2 ?_;rw[hcB])|wp_step)
 unfold raiseNew
 refine wpAny_bind (wpAny_handled ?_)
 rw[hh]
 dsimp only
 rw[if_pos (show((Value.ref ea != Value.ref e)=true)from by simpa using hne)]
 obtain⟨oe,vs,g1,g2,g3⟩:=c2
 have g1:h2.get? ea=some oe:=(oth ea hne).trans g1
 refine wpAny_bind (wpAny_holding (wpAny_runValue (codeAny_builtin Gz ?_)))
 unfold Builtin.«proto.unchain»
 dsimp only
 refine wpAny_bind (wpAny_field g1 g2 g3 ?_)
 rw[if_pos (by rfl)]
 refine wpAny_pure ?_
 show wpAny _ _ (do updateField e 2 (Value.ref ea);throw (Value.ref e)) _ _ _
 refine wpAny_bind ?_
 unfold updateField
 refine wpAny_bind (wpAny_load he2 ?_)
 dsimp only
 rw[if_pos (by show 2<6;decide)]
 refine wpAny_update he2 (wpAny_throw (hE _ (Heap.get?_update_self _ he2 rfl) fun b hb=>(Heap.get?_update_other _ _ (Ne.symm hb)).trans (oth b hb)))
variable {bmB:List Value}{B initId:String}
theorem GA{s:Shared}(F:ExcBaseFacts B newId initId bmB){mN:Str→Option Value}{x:Str}{np cpos pos p2:Pos}{j2:Nat}{args:List Expr}{Q:Flow→Shared→Prop}
  (hbase:bm.contains (.type "BaseException")=true) (hh:A.handled=some (.ref ea)) (hplain:(backTo cpos (starEach args env)).any (·.1)=false) (hni:mN "__init__" = none)
  (h:wpAny (model prog w) A (eval (.Name x np) env) (fun f s1=>f = .ref C∧wpAny (model prog w) A (evalArgs (.ref C) true (backTo cpos (starEach args env)) [])
   (fun a s2=>a.kw=[]∧a.pos.length≤sizeLine∧s2.heap.get? C=some (excClassObj nm q C N bs bm hdct sn sub ab col dd k0 k1 k2 k3 k5 newId)∧s2.heap.Ns N mN∧OwnTail s2.heap bmB bm∧C2 s2.heap ea .none ∧
    ∀ h1 h' e t,Heap.MadeExcOf s2.heap h1 e (.ref C) a.pos→ea≠e→h'.get? e=some { cls := .ref C,data := .fields #[.ref t,.none,.ref ea,.none,.bool true,.none] }→(∀ b,b≠e→h'.get? b=h1.get? b)→E (.ref e) { s2 with heap:=h' }) E s1) E s) :
  wpAny (model prog w) A (exec (.Raise (some (.Call (.Name x np) args [] cpos)) (some (.Constant .none j2 p2)) pos) env) Q E s:=by
 rw[arm_exec_Raise]
 refine wpAny_bind (wpAny_standAt ?_)
 refine BW (C:=C) (nm:=nm) (q:=q) (N:=N) (bs:=bs) (bm:=bm) (hdct:=hdct) (sn:=sn) (sub:=sub) (ab:=ab) (col:=col) (dd:=dd) (k0:=k0) (k1:=k1) (k2:=k2) (k3:=k3) (k5:=k5) (newId:=newId) (pos:=pos) hbase hh ?_
 refine wpAny_bind (wpAny_mono (wpAny_Call_ofName (wpAny_mono h (fun f s1 hZ=>?_) fun _ _ z=>z)) (fun v s3 hZ=>wpAny_bind (wpAny_standAt (wpAny_pure hZ))) fun _ _ z=>z)
 obtain⟨rfl,hZ⟩:=hZ
 unfold callWith
 refine wpAny_bind (wpAny_holding (wpAny_mono hZ (fun a s2 hZ=>wpAny_bind (wpAny_standAt ?_)) fun _ _ z=>z))
 obtain⟨apos,akw⟩:=a
 obtain⟨hkw,hlen,hC,hn,T,c2,k⟩:=hZ
 obtain rfl:akw=[]:=hkw
 obtain⟨hp,g,d,tk,os⟩:=s2
 simp only[hplain]
 refine wpAny_bind (wpAny_keeperOf_exc hC ?_)
 refine wpAny_bind (wpAny_call_exc_subT (hrest:=hlen) F T hC hn hni fun h' e hm=>wpAny_bind (wpAny_holding (wpAny_point (wpAny_pure ?_))))
 obtain⟨t,ht,_,_⟩:=hm.there
 obtain⟨oe,vs,y1,y2,y3⟩:=c2
 have hne:ea≠e:=fun z=>by rw[z,hm.new]at y1;cases y1
 exact⟨e,t,rfl,hm.keeps _ _ hC,ht,hne,⟨oe,vs,hm.keeps _ _ y1,y2,y3⟩,fun h3 a b=>k h' h3 e t hm hne a b⟩
end
theorem Inv.on{X:Cx}{pins:List (Addr×Obj)}{σ:St}{H:Hp}{s:Shared}{h':Heap}(I:Inv X pins σ H s)(k:∀ b o,s.heap.get? b=some o→b ∉ frs X.stack→h'.get? b=some o)(sl:∀ b∈frs X.stack,∀ o,s.heap.get? b=some o→∃ z,h'.get? b=some { o with slots:=z }):
  Inv X pins σ H { s with heap:=h' }:=by
 have hok:HOk X.prog X.w H h':=Bh I.hok fun b o hb q=>k b o q fun z=>hb (I.stkFree b z)
 have un:Un (frs X.stack) [] H H s.heap h':={
  keep:=fun b o q n hb hx=>k b o q hb
  slot:=fun b o q n hb hx=>sl b hb o q
  free:=fun b o q n hx=>n
  there:=fun b o q hx=>by
   by_cases m:b∈frs X.stack
   · obtain⟨z,e⟩:=sl b m o q
     exact⟨_,e⟩
   · exact⟨_,k b o q m⟩
  tups:=fun b xs q=>q
  frzs:=fun b o u q=>q
  tbls:=fun b ps q=>⟨#[],by simpa using q⟩ }
 exact I.call' (s':={ s with heap:=h' }) rfl un hok I.bare fun b z=>absurd z (by simp)
section
variable {X:Cx}{pins:List (Addr×Obj)}{σ:St}{H H₀:Hp}{s:Shared}{e ea C L:Addr}{E:XK}{A2:Around}
theorem EZ{t:Addr}{h1 h':Heap}{args:List Value}(I:Inv X pins σ H s)(hstk:X.stack=X.env::X.outer)(hfr:X.env.frame=some X.env.locals)(hfA:A2.frames=some X.stack)(hex:X.ex=[])(hm:s.heap.MadeExcOf h1 e (.ref C) args)(he:h'.get? e=some { cls := .ref C,data := .fields #[.ref t,.none,.ref ea,.none,.bool true,.none] })
  (oth:∀ b,b≠e→h'.get? b=h1.get? b) (hl:Aj X E) (hE:E (.ref C) (some 0) H) :
  notedBy (model X.prog X.w) A2 X.env (cameBackBy (model X.prog X.w) X.A X.env X.xe) (.ref e) { s with heap:=h' }:=by
 have old:∀ b,s.heap.get? b=none→X.s₀.heap.get? b=none:=fun b z=>by
  cases y:X.s₀.heap.get? b with
  | none=>rfl
  | some o=>obtain⟨o',e'⟩:=I.base.there b o y (by rw[hex];simp);rw[z]at e';cases e'
 have unt:∀ b,s.heap.get? b=none→H b=none:=fun b z=>by
  cases y:H b with
  | none=>rfl
  | some o=>obtain⟨o',e'⟩:=(I.hok b o y).obj;rw[z]at e';cases e'
 have kp:∀ b o,s.heap.get? b=some o→h'.get? b=some o:=fun b o q=>(oth b fun z=>by rw[z,hm.new]at q;cases q).trans (hm.keeps b o q)
 have ff:s.heap.FunFrames X.base X.stack:=I.stack
 have ff2:h'.FunFrames X.base X.stack:=ff.of_keeps fun b o q _=>⟨o,kp b o q,rfl⟩
 have ne:e ∉ frs X.stack:=fun z=>by
  obtain⟨_,o,q,_⟩:=ff.mem z
  rw[hm.new]at q;cases q
 unfold notedBy noteFrame
 simp only[hfr]
 refine wpAny_bind (wpAny_field he rfl (x := .none) rfl ?_)
 rw[if_neg (show ¬((Value.none != Value.none)=true)from by decide)]
 refine DQ (s:={ s with heap:=h' }) (base:=hideAll h' (e::frs X.stack)) (outer:=X.outer) (a0 := .ref t) (by rw[←hstk];exact hfA) (by rw[←hstk];exact funFrames_hide ff2 fun env he a ea=>by simp[Bg he ea]) hfr he (fun b o z=>of_hideAll _ z) (hideAll_none _ (by simp)) rfl (show 1<6 by decide) rfl fun h6 ⟨x1,x2,x3,x4⟩ x5=>?_
 obtain⟨oe,vs,T,oT,ts,q1,⟨q2,q3⟩,q4,q5,q6,q7,q8,q9,q10⟩:=x3
 have k6:∀ b o,h'.get? b=some o→b≠e→b ∉ frs X.stack→h6.get? b=some o:=fun b o q m1 m2=>x1 b o (hideAll_get _ q (by simp[m1,m2]))
 have sl6:∀ b∈frs X.stack,∀ o,s.heap.get? b=some o→∃ z,h6.get? b=some { o with slots:=z }:=fun b hb o q=>by
  obtain⟨_,o',q',nf⟩:=ff.mem hb
  rw[q]at q';cases q'
  exact x4 b o (kp b o q) nf
 have hT:s.heap.get? T=none:=by
  by_cases m:T∈frs X.stack
  · obtain⟨_,o,w1,nf⟩:=ff.mem m
    obtain⟨z,w2⟩:=sl6 T m o w1
    rw[q8]at w2;cases w2
    exact absurd q9 (nf ts)
  · cases z:s.heap.get? T with
    | none=>rfl
    | some o=>rw[hideAll_get _ (kp T o z) (by simp[q7,m])]at q6;cases q6
 have q12:vs[2]?=some (.ref ea):=by
  obtain⟨oe',vs',y1,y2,y3⟩:=x5 (.ref ea) rfl
  rw[q1]at y1;cases y1
  rw[q4]at y2;cases y2
  exact y3
 unfold cameBackBy
 refine wpAny_bind (wpAny_field q1 q4 q5 ?_)
 rw[if_neg (show ¬((Value.ref T==Value.none)=true)from by simp)]
 have go:wpAny (model X.prog X.w) X.A (setFlight (.ref e) X.env.frame) (fun _ s''=>X.xe (.ref e) s'') X.xe { s with heap:=h6 }:=by
  rw[hfr]
  refine setFl (s:={ s with heap:=h6 }) q1 q4 q5 q8 q9 q10 fun h7 w1 ⟨oT',ts',w2,w3,w4⟩=>?_
  refine hl pins σ H _ e C X.env.locals (.ref ea) hfr (I.on (h':=h7) (fun b o q m=>?_) fun b hb o q=>?_) ⟨old e hm.new,unt e hm.new,oe,vs,T,oT',ts',.ref t,(w1 e (Ne.symm q7)).trans q1,q2,q3,q4,q5,old T hT,unt T hT,q7,w2,w3,w4,q12⟩ hE
  · have nb:b≠e:=fun z=>by rw[z,hm.new]at q;cases q
    exact(w1 b fun z=>by rw[z,hT]at q;cases q).trans (k6 b o (kp b o q) nb m)
  · obtain⟨z,w⟩:=sl6 b hb o q
    exact⟨z,(w1 b fun y=>by rw[y,hT]at q;cases q).trans w⟩
 first
  | exact wpAny_bind (wpAny_pure go)
  | exact go
end
def IV(fr:Bool)(c:FX)(Fs:FA)(hits:Nat→Bool)(m:Nat):FS:=fun ρ=>(Fs ρ).bind fun xs=>(c (sndL xs)).bind fun r=>match r with|.inl d=>some (.rt (nrm (if fr then .nw else .sh) d).1 d)|.inr n=>if hits n&&!wk n then some (.ex m) else none
theorem Xc.w{K:PySem.W.Frag}{mg:Str→Option Value}{C:Addr}(h:Xc K mg 4 C):Xc K mg 8 C:=⟨h.mg,h.ok,h.ve⟩
theorem Lo{c:Value}(h:ctxO c=none):c = .none:=by
 unfold ctxO at h
 split at h
 · rfl
 · cases h
section
variable {X:Cx}{e:Expr}{es:List Expr}{pos pos' tpos hpos np rpos zp cpos p1 p2:Pos}{Fs:FA}{fr:Bool}{k k':Nat}{f:Addr}{fd:FuncData}{ps:List Str}{x y z:Str}{st:Stmt}{p:Pos}{ct:FX}
theorem s_tryR{hits:Nat→Bool}{M Z:Addr}{tx:Str}{j j2:Nat}(m:Nat)(F:FnOk X.prog X.w X.K X.mg X.base (CX1 X.prog X.w) k f fd ps (spx X.K X.mg fr ct))(D:Df X.K X.mg x st ps f fd)(hr:Room k' X.A)(hg:Gl X x)
    (ha:∀ E,PFA (X.wish E) (e::es) Fs) (hgy:Gl X y) (hh:Hit X.K X.mg hits y M) (xc:Xc X.K X.mg m Z) (hgz:Gl X z) (hwk:wk m=true:=by rfl) (hxz:exN m=z:=by rfl) (hle:k≤k':=by decide) (hdb:(x==("__debug__" : Str))=false:=by decide) (hdy:(y==("__debug__" : Str))=false:=by decide) (hdz:(z==("__debug__" : Str))=false:=by decide)
    (hst:starEach (e::es) X.env=(false,eval e X.env)::starEach es X.env:=by rfl) (hpl:(backTo pos (starEach es X.env)).any (·.1)=false:=by rfl) (hstk:X.stack=X.env::X.outer:=by rfl) (hfr:X.env.frame=some X.env.locals:=by rfl) (hex:X.ex=[]:=by rfl) :
    PFS X (.Try [.Return (some (.Call (.Name x p) (e::es) [] pos)) pos'] [.ExceptHandler (some (.Name y np)) none [.Raise (some (.Call (.Name z zp) [.Constant (.str tx) j p1] [] cpos)) (some (.Constant .none j2 p2)) rpos] hpos] [] [] tpos) (IV fr ct Fs hits m):=by
  rintro pins s σ H De I ⟨H₀,ρ,oc,⟨O,rb⟩,e0,kk⟩
  obtain⟨xs,e1,e2⟩:=f8 e0
  obtain⟨r,q,e3⟩:=f8 e2
  refine wpAny_Try_except ?_
  have go:∀ E1:Value→Shared→Prop,(∀ n,r = .inr n→∀ H1 s1 H' ea C cx s',Inv X pins σ H1 s1→X.mg (exN n)=some (.ref C)→Same H H'→(ctxO cx=none∨wk n=true)→At X pins σ H1 s1 H' ea C cx s'→E1 (.ref ea) s') →
      wpAny (model X.prog X.w) X.A (exec (.Return (some (.Call (.Name x p) (e::es) [] pos)) pos') X.env) (SP X pins De) E1 s:=fun E1 hE1=>by
    have I1:Inv (X.wish E1) pins σ H s:=I.wish E1
    refine thn (wpAny_Return_some (thn (IM (X:=X.wish E1) (E:=fun c o H'=>∃ n C,r = .inr n∧c = .ref C∧X.mg (exN n)=some (.ref C)∧Same H H'∧(o=none∨wk n=true)) (Q:=fun v H'=>De.rt v H') F (hr.mono hle) hg D.mg D.fn.kp D.bd (ha E1) hdb hst hpl I1 ⟨ρ,xs,rb.all,e1,fun vs H1 s1 r1=>?_⟩ fun H1 s1 e s' J cx=>?_)
      fun v s1 ⟨u,H1,J,r1,q1⟩=>(show SP (X.wish E1) pins De (.ret v) s1 from⟨u,σ,H1,J,r1,q1⟩))) fun f s1 z=>z.unwish
    · refine⟨_,r,r1.sh,q,?_⟩
      cases r with
      | inl d =>
        cases e3
        refine fun v H' s' r'=>kk v H' (rb.same.trans (i9.trans (s1.trans s'))) ?_
        have z:=EL (X:=X.ky) s1 r'
        by_cases y:(nrm (if fr=true then Fl.nw else Fl.sh) d).1.isFr=true
        · rw[y];exact z.fr rb.below y
        · rw[show(nrm (if fr=true then Fl.nw else Fl.sh) d).1.isFr=false by simpa using y];exact z.sh
      | inr n=>exact fun C H' o hC s' ho=>⟨n,C,rfl,rfl,hC,s1.trans s',ho⟩
    · obtain⟨ea,C,H',c0,rfl,os,bare,un,hok,fly,n,C',er,ec,hC,sm,ho⟩:=cx
      cases ec
      have J:=J.unwish
      exact hE1 n er H1 s1 H' ea C c0 s' J hC sm ho ⟨J.call' (ch:=[]) os un hok bare fun b z=>absurd z (by simp),fly,un⟩
  refine wpAny_execs_cons (thn (go _ fun n er H1 s1 H' ea C c0 s' J hC sm ho a=>CZ J a hstk hfr fun s2 a2=>?_) fun f s1 z=>?_)
  · subst er
    dsimp only at e3
    split at e3
    · rename_i hn
      cases e3
      rw[Bool.and_eq_true,Bool.not_eq_true']at hn
      obtain⟨hn,hw⟩:=hn
      have hc0:c0 = .none:=Lo (ho.resolve_right fun z=>by rw[hw]at z;cases z)
      subst hc0
      obtain⟨E,hE,_,_,hl⟩:=kk Z xc.mg
      refine Gs J a2 hgy hh.gl (hh.hit n C hn hC).1 hdy (codeAny_handlers_suite (W7 J a2 fun s3 a3=>?_))
      have c2:=a3.fly.c2
      obtain⟨m1,m2,oe,vs,T,oT,ts,a0,g1,g2,_⟩:=a3.fly
      have hne:∀{b:Addr} {o:Obj},s1.heap.get? b=some o→ea≠b:=fun{b o} z w=>by rw[←w,m1]at z;cases z
      have It:=a3.inv.trackX (o := .ext fun h=>C2 h ea .none) m2 (by
          cases y:X.s₀.heap.get? ea with
          | none=>rfl
          | some o =>
            obtain⟨o',e'⟩:=J.base.there ea o y (by rw[hex];simp);rw[m1]at e';cases e')
        (by obtain⟨m,⟨o,_,_,ho,_⟩,_⟩:=J.loc;exact hne ho)
        (fun x c e=>by obtain⟨v,o,ho,hd⟩:=J.cell x c e;exact(hne ho).symm)
        (fun p hp=>(hne (J.pin p hp).1).symm)
        ⟨c2,⟨oe,g1⟩,fun h1 h2 ⟨oe',vs',z1,z2,z3⟩ w=>⟨oe',vs',w _ z1,z2,z3⟩⟩
      have sm2:Same H' (upd H' ea (.ext fun h=>C2 h ea .none)):=w8 m2
      have rb2:=rb.mono (sm.trans sm2)
      obtain⟨bm,N,nm,q',bs,hdct,sn,sub,ab,col,dd,k0,k1,k2,k3,k5,y1,⟨mN,y2,y3⟩,y4⟩:=IL It.mod.kin xc.ok
      refine wpAny_execs_cons (GA (nm:=nm) (q:=q') (N:=N) (bs:=bs) (hdct:=hdct) (sn:=sn) (sub:=sub) (ab:=ab) (col:=col) (dd:=dd) (k0:=k0) (k1:=k1) (k2:=k2) (k3:=k3) (k5:=k5) PySem.F.excBase_ValueError (EN y4 (by decide)) rfl rfl y3 (T6 (X:=X.caught ea) (It.caught ea) hgz (by rw[←hxz];exact xc.mg) ⟨rfl,?_⟩ hdz))
      refine Calls.evalArgs_plain (thn ((show PFA (X.caught ea) [.Constant (.str tx) j p1] _ from i0 j0 i3) cpos pins s3 σ _ (fun vs H''=>vs.length=1∧Same (upd H' ea (.ext fun h=>C2 h ea .none)) H'') (It.caught ea) ⟨ρ,_,rb2.all,rfl,fun vs H'' sm r=>⟨r.length,sm⟩⟩) fun us s4 hZ=>?_)
      obtain⟨vs',H4,I4,r4,hl4,sm4⟩:=hZ
      have I4':=I4.uncaught I.ok
      have c24:C2 s4.heap ea .none:=(I4'.hok ea _ (sm4 _ _ p6)).1
      refine⟨rfl,by show us.length≤_;rw[←r4.length,hl4];decide,I4'.bk _ _ y1,EO y2 I4'.bk,y4.keeps I4'.bk,c24,fun h1 h' e2 t hm hne he oth=>?_⟩
      exact EZ I4' hstk hfr I4'.ok.frames hex hm he oth hl (hE H4 (some 0) (rb.same.trans (i9.trans (sm.trans (sm2.trans sm4)))) (.inr hwk))
    · cases e3
  · cases f with
    | next=>exact wpAny_execs_nil (wpAny_execs_nil z)
    | ret v=>exact z
    | brk=>exact z
    | cont=>exact z
end
end L2

end
section
set_option Elab.async false
set_option linter.all false
set_option maxRecDepth 100000
namespace L2
open PySem PySem.Spec PyProof.Rows
section
variable {X:Cx}
def rInsN:V→List V→Hp→VK→Prop:=fun x vs H Q=>∃ l xs y,∃ k:Nat,x = .ref l∧vs=[.int (k:Int),y]∧k≤xs.length∧xs.length<1000∧H l=some (.lst xs)∧Q .non (upd H l (.lst (xs.take k++y::xs.drop k)))
theorem Ov:MtM X "list.insert" rInsN:=by
 intro pins s σ H x vs v us Q I rx rv h
 obtain⟨l,xs,y,k,rfl,rfl,hk,hz,hH,q⟩:=h
 cases rx
 obtain⟨u0,u,rfl,ru0,ru⟩:=rv.two
 obtain⟨t0,rfl⟩:=ru0
 obtain⟨z,its,n,r,hl,e⟩:=I.lstM hH
 have li:its.length=xs.length:=r.length.symm
 have hs:(100000:Nat)≤sizeLine:=by decide
 have fit:Builtin.List.listFitsIndex (k:Int)=true:=by
   unfold Builtin.List.listFitsIndex
   rw[Bool.and_eq_true,decide_eq_true_eq,decide_eq_true_eq]
   omega
 have sz:its.toArray.size≤sizeLine:=by rw[List.size_toArray];omega
 have fit2:¬(!Builtin.List.listFitsIndex (k:Int))=true:=by rw[fit];exact Bool.false_ne_true
 refine call_meets F.slot_list_insert ⟨_,e,rfl⟩ F.entry_list_insert (F.args_list_insert_3 _ _ _) (@AutoSeq1.list_insert_list_int_val_1 l its.toArray n (k:Int) t0 u fit2 sz) ⟨e,?_⟩
 refine⟨.non,_,I.lset (its':=its.take k++u::its.drop k) hH e ?_ (Vals.append (Vals.take k r) (.cons ru (Vals.drop k r))) ?_,rfl,q⟩
 · have:min k its.length=k:=by omega
   simp[show ¬((k:Int)<0) by omega,this]
   exact List.take_of_length_le (by rw[List.length_drop];exact Nat.le_refl _)
 · simp;omega
def Lp(i:Nat)(Fj Fe:FE):FS:=fun ρ=>(J3 ρ i).bind fun o=>(Fj ρ).bind fun y=>(Fe ρ).bind fun z=>(intD y.2).bind fun n=>if z.1.isNw&&(decide (0≤n)&&(decide (n≤o.2.length)&&decide (o.2.length<1000))) then some (.nx (ρ.set i (.ow o.1 (o.2.take n.toNat++z.2::o.2.drop n.toNat)))) else none
variable {x:Str}{j e:Expr}{Fj Fe:FE}{i:Nat}{px apos cpos pos:Pos}
theorem s_insN(hN:X.N[i]?=some x)(hv:Vis X.env.scope x)(hj:PF X j Fj)(he:PF X e Fe)(hd:(x==("__debug__" : Str))=false:=by decide)(hcd:(x==("__classdict__" : Str))=false:=by decide)
   (hbase:attributeBase (.Name x px) "insert" X.env (eval (.Name x px) X.env)=eval (.Name x px) X.env:=by rfl)
   (hfew:((backTo cpos (starEach [j,e] X.env)).all (fun x=>!x.1)&&(backToKw cpos (keywordEach [] X.env)).all (fun x=>x.1.isSome)&&decide ([j,e].length+([]:List Keyword).length+(if([]:List Keyword).isEmpty then 0 else 1)<30))=true:=by rfl)
   (hline:(apos.endLine==cpos.line)=true:=by rfl) (hs:starEach [e] X.env=[(false,eval e X.env)]:=by rfl) (hs2:starEach [j,e] X.env=(false,eval j X.env)::starEach [e] X.env:=by rfl)
   (hsw:swapsWith (.Call (.Attribute (.Name x px) "insert" apos) [j,e] [] cpos) none pos.line X.env=pure false:=by rfl) :
   PFS X (.Expr (.Call (.Attribute (.Name x px) "insert" apos) [j,e] [] cpos) pos) (Lp i Fj Fe):=by
 intro pins s σ H D I ⟨H₀,ρ,oc,⟨O,rb⟩,e0,k⟩
 obtain⟨⟨f,ds⟩,e1,e2⟩:=f8 e0
 obtain⟨y,e3,e4⟩:=f8 e2
 obtain⟨z,e5,e6⟩:=f8 e4
 obtain⟨n,e7,e8⟩:=f8 e6
 split at e8
 · rename_i hc
   cases e8
   simp only[Bool.and_eq_true,decide_eq_true_eq]at hc
   obtain⟨qn,h0,h1,h2⟩:=hc
   obtain⟨m,rfl⟩:=Int.eq_ofNat_of_zero_le h0
   have h1:m≤ds.length:=by omega
   obtain⟨fy,dy⟩:=y
   have ed:dy = .int m:=DP e7
   subst ed
   obtain⟨a,vs,q1,q2,q3,q4⟩:=rb.get (Ak e1)
   refine Y0 (Kj F.plainAttrs_list F.slot_list_insert F.type_list_insert Ov (Bn hN hv hd hcd) (i0 hj (i0 he i3 hs) hs2) hbase hfew hline hs2 (by rw[hs];rfl)) hsw pins s σ H D I ⟨.ref a,q2,.inl ⟨rfl,vs,SqL.of q3⟩,ρ,[(fy,.int m),z],rb.all,by simp[f7,fNil,e3,e5],?_⟩
   rintro us H' sm ⟨y0,r0,eu0,ry0,y,r,eu,ry,er⟩
   have er:r=[]:=er
   subst er;subst eu;subst eu0
   have e00:y0 = .int m:=Rp.int_.mp ry0.sh
   subst e00
   have r1:=Oi rb sm qn ry
   have q4':Rps X.K (bsOf X.ky f) ds (hidL O.adr H') vs:=Rps.mono _ (A7 sm) q4
   refine⟨a,vs,y,m,rfl,rfl,by rw[q4.length];exact h1,by rw[q4.length];exact h2,sm _ _ q3,k _ _ ⟨O,(rb.mono sm).upd (Ak e1) q1 ?_⟩⟩
   exact Rps.append (Rps.take m q4') (Rps.cons_.mpr ⟨y,_,rfl,Rp.anti (by cases f<;>first|exact Same.refl _|exact Same.emp) _ r1,Rps.drop m q4'⟩)
 · cases e8
end
end L2

end
section
set_option Elab.async false
set_option linter.all false
set_option maxRecDepth 100000
namespace L2
open PySem PySem.Spec PyProof.Rows
def BX:Dt→Bool
 | .int _=>true
 | .non=>true
 | _=>false
def AN:FO:=fun x y=>match x,y with
 | .non,.lst ds=>if ds.all BX then some (.nw,.bl (ds.any isN)) else none
 | _,_=>none
theorem Fd{K:PySem.W.Frag}{B H:Hp}:∀{ds:List Dt} {vs:List V},ds.all BX=true→Rps K B ds H vs→vs.all Y2=true∧inV .non vs=ds.any isN
 | [],vs,_,h=>by rw[Rps.nil_.mp h];exact⟨rfl,rfl⟩
 | d::ds,vs,ha,h=>by
  rw[List.all_cons,Bool.and_eq_true]at ha
  obtain⟨v,r,rfl,h1,h2⟩:=Rps.cons_.mp h
  obtain⟨i1,i2⟩:=Fd ha.2 h2
  unfold inV at i2 ⊢
  rw[List.all_cons,List.any_cons,List.any_cons,i1,i2]
  cases d with
  | int i=>rw[Rp.int_.mp h1];exact⟨rfl,rfl⟩
  | non=>rw[Rp.non_.mp h1];exact⟨rfl,rfl⟩
  | _=>cases ha.1
theorem o_inN{X:Cx}:OpF X (compareOp .In) AN:=by
 rintro pins s σ H x y v u Q I r1 r2 ⟨d1,d2,f,d,q1,q2,e,k⟩
 unfold AN at e
 split at e
 · rename_i ds
   split at e
   · rename_i hc
     cases e
     have h1:=Rp.non_.mp q1
     subst h1
     obtain⟨a,vs,rfl,_,h3,h4⟩:=Rp.lst_.mp q2
     obtain⟨i1,i2⟩:=Fd hc h4
     refine Ju pins s σ H _ _ v u Q I r1 r2 ⟨a,vs,rfl,.inl (SqL.of h3),rfl,i1,?_⟩
     rw[if_neg Bool.false_ne_true,i2]
     exact k _ H (Same.refl H) RpF.b_
   · cases e
 · cases e
end L2

end
section
set_option Elab.async false
set_option linter.all false
set_option maxRecDepth 100000
namespace L2
open PySem PySem.Spec PyProof.Rows PySem.W
open Builtin Builtin.Str PySem.StrLaws
theorem Lq(x y:Str):Txt.split x y≠[]:=by
 unfold Txt.split
 split
 · simp
 · split
   · simp
   · unfold partsBetween
     intro h
     have:=congrArg List.length h
     simp at this
theorem Q8(s p:List Nat):∀ ps:List (List Nat),B4 s (p::ps)=p++ps.flatMap fun q=>s++q
 | []=>by simp[B4]
 | q::r=>by
  rw[B4,Q8 s q r,List.flatMap_cons]
  simp
theorem Dn{s:List Nat}{ps:List (List Nat)}{p:List Nat}(h:p∈ps):(∀ c∈p,c∈B4 s ps)∧p.length≤(B4 s ps).length:=by
 cases ps with
 | nil=>cases h
 | cons q ps =>
  rw[Q8]
  rcases List.mem_cons.mp h with rfl|h
  · exact⟨fun c hc=>by simp[hc],by simp⟩
  · have sub:(s++p).Sublist (ps.flatMap fun q=>s++q):=by
     rw[List.flatMap_def]
     exact List.sublist_flatten_of_mem (List.mem_map.mpr ⟨p,h,rfl⟩)
    exact⟨fun c hc=>List.mem_append_right _ (sub.subset (by simp[hc])),by have:=sub.length_le;simp only[List.length_append]at this ⊢;omega⟩
theorem JH{s:List Nat}(hs:s≠[]):∀{ps:List (List Nat)},ps.length≤(B4 s ps).length+1
 | []=>by simp
 | p::ps=>by
  rw[Q8,List.length_cons,List.length_append]
  have:ps.length≤(ps.flatMap fun q=>s++q).length:=by
   induction ps with
   | nil=>simp
   | cons q r ih =>
    have:=List.length_pos_iff.mpr hs
    rw[List.flatMap_cons,List.length_cons,List.length_append,List.length_append]
    omega
  omega
theorem Q9{l s:List Nat}(hs:s≠[])(hl:l.length≤50000):∃ ps,ps≠[]∧r9 (.str (tx l)) (.str (tx s))=some (.nw,.lst (sD ps))∧(∀ p∈ps,p.length≤l.length∧∀ c∈p,c∈l)∧ps.length≤l.length+1∧B4 s ps=l:=by
 have em:(Txt.split (tx l) (tx s)).map (fun x=>tx x.cps.toList)=Txt.split (tx l) (tx s):=by
   conv=>rhs;rw[←List.map_id (Txt.split (tx l) (tx s))]
   exact List.map_congr_left fun x _=>Lb x
 have ej:B4 s ((Txt.split (tx l) (tx s)).map fun x=>x.cps.toList)=l:=by
   refine Lc ?_
   rw[←Ec,List.map_map]
   show Txt.join (tx s) ((Txt.split (tx l) (tx s)).map fun x=>tx x.cps.toList)=tx l
   rw[em]
   unfold Txt.join
   rw[glued_eq_join]
   exact join_split _ _
 have hn:=Lq (tx l) (tx s)
 generalize hp:(Txt.split (tx l) (tx s)).map (fun x=>x.cps.toList)=ps at *
 have e2:Txt.split (tx l) (tx s)=ps.map tx:=by rw[←hp,List.map_map];exact em.symm
 have n0:ps≠[]:=by
   intro z
   rw[z]at e2
   exact hn e2
 have cnt:=JH hs (ps:=ps)
 rw[ej]at cnt
 refine⟨ps,n0,?_,fun p h=>?_,cnt,ej⟩
 · unfold r9 rSS
   simp only[]
   have ok:spOk (tx l) (tx s)=true:=by
    unfold spOk
    have:=List.length_pos_iff.mpr hs
    rw[G5 (by omega),t7,e2,List.length_map]
    simp
    constructor
    · intro z;rw[z]at this;simp at this
    · omega
   rw[ok,if_pos rfl,e2,Eg]
 · have:=Dn (s:=s) h
   rw[ej]at this
   exact⟨this.2,this.1⟩
end L2

end
section
set_option Elab.async false
set_option linter.all false
set_option maxRecDepth 100000
namespace L2
open PySem PySem.Spec PyProof.Rows PySem.W
open Builtin Builtin.Str PySem.StrLaws
theorem Dp{l:List Nat}{lo hi:Option Int}{a b:Nat}(hab:a≤b)(hb:b≤l.length)(he:strSliceIndices lo hi 1 l.length=strSliceIndices (some (a:Int)) (some (b:Int)) 1 l.length):Txt.slice (tx l) lo hi=tx ((l.drop a).take (b-a)):=by
 have e2:(strSliceIndices (some (a:Int)) (some (b:Int)) 1 (tx l).length).filterMap ((tx l).cps[·]?)=(l.drop a).take (b-a):=by
   rw[sliced_plain (tx l) hab (by rw[t7];exact hb),t9]
 have e3:(strSliceIndices (some (a:Int)) (some (b:Int)) 1 (tx l).length).length=b-a:=by
   rw[strSliceIndices_plain hab (by rw[t7];exact hb),List.length_map,List.length_range]
 unfold Txt.slice
 rw[show strSliceIndices lo hi 1 (tx l).length=strSliceIndices (some (a:Int)) (some (b:Int)) 1 (tx l).length by rw[t7];exact he,e3]
 by_cases h:b-a=l.length
 · rw[if_pos (by rw[t7];simpa using h)]
   have ha:a=0:=by omega
   subst ha
   rw[List.drop_zero,List.take_of_length_le (by omega)]
 · rw[if_neg (by rw[t7];simpa using h),e2]
   rfl
theorem BY{l:List Nat}{k:Nat}(h:k≤l.length):Txt.slice (tx l) none (some (k:Int))=tx (l.take k):=by
 have:=Dp (l:=l) (lo:=none) (hi:=some (k:Int)) (a:=0) (b:=k) (Nat.zero_le _) h (by
  simp[strSliceIndices]
  congr 1)
 simpa using this
theorem X1{l:List Nat}(k:Nat):Txt.slice (tx l) (some (k:Int)) none=tx (l.drop k):=by
 have:=Dp (l:=l) (lo:=some (k:Int)) (hi:=none) (a:=min k l.length) (b:=l.length) (by omega) (Nat.le_refl _) (by
   simp only[strSliceIndices]
   have e1:¬((k:Int)<0):=by omega
   have e2:¬(((min k l.length:Nat):Int)<0):=by omega
   have e3:¬(((l.length:Nat):Int)<0):=by omega
   rw[if_neg e1,if_neg e2,if_neg e3]
   congr 1
   · simp only[if_pos (show(1:Int) > 0 by decide)]
     omega
   · simp only[if_pos (show(1:Int) > 0 by decide)]
     omega)
 rw[this]
 congr 1
 rw[List.take_of_length_le (by rw[List.length_drop];exact Nat.le_refl _)]
 by_cases h:k≤l.length
 · rw[Nat.min_eq_left h]
 · rw[Nat.min_eq_right (by omega),List.drop_of_length_le (Nat.le_refl _),List.drop_of_length_le (by omega)]
def digs:List Nat:=[48,49,50,51,52,53,54,55,56,57]
theorem Lr(c:Nat):Txt.find (tx digs) (tx [c])=if 48≤c∧c≤57 then(c:Int)-48 else -1:=by
 have at_:∀ i:Nat,i<10→digs[i]?=some (48+i):=by decide
 unfold Txt.find
 rcases occ_head (tx digs) (tx [c]) 1 (Nat.le_refl _) with⟨e,hn⟩|⟨i,r,e,ha,_⟩
 · rw[e]
   show(-1:Int)=_
   rw[if_neg]
   intro hc
   refine hn (c-48) (Lf (by show c-48+1≤10;omega) ?_)
   have:=at_ (c-48) (by omega)
   have hl:c-48<digs.length:=by show c-48<10;omega
   rw[List.getElem?_eq_getElem hl]at this
   show(digs.drop (c-48)).take 1=[c]
   rw[List.drop_eq_getElem_cons hl,Option.some.inj this,show 48+(c-48)=c by omega]
   rfl
 · rw[e]
   show(i:Int)=_
   have h:=at_tx ha
   have hi:i<10:=by
    by_cases z:i<10
    · exact z
    · rw[List.drop_of_length_le (by show 10≤i;omega)]at h
      cases h
   have hl:i<digs.length:=hi
   have:=at_ i hi
   rw[List.getElem?_eq_getElem hl]at this
   have h:(digs.drop i).take 1=[c]:=h
   rw[List.drop_eq_getElem_cons hl,Option.some.inj this]at h
   have h:48+i=c:=by simpa using h
   rw[if_pos (by omega)]
   omega
theorem Dq(c:Nat):An (.str (tx digs)) (.str (tx [c]))=some (.nw,.int (if 48≤c∧c≤57 then(c:Int)-48 else -1)):=by
 unfold An rSS
 simp only[]
 rw[if_pos trivial,Lr]
end L2

end
section
set_option Elab.async false
set_option linter.all false
set_option maxRecDepth 100000
set_option maxHeartbeats 1000000
namespace L2
open PySem PySem.Spec PySem.W PyProof.Rows
section
variable {X:Cx}{N:List Str}{scope:Scope}{nt:Nat}{js:List Nat}{tg elt iter:Expr}{Fi:FI}{g:Tg}{Fe:FE}{Re:FR}{pos:Pos}
theorem s_asgC{y:Str}{pos' spos:Pos}(hsw:swapsWith (.ListComp elt [⟨tg,iter,[],0⟩] scope pos) (some (.Name y pos')) spos.line X.env=pure true)(S:CompScope X N scope nt js)(hc:X.calm=true)(hi:PFI X tg iter Fi)(hg:∀ cl C fp s H xe,PG ((o3 X N scope cl C fp s H).wish xe) tg (g.low X.K))(hb:g.below nt)
  (he:∀ cl C fp s H xe,PF ((o3 X N scope cl C fp s H).wish xe) elt Fe) (hr:∀ cl C fp s H xe,PFXP ((o3 X N scope cl C fp s H).wish xe) elt Re) (hj:∀ j∈js,j<X.N.length)
  (hfree:∀ x∈scope.names,x.2 ≠ .free) (hstk:X.stack=X.env::X.outer) (hfr:X.env.frame=some X.env.locals) (hex:X.ex=[]) (hs:∀ x,foldedSetIterable iter X.env x=pure x:=by intro _;rfl) :
  PFS X (.Assign [.Name y pos'] (.ListComp elt [⟨tg,iter,[],0⟩] scope pos) spos) (sEx (AM nt js Fi g Fe Re)):=by
 rintro pins s σ H D0 I ⟨H₀,ρ,oc,⟨O,rb⟩,e00,k⟩
 unfold sEx at e00
 cases e0:AM nt js Fi g Fe Re ρ with
 | none=>rw[e0]at e00;cases e00
 | some n =>
 rw[e0]at e00;cases e00
 obtain⟨items,ei,er⟩:=f8 e0
 have rs:=rb.all
 obtain⟨E,hE,hl⟩:∃ E:XK,(∀ C H' o,X.mg (exN n)=some (.ref C)→Same H H'→(o=none∨wk n=true)→E (.ref C) o H')∧Aj X E:=by
  by_cases hC:∃ C,X.mg (exN n)=some (.ref C)
  · obtain⟨C,hC⟩:=hC
    obtain⟨E,a,_,_,b⟩:=k C hC
    refine⟨E,fun C' H' o h sm ho=>?_,b⟩
    rw[hC]at h
    cases h
    exact a H' o (rb.same.trans (i9.trans sm)) ho
  · exact⟨fun _ _ _=>False,fun C _ _ h=>(hC ⟨C,h⟩).elim,fun _ _ _ _ _ _ _ _ _ _ _ z=>z.elim⟩
 have nofr:o0 X.env scope.names []=[]:=by
  have:∀ l:List (Str×NameKind),(∀ x∈l,x.2 ≠ .free)→o0 X.env l []=[]:=fun l=>by
    induction l with
    | nil=>intro _;rfl
    | cons x r ih =>
      intro h
      unfold o0
      rw[if_neg (by simpa using h x (by simp))]
      exact ih fun y hy=>h y (by simp[hy])
  exact this _ hfree
 have rel:relabel scope X.env=scope:=by
  have:∀ l:List (Str×NameKind),(∀ x∈l,x.2 ≠ .free)→(l.map fun(n,k)=>if(k==NameKind.free&&X.env.scope.kind == .function&&X.env.kindOf n==some .cell) then(n,NameKind.cell) else(n,k))=l:=fun l=>by
    induction l with
    | nil=>intro _;rfl
    | cons x r ih =>
      intro h
      have hx:(x.2==NameKind.free)=false:=by simpa using h x (by simp)
      rw[List.map_cons,ih fun y hy=>h y (by simp[hy])]
      obtain⟨a,b⟩:=x
      simp only at hx
      simp[hx]
  unfold relabel
  rw[this _ hfree]
 rw[exec_Assign_Name_used _ _ _ _ hsw]
 refine wpAny_bind (wpAny_standAt (wpAny_bind ?_))
 show wpAny _ X.A (do let _ ←comprehension (.ListComp elt [⟨tg,iter,[],0⟩] scope pos) scope X.env _ (newList []) false (eval iter X.env) (some (assign (.Name y pos') X.env))) _ _ s
 refine wpAny_bind (wpAny_mono (Q:=fun(_:Value) (_:Shared)=>False) ?_ (fun _ _ z=>z.elim) fun _ _ e=>e)
 refine wpAny_comprehension_use (g:=⟨tg,iter,[],0⟩) (gs:=[]) rfl hs hfree S.kind S.loc (thn (hi pins s σ H (fun J H1=>Same H H1∧items.length≤sizeLine∧Walk X.K J items H1) I ⟨ρ,items,rs,ei,fun J H1 sm hsz wk=>⟨sm,hsz,wk⟩⟩) fun xv s1 h1=>thn h1 fun itv s2 h2=>?_)
 obtain⟨it,fp,tn,J,H2,rfl,I2,T,st2,f2,sm2,hsz,wk⟩:=h2
 refine wpAny_newObj_type (hd:=by size_fits) ?_
 have fresh2:H2 s2.heap.objs.size=none:=I2.fresh
 have I3:=I2.lnew (ys:=[]) (its:=[]) (t':=s2.toks) .nil (Nat.zero_le _)
 have ltf:∀ b∈fp,b<s2.heap.objs.size:=fun b hb=>by
  obtain⟨o,e,_⟩:=T.obj 0 _ st2 b hb
  exact Heap.lt_size e
 have f3:∀ b∈fp,FpOk X pins (upd H2 s2.heap.objs.size (.lst [])) b:=fun b hb=>⟨by rw[o6 (Nat.ne_of_lt (ltf b hb))];exact(f2 b hb).1,(f2 b hb).2⟩
 generalize e3:({ s2 with heap:=s2.heap.push { cls := .type "list",dict:=none,data := .seq ([]:List Value).toArray } }:Shared)=s3 at *
 have k3:∀ b o,s2.heap.get? b=some o→s3.heap.get? b=some o:=fun b o e=>by rw[←e3];exact Heap.get?_push_of_some _ e
 have os3:s3.os=s2.os:=by rw[←e3]
 have sz3:s2.heap.objs.size<s3.heap.objs.size:=by rw[←e3];show _<(s2.heap.push _).objs.size;rw[Heap.size_push];exact Nat.lt_succ_self _
 refine Bv fun h4 ns4 k4 nc4=>?_
 have I4:=Bw S I2 I3 (Un.laid k3 (Nat.le_refl _) fresh2) os3 (Nat.le_of_lt sz3) f3 (fun b hb=>by obtain⟨o,e,_⟩:=T.obj 0 _ st2 b hb;exact⟨o,k3 b o e⟩) ns4 k4 nc4
 have st4:tn 0 h4:=T.keep _ _ _ st2 fun b _ o e=>k4 b o (k3 b o e)
 rw[nofr]at I4
 generalize eC:s3.heap.objs.size=C at *
 generalize eD:s2.heap.objs.size=D at *
 generalize ecl:cellsFrom (C+1) scope.names []=cl at *
 refine(show ∀ ce:Env,ce=compEnvC scope cl C X.env→codeAny (model X.prog X.w) X.A (.compStart (.ListComp elt [⟨tg,iter,[],0⟩] scope pos) 0 (.ref it) (.ref D) ce) (fun r s'=>match r with
  | .ok _=>wpAny (model X.prog X.w) X.A (assign (.Name y pos') X.env (.ref D)) (fun _ s''=>∃ m,s''.heap.Ns C m∧∀ h',Heap.SameBut C s''.heap h'→False) X.xe s'
  | .error x=>∃ m,s'.heap.Ns C m∧∀ h',Heap.SameBut C s'.heap h'→wpAny (model X.prog X.w) X.A (PySem.passOn "comprehension.variables-let-go" x ce) (fun(_:Value) (_:Shared)=>False) X.xe { s' with heap:=h' }) { s3 with heap:=h4 }from ?_) _ (by unfold compEnvC;rw[rel];rfl)
 rintro _ rfl
 have I4:=I4.wish (notedBy (model X.prog X.w) X.A (compEnvC scope cl C X.env) (Ln X scope cl C (fun(_:Value) (_:Shared)=>False)))
 have ps:D9 (CX1 X.prog X.w) (cY X N scope cl C fp s2 H2 (fun(_:Value) (_:Shared)=>False)) E:=AL I2 f2 hstk hfr hex (by omega) hl
 have stat:∀{H':Hp},(∀ b∈fp,H' b=none)→∀ b∈fp,FpOk (cY X N scope cl C fp s2 H2 (fun(_:Value) (_:Shared)=>False)) [] H' b:=fun hn b hb=>by
  exact⟨hn b hb,(I4.ok.exf b hb).1,I4.ok.exfs b hb,.inl hb,(I4.ok.exf b hb).2,fun p hp=>absurd (show p∈([]:List (Addr×Obj))from hp) (by simp)⟩
 have loop:∀ s4:Shared,s4={ s3 with heap:=h4 }→codeAny (model X.prog X.w) X.A (.compLoop (.ListComp elt [⟨tg,iter,[],0⟩] scope pos) 0 (.ref it) (.ref D) (compEnvC scope cl C X.env)) (fun r s'=>match r with
  | .ok _=>wpAny (model X.prog X.w) X.A (assign (.Name y pos') X.env (.ref D)) (fun _ s''=>∃ m,s''.heap.Ns C m∧∀ h',Heap.SameBut C s''.heap h'→False) X.xe s'
  | .error x=>∃ m,s'.heap.Ns C m∧∀ h',Heap.SameBut C s'.heap h'→wpAny (model X.prog X.w) X.A (PySem.passOn "comprehension.variables-let-go" x (compEnvC scope cl C X.env)) (fun(_:Value) (_:Shared)=>False) X.xe { s' with heap:=h' }) s4:=by
  rintro s4 rfl
  refine N5 (fun nn s'=>∃ i ys H',Inv (cY X N scope cl C fp s2 H2 (fun(_:Value) (_:Shared)=>False)) [] (sig nt js σ) H' s'∧tn i s'.heap∧(∀ b∈fp,H' b=none)∧nn=items.length-i∧H' D=some (.lst ys)∧Same H2 (hidL [D] H')∧ys.length≤i∧D6 g Fe Re (sigD nt js ρ) (items.drop i)=some n) ?_ (items.length-0)
    ⟨0,[],_,I4,st4,fun b hb=>(f3 b hb).1,rfl,p6,by rw[N9,BJ fresh2];exact Same.refl _,Nat.le_refl _,er⟩
  rintro nn s5 ⟨i,ys,H5,I5,st5,fr5,rfl,d5,sm5,l5,r5⟩
  have hlt:i<items.length:=by
    by_cases z:i<items.length
    · exact z
    · rw[List.drop_of_length_le (by omega)]at r5;cases r5
  obtain⟨x,hx⟩:∃ x,items[i]?=some x:=⟨_,List.getElem?_eq_getElem hlt⟩
  have hdrop:items.drop i=x::items.drop (i+1):=by
    rw[List.drop_eq_getElem_cons hlt]
    rw[List.getElem?_eq_getElem hlt]at hx
    cases hx;rfl
  rw[hdrop]at r5
  unfold D6 at r5
  obtain⟨ρ1,p1,r6⟩:=f8 r5
  obtain⟨go,yl⟩:=(wk [D] H5 sm5 (fun a ha=>by rw[List.mem_singleton.mp ha];exact⟨_,d5⟩)).1 i x hx
  refine wpAny_mono (T.item (cY X N scope cl C fp s2 H2 (fun(_:Value) (_:Shared)=>False)) rfl rfl rfl hc i [] s5 _ H5 _ I5 (stat fr5) st5 go) (fun r s6 hZ=>?_) fun _ _ z=>z
  obtain⟨u,rfl,h6⟩:=hZ
  refine wpAny_mono h6 (fun _ s7 hZ=>?_) fun _ _ z=>z
  obtain⟨xv,H7,I7,r7,y7,st7,fr7⟩:=hZ
  have I7':=I7.pinned (stat fr7) (T.obj _ _ st7)
  obtain⟨s3',k3',r3'⟩:=yl xv H7 y7
  have d7:H7 D=some (.lst ys):=by rw[k3' D (by simp)];exact d5
  have sm7:Same H2 (hidL [D] H7):=sm5.trans s3'
  have gY:PG (cY X N scope cl C fp s2 H2 (fun(_:Value) (_:Shared)=>False)) tg (g.low X.K):=hg _ _ _ _ _ _
  refine wpAny_mono (gY _ s7 _ H7 xv u (fun σ2 H'=>(σ2.length=(sig nt js σ).length∧∀ i,nt≤i→σ2[i]?=(sig nt js σ)[i]?)∧H'=H7∧RepS ⟨X.K,H2⟩ (hidL [D] H7) ρ1 σ2) I7' r7 (Tg.ok hb _ _ _ _ (Tg.low_mono (Tg.sim (Y:=⟨X.K,H2⟩) (Hh:=hidL [D] H7) i9 ((rs.mono (sm2.trans sm7)).sigs (fun j z=>by rw[I.len];exact hj j z) sm7) r3' p1) fun σ4 H4 z=>z))) (fun _ s8 hZ=>?_) fun _ _ z=>z
  obtain⟨σ8,H8,I8,⟨l8,o8⟩,rfl,rs8⟩:=hZ
  refine wpAny_pure ?_
  rw[if_pos rfl]
  cases ef:Fe ρ1 with
  | none =>
    rw[ef]at r6
    have eR:PFXP (cY X N scope cl C fp s2 H2 (fun(_:Value) (_:Shared)=>False)) elt Re:=hr _ _ _ _ _ _
    refine wpAny_mono (eR _ s8 σ8 H8 (fun _ _=>False) I8 ⟨ρ1,n,rs8.mono i9,r6,E,fun C' H' o hC sm ho=>hE C' H' o hC (sm2.trans (sm7.trans (i9.trans sm))) ho,ps⟩) (fun y s9 hZ=>?_) fun _ _ z=>z
    obtain⟨_,_,_,_,z⟩:=hZ
    exact z.elim
  | some xv' =>
    rw[ef]at r6
    have eF:PF (cY X N scope cl C fp s2 H2 (fun(_:Value) (_:Shared)=>False)) elt Fe:=he _ _ _ _ _ _
    have own:OwnL (cY X N scope cl C fp s2 H2 (fun(_:Value) (_:Shared)=>False)) [D] H8:=fun a ha=>by
      rw[List.mem_singleton.mp ha]
      exact⟨⟨ys,d7⟩,fresh2⟩
    refine wpAny_mono (PE.frame eF _ s8 σ8 H8 (fun v H10=>H10 D=some (.lst ys)∧Same H2 (hidL [D] H10)) I8 ⟨[D],own,ρ1,xv'.1,xv'.2,rs8,ef,fun v H6 s6 _ n6=>⟨by rw[J1 (by simp)];exact d7,by rw[B8 n6];exact sm7.trans s6⟩⟩) (fun y s10 hZ=>?_) fun _ _ z=>z
    obtain⟨v,H10,I10,r10,d10,sm10⟩:=hZ
    refine wpAny_mono (T9 (X:=(cY X N scope cl C fp s2 H2 (fun(_:Value) (_:Shared)=>False))) _ s10 σ8 H10 (.ref D) [v] (.ref D) [y] (fun z H'=>H'=upd H10 D (.lst (ys++[v]))) I10 rfl (.cons r10 .nil) ⟨_,ys,v,rfl,rfl,d10,by omega,rfl⟩) (fun _ s11 hZ=>?_) fun _ _ z=>z
    obtain⟨_,H11,I11,_,rfl⟩:=hZ
    refine⟨_,(by omega:items.length-(i+1)<items.length-i),i+1,ys++[v],_,I11.unpinned.weak l8.symm (Bx l8 o8),T.keep _ _ _ st7 fun b hb o e=>(I11.pin (b,o) (List.mem_append_right _ (List.mem_append_right _ (z8 hb e)))).1,fun b hb=>?_,rfl,p6,by rw[N9];exact sm10,by rw[List.length_append];simp;omega,r6⟩
    obtain⟨o,e,_⟩:=T.obj _ _ st7 b hb
    exact(I11.pin (b,o) (List.mem_append_right _ (List.mem_append_right _ (z8 hb e)))).2.1
 exact codeAny_compStart_list (loop _ rfl) (T.self _ _ _ _ _ st4 (loop _ rfl))
end
end L2

end
section
set_option Elab.async false
set_option linter.all false
set_option maxRecDepth 100000
set_option maxHeartbeats 1000000
namespace K37
open PySem L2
noncomputable section
def h_HallError:Nat→Bool:=(fun n=>n==1||n==4||n==8)
def h_NoHall:Nat→Bool:=(fun n=>n==1)
def h_NoText:Nat→Bool:=(fun n=>n==4||n==8)
def X2:FS:=(sRet (vAnd (fIsi "int" (fN 0)) (vNot (fIsi "bool" (fN 0)))))
def C9:FC:=cOf 1 1 true X2
def BZ:FS:=(sSeq (sIf (fOr (fNot (fTru (fIsi "list" (fN 0)))) (i6 (fOp opNe (fBlt bLen (f7 (fN 0) fNil)) (fN 1)))) (sRet (fC (.bl false))) m9)
 (sRet (fBlt bAll (f7 (o7 1 [] (iSeq (fN 0)) (Tg.one 0) fYes (i8 true C9 (f7 (fN 0) fNil))) fNil))))
def R0:FC:=cOf 2 2 true BZ
def J7:FS:=(sRet (vAnd (i8 true C9 (f7 (fN 0) fNil)) (C8 opLe opLe (fC (.int 1)) (fN 0) (fC (.int 6)))))
def u7:FC:=cOf 1 1 true J7
def M7:FS:=(sRet (vAnd (i8 true R0 (f7 (fN 0) (f7 (fN 1) fNil))) (fBlt bAll (f7 (o7 1 [] (iSeq (fN 0)) (Tg.one 0) fYes (fOp opLt (fBlt bAbs (f7 (fN 0) fNil)) (fOp BA (fC (.int 10)) (fC (.int 30))))) fNil))))
def r8:FC:=cOf 2 2 true M7
def E8:FS:=(sIf (fNot (fTru (i8 true u7 (f7 (fN 0) fNil)))) (E4 1) m9)
def E9:FX:=xOf 1 1 true E8
def O8:FS:=(sIf (fNot (fTru (i8 true u7 (f7 (fN 0) fNil)))) O1 m9)
def F0:FC:=cOf 1 1 true O8
def J8:FS:=(sIf (fNot (fTru (i8 true r8 (f7 (fN 0) (f7 (fN 1) fNil))))) (E4 1) m9)
def J9:FX:=xOf 2 2 true J8
def R1:FS:=(sIf (fNot (fTru (i8 true r8 (f7 (fN 0) (f7 (fN 1) fNil))))) O1 m9)
def B5:FC:=cOf 2 2 true R1
def Aq:FS:=(sRet (fTup (f7 (fN 0) (f7 (fBlt bTup (f7 (o7 1 [] (iSeq (fN 1)) (Tg.one 0) fYes (fBlt bTup (f7 (fN 0) fNil))) fNil)) fNil))))
def M8:FC:=cOf 2 2 true Aq
def M9:FS:=(sSeq (O6 E9 (f7 (fN 0) fNil))
 (sSeq (sIf (fOr (fNot (fTru (fIsi "list" (fN 1)))) (i6 (fOp opGt (fBlt bLen (f7 (fN 1) fNil)) (fC (.int 8))))) (E4 1) m9)
 (sSeq (sFor [] (iSeq (fN 1)) (Tg.one 2)
 (O6 J9 (f7 (fN 2) (f7 (fN 0) fNil))))
 (sRet (i8 true M8 (f7 (fN 0) (f7 (fN 1) fNil)))))))
def B6:FX:=xOf 2 3 true M9
def Ar:FS:=(sSeq (AG (i8 true F0 (f7 (fN 0) fNil)))
 (sSeq (sIf (fOr (fNot (fTru (fIsi "list" (fN 1)))) (i6 (fOp opGt (fBlt bLen (f7 (fN 1) fNil)) (fC (.int 8))))) O1 m9)
 (sSeq (sFor [] (iSeq (fN 1)) (Tg.one 2)
 (AG (i8 true B5 (f7 (fN 2) (f7 (fN 0) fNil)))))
 (sRet (i8 true M8 (f7 (fN 0) (f7 (fN 1) fNil)))))))
def U5:FC:=cOf 2 3 true Ar
def L3:FS:=(sSeq (sIf (fNot (i6 (C8 opLe opLe (fC (.int 1)) (fBlt P7 (f7 (fN 0) fNil)) (fC (.int 30))))) (sRet (fC (.bl false))) m9)
 (sRet (fBlt bAll (f7 (o7 1 [] (iStr (fN 0)) (Tg.one 0) fYes (fOp EU (fN 0) (fC (.str "0123456789")))) fNil))))
def B1:FC:=cOf 1 1 true L3
def L4:FS:=(sSeq (sSet [] 1 (fIf (fTru (fOp C1 (fN 0) (fC (.str "-")))) (fSlS (fN 0) (n9 (fC (.int 1))) i5) (fN 0)))
 (sSeq (sIf (fNot (fTru (i8 true B1 (f7 (fN 1) fNil)))) (E4 4) m9)
 (sSeq (sIf (fAnd (fTru (fOp C1 (fN 1) (fC (.str "0")))) (i6 (fOp opNe (fN 0) (fC (.str "0"))))) (E4 4) m9)
 (sRet (fBlt Dj (f7 (fN 0) fNil))))))
def u9:FX:=xOf 1 2 true L4
def D7:FS:=(sSeq (sSet [] 1 (fIf (fTru (fOp C1 (fN 0) (fC (.str "-")))) (fSlS (fN 0) (n9 (fC (.int 1))) i5) (fN 0)))
 (sSeq (sIf (fNot (fTru (i8 true B1 (f7 (fN 1) fNil)))) O1 m9)
 (sSeq (sIf (fAnd (fTru (fOp C1 (fN 1) (fC (.str "0")))) (i6 (fOp opNe (fN 0) (fC (.str "0"))))) O1 m9)
 (sRet (fBlt Dj (f7 (fN 0) fNil))))))
def j6:FC:=cOf 1 2 true D7
def K0:FS:=(sIf (fNot (fTru (fIsi "str" (fN 0)))) (E4 4) m9)
def K1:FX:=xOf 1 1 true K0
def R3:FS:=(sIf (fNot (fTru (fIsi "str" (fN 0)))) O1 m9)
def K2:FC:=cOf 1 1 true R3
def O9:FS:=(sOr (sRet (o7 1 [] (iSeq (fOp r9 (fN 0) (fC (.str " ")))) (Tg.one 0) fYes (i8 true j6 (f7 (fN 0) fNil)))) (sEx (AM 1 [] (iSeq (fOp r9 (fN 0) (fC (.str " ")))) (Tg.one 0) (i8 true j6 (f7 (fN 0) fNil)) (M5 u9 (f7 (fN 0) fNil)))))
def G6:FX:=xOf 1 1 true O9
def G7:FS:=(sRet (o7 1 [] (iSeq (fOp r9 (fN 0) (fC (.str " ")))) (Tg.one 0) fYes (i8 true j6 (f7 (fN 0) fNil))))
def A5:FC:=cOf 1 1 true G7
def Eh:FS:=(sSeq (O6 K1 (f7 (fN 0) fNil))
 (sSeq (sSet [] 1 (fOp r9 (fN 0) (fC (.str " / "))))
 (sSeq (sOr (sSet [] 2 (i8 true j6 (f7 (fAt (fN 1) (fC (.int 0))) fNil))) (sEx (M5 u9 (f7 (fAt (fN 1) (fC (.int 0))) fNil))))
 (sSeq (sOr (sSet [] 3 (o7 1 [] (iSeq (fSl (fN 1) (n9 (fC (.int 1))) i5)) (Tg.one 0) fYes (i8 true A5 (f7 (fN 0) fNil)))) (sEx (AM 1 [] (iSeq (fSl (fN 1) (n9 (fC (.int 1))) i5)) (Tg.one 0) (i8 true A5 (f7 (fN 0) fNil)) (M5 G6 (f7 (fN 0) fNil)))))
 (IV true B6 (f7 (fN 2) (f7 (fN 3) fNil)) h_NoHall 8)))))
def G8:FX:=xOf 1 4 true Eh
def GB:FS:=(sSeq (AG (i8 true K2 (f7 (fN 0) fNil)))
 (sSeq (sSet [] 1 (fOp r9 (fN 0) (fC (.str " / "))))
 (sSeq (sSet [] 2 (i8 true j6 (f7 (fAt (fN 1) (fC (.int 0))) fNil)))
 (sSeq (sSet [] 3 (o7 1 [] (iSeq (fSl (fN 1) (n9 (fC (.int 1))) i5)) (Tg.one 0) fYes (i8 true A5 (f7 (fN 0) fNil))))
 (sRet (i8 true U5 (f7 (fN 2) (f7 (fN 3) fNil))))))))
def GC:FC:=cOf 1 4 true GB
def R4:FS:=(sSeq (sIf (i6 (fOp opLt (fN 1) (fBlt bLen (f7 (fN 0) fNil)))) (sRet (fAt (fN 0) (fN 1))) m9)
 (sSeq (sIf (i6 (fOp opEq (fN 0) (fLst fNil))) (sRet (fC (.int 0))) m9)
 (sRet (fOp v1 (fOp Y8 (fAt (fN 0) (fOp z0 (fN 1) (fBlt bLen (f7 (fN 0) fNil)))) (fC (.int 31))) (fN 1)))))
def p5:FC:=cOf 2 2 true R4
def G9:FS:=(sSeq (sIf (i6 (fOp opEq (fN 1) (fC (.int 2)))) (sSeq (sSet [] 2 (fOp z0 (fN 0) (fOp BA (fC (.int 10)) (fC (.int 30)))))
 (sSeq (sIf (i6 (fOp opEq (fOp z0 (fOp Bz (fN 0) (fOp BA (fC (.int 10)) (fC (.int 30)))) (fC (.int 2))) (fC (.int 1)))) (sRet (fNeg (fN 2))) m9)
 (sRet (fN 2)))) m9)
 (sSeq (sSet [] 3 (fAt (fLst (f7 (fC (.int 9)) (f7 (fC (.int 61)) fNil))) (fN 1)))
 (sSeq (sSet [] 2 (fOp z0 (fN 0) (fN 3)))
 (sSeq (sIf (i6 (fOp opGt (fN 2) (fOp Bz (fN 3) (fC (.int 2))))) (sRet (fOp Ks (fN 2) (fN 3))) m9)
 (sRet (fN 2))))))
def D1:FC:=cOf 2 4 true G9
def Ei:FS:=(sRet (o7 1 [0,1,3] (B2 (fN 2)) (Tg.one 0) fYes (i8 true D1 (f7 (i8 true p5 (f7 (fN 1) (f7 (fOp v1 (fN 2) (fN 0)) fNil))) (f7 (fN 3) fNil)))))
def P0:FC:=cOf 4 4 true Ei
def Dr:FS:=(sSeq (sSet [] 1 (fAt (fLst (f7 (fC (.int 0)) (f7 (fC (.int 0)) (f7 (fC (.int 0)) (f7 (fC (.int 1)) (f7 (fC (.int 2)) fNil)))))) (fOp z0 (i8 true p5 (f7 (fN 0) (f7 (fC (.int 2)) fNil))) (fC (.int 5)))))
 (sSeq (sSet [] 2 (fOp v1 (fC (.int 1)) (fOp z0 (i8 true p5 (f7 (fN 0) (f7 (fC (.int 0)) fNil))) (fC (.int 4)))))
 (sSeq (sSet [] 3 (fOp z0 (i8 true p5 (f7 (fN 0) (f7 (fC (.int 1)) fNil))) (fC (.int 5))))
 (sSeq (sIf (i6 (fOp opEq (fOp z0 (i8 true p5 (f7 (fN 0) (f7 (fC (.int 3)) fNil))) (fC (.int 7))) (fC (.int 6)))) (sSeq (sSet [] 2 (fC (.int 6)))
 (sSeq (sSet [] 3 (fC (.int 8)))
 (sSet [] 1 (fC (.int 0))))) m9)
 (sSeq (sIf (i6 (fOp opEq (fN 1) (fC (.int 2)))) (sSeq (sSet [] 2 (fOp v1 (fC (.int 1)) (fOp z0 (fN 2) (fC (.int 2)))))
 (sSet [] 3 (fOp z0 (fN 3) (fC (.int 4))))) m9)
 (sRet (fTup (f7 (fN 2) (f7 (o7 1 [0,2,1] (B2 (fN 3)) (Tg.one 0) fYes (i8 true P0 (f7 (fN 1) (f7 (fOp v1 (fC (.int 8)) (fOp Y8 (fN 2) (fN 0))) (f7 (fN 2) (f7 (fN 3) fNil)))))) fNil)))))))))
def Au:FC:=cOf 1 4 true Dr
def z6:FS:=(sSeq (sSet [] 1 (fN 0))
 (sSeq (sIf (i6 (fOp opEq (fSlS (fN 0) i5 (n9 (fC (.int 1)))) (fC (.str "-")))) (sSet [] 1 (fSlS (fN 0) (n9 (fC (.int 1))) i5)) m9)
 (sSeq (sIf (fOr (i6 (fOp opEq (fN 1) (fC (.str "")))) (fOr (i6 (fOp opGt (fBlt P7 (f7 (fN 1) fNil)) (fC (.int 30)))) (fAnd (i6 (fOp opEq (fOp V6 (fN 1) (fC (.int 0))) (fC (.str "0")))) (i6 (fOp opNe (fN 0) (fC (.str "0"))))))) (sRet (fC .non)) m9)
 (sSeq (sSet [] 2 (fC (.int 0)))
 (sSeq (sFor [] (iStr (fN 1)) (Tg.one 3)
 (sSeq (sSet [] 4 (fOp An (fC (.str "0123456789")) (fN 3)))
 (sSeq (sIf (i6 (fOp opLt (fN 4) (fC (.int 0)))) (sRet (fC .non)) m9)
 (sSet [] 2 (fOp v1 (fOp Y8 (fC (.int 10)) (fN 2)) (fN 4))))))
 (sSeq (sIf (i6 (fOp opEq (fSlS (fN 0) i5 (n9 (fC (.int 1)))) (fC (.str "-")))) (sRet (fNeg (fN 2))) m9)
 (sRet (fN 2))))))))
def p7:FC:=cOf 1 5 true z6
def R5:FS:=(sSeq (sSet [] 1 (fOp r9 (fN 0) (fC (.str " / "))))
 (sSeq (sSet [] 2 (i8 true p7 (f7 (fAt (fN 1) (fC (.int 0))) fNil)))
 (sSeq (sIf (fOr (i6 (fOp M2 (fN 2) (fC .non))) (fOr (i6 (fOp opLt (fN 2) (fC (.int 1)))) (fOr (i6 (fOp opGt (fN 2) (fC (.int 6)))) (i6 (fOp opGt (fBlt bLen (f7 (fN 1) fNil)) (fC (.int 9))))))) (sRet (fC .non)) m9)
 (sSeq (sOwn 3 (fLst fNil))
 (sSeq (sFor [] (iSeq (fSl (fN 1) (n9 (fC (.int 1))) i5)) (Tg.one 4)
 (sSeq (sSet [] 5 (o7 1 [] (iSeq (fOp r9 (fN 4) (fC (.str " ")))) (Tg.one 0) fYes (i8 true p7 (f7 (fN 0) fNil))))
 (sSeq (sIf (fOr (i6 (fOp AN (fC .non) (fN 5))) (i6 (fOp opNe (fBlt bLen (f7 (fN 5) fNil)) (fN 2)))) (sRet (fC .non)) m9)
 (sWr wApp 3 (fBlt bTup (f7 (fN 5) fNil))))))
 (sRet (fTup (f7 (fN 2) (f7 (fBlt bTup (f7 (fN 3) fNil)) fNil)))))))))
def B7:FC:=cOf 1 6 true R5
def Z5:FS:=(sSeq (sIf (i6 (fOp opEq (fN 0) (fC (.int 6)))) (sRet (fAt (fLst (f7 (fC (.str "00")) (f7 (fC (.str "01")) (f7 (fC (.str "-0")) (f7 (fC (.str "-")) (f7 (fC (.str "")) (f7 (fC (.str "-01")) (f7 (fC (.str "+1")) (f7 (fC (.str "1.0")) (f7 (fC (.str "1 1")) (f7 (fC (.str "x")) (f7 (fC (.str "1_0")) (f7 (fC (.str "10\n")) fNil))))))))))))) (fOp z0 (fN 1) (fC (.int 12))))) m9)
 (sRet (fOp A3 (fC (.str "1")) (fOp Eb (fC (.str "0")) (fOp v1 (fC (.int 30)) (fOp z0 (fN 1) (fC (.int 3))))))))
def Ca:FC:=cOf 2 2 true Z5
def o5:FS:=(sSeq (sSet [] 3 (fOp z0 (fOp Bz (fN 2) (fC (.int 31))) (fBlt bLen (f7 (fN 0) fNil))))
 (sSeq (sOwn 4 (fBlt bLst (f7 (fN 0) fNil)))
 (sSeq (sIf (fOr (i6 (fOp opEq (fN 1) (fC (.int 6)))) (i6 (fOp opEq (fN 1) (fC (.int 7))))) (sPut 4 (fN 3) (i8 true Ca (f7 (fN 1) (f7 (fN 2) fNil)))) m9)
 (sSeq (sIf (i6 (fOp opEq (fN 1) (fC (.int 8)))) (Lp 4 (fN 3) (fC (.str "1"))) m9)
 (sSeq (sIf (i6 (fOp opEq (fN 1) (fC (.int 9)))) (II 4 (fOp v1 (fSl (fN 4) i5 (n9 (fN 3))) (fSl (fN 4) (n9 (fOp v1 (fN 3) (fC (.int 1)))) i5))) m9)
 (sSeq (sIf (i6 (fOp opEq (fN 1) (fC (.int 10)))) (sPut 4 (fC (.int 0)) (fAt (fLst (f7 (fC (.str "0")) (f7 (fC (.str "7")) (f7 (fC (.str "-1")) (f7 (fC (.str "10")) fNil))))) (fOp z0 (fN 2) (fC (.int 4))))) m9)
 (sSeq (sIf (i6 (fOp opEq (fN 1) (fC (.int 11)))) (sSeq (sSet [] 4 (fLst (f7 (fC (.str "1")) fNil)))
 (sFor [] (B2 (fOp v1 (fC (.int 8)) (fOp z0 (fN 2) (fC (.int 2))))) (Tg.one 5)
 (IH 4 (fOp v1 (fN 4) (fLst (f7 (fC (.str "/")) (f7 (fC (.str "5")) fNil))))))) m9)
 (sRet (fN 4)))))))))
def v4:FC:=cOf 3 6 true o5
def v7:FS:=(sSeq (sSet [] 3 (fOp z0 (fN 2) (fOp v1 (fBlt P7 (f7 (fN 0) fNil)) (fC (.int 1)))))
 (sSeq (sIf (i6 (fOp opEq (fN 1) (fC (.int 1)))) (sRet (fOp A3 (fC (.str " ")) (fN 0))) m9)
 (sSeq (sIf (i6 (fOp opEq (fN 1) (fC (.int 2)))) (sRet (fOp A3 (fN 0) (fC (.str " ")))) m9)
 (sSeq (sIf (i6 (fOp opEq (fN 1) (fC (.int 3)))) (sRet (fOp A3 (fOp A3 (fSlS (fN 0) i5 (n9 (fN 3))) (fC (.str " "))) (fSlS (fN 0) (n9 (fN 3)) i5))) m9)
 (sSeq (sIf (i6 (fOp opEq (fN 1) (fC (.int 4)))) (sRet (fOp A3 (fSlS (fN 0) i5 (n9 (fN 3))) (fSlS (fN 0) (n9 (fOp v1 (fN 3) (fC (.int 1)))) i5))) m9)
 (sSeq (sIf (i6 (fOp opEq (fN 1) (fC (.int 5)))) (sRet (fOp A3 (fOp A3 (fSlS (fN 0) i5 (n9 (fN 3))) (fAt (fLst (f7 (fC (.str "+")) (f7 (fC (.str "a")) (f7 (fC (.str ".")) (f7 (fC (.str "/")) (f7 (fC (.str "-")) (f7 (fC (.str "0")) (f7 (fC (.str "_")) (f7 (fC (.str "\n")) fNil))))))))) (fOp z0 (fOp Bz (fN 2) (fC (.int 7))) (fC (.int 8))))) (fSlS (fN 0) (n9 (fN 3)) i5))) m9)
 (sRet (fOp Q7 (fC (.str " ")) (i8 true v4 (f7 (fOp r9 (fN 0) (fC (.str " "))) (f7 (fN 1) (f7 (fN 2) fNil))))))))))))
def P1:FC:=cOf 3 4 true v7
def R6:FS:=(sSeq (sSet [] 1 (fC (.int 0)))
 (sSeq (sTry G8 (f7 (fN 0) fNil) h_NoText (sSet [] 1 (fOp v1 (fN 1) (fC (.int 1)))))
 (sSeq (DU G8 (f7 (fN 0) fNil) h_HallError 2 (sSet [] 1 (fOp v1 (fN 1) (fBlt bInt (f7 (fIsx 2) fNil)))))
 (sRet (fOp opEq (fN 1) (fC (.int 2)))))))
def K3:FC:=cOf 1 3 true R6
def Cb:FS:=(sSeq (sSet [] 1 (fBlt bStr (f7 (fAt (fN 0) (fC (.int 0))) fNil)))
 (sSeq (sFor [] (iSeq (fAt (fN 0) (fC (.int 1)))) (Tg.one 2)
 (sSeq (sSet [] 1 (fOp A3 (fN 1) (fC (.str " /"))))
 (sFor [] (iSeq (fN 2)) (Tg.one 3)
 (sSet [] 1 (fOp A3 (fOp A3 (fN 1) (fC (.str " "))) (fBlt bStr (f7 (fN 3) fNil)))))))
 (sRet (fN 1))))
def Cd:FC:=cOf 1 4 true Cb
def Ls:FS:=(sSeq (sSet [] 1 (fOp z0 (i8 true p5 (f7 (fN 0) (f7 (fC (.int 4)) fNil))) (fC (.int 12))))
 (sSeq (sSet [] 2 (i8 true p5 (f7 (fN 0) (f7 (fC (.int 5)) fNil))))
 (sSeq (sIf (i6 (fOp opEq (fN 1) (fC (.int 0)))) (sRet (i8 true K3 (f7 (fAt (fLst (f7 (fC .non) (f7 (fC (.int 3)) (f7 (fLst (f7 (fC (.str "1")) fNil)) (f7 (fTup (f7 (fC (.str "1")) (f7 (fC (.str "2")) fNil))) (f7 (fC (.bl true)) fNil)))))) (fOp z0 (fN 2) (fC (.int 5)))) fNil))) m9)
 (sSeq (sSet [] 3 (i8 true P1 (f7 (i8 true Cd (f7 (i8 true Au (f7 (fN 0) fNil)) fNil)) (f7 (fN 1) (f7 (fN 2) fNil)))))
 (sSeq (sSet [] 4 (i8 true B7 (f7 (fN 3) fNil)))
 (sSeq (sIf (i6 (fOp M2 (fN 4) (fC .non))) (sRet (i8 true K3 (f7 (fN 3) fNil))) m9)
 (sRet (fOp opEq (i8 true GC (f7 (fN 3) fNil)) (fN 4)))))))))
def IW:FC:=cOf 1 5 true Ls
theorem v8(ns:List Int)(k:Int)(h0:0≤k):p5 [.scr ns,.int k]=some (.int (j9 ns k)):=by
 unfold p5 R4 j9
 by_cases h:k<ns.length
 · have e:atI ns k=some (ns.getD k.toNat 0):=by
     rw[DV h0,List.getElem?_eq_getElem (by omega)];simp[List.getD,List.getElem?_eq_getElem (show k.toNat<ns.length by omega)]
   simp[cOf,h,e]
 · by_cases h2:ns=[]
   · subst h2
     simp[cOf,h,ER [] [],show ¬k<0 by omega]
     rfl
   · have hp:0<ns.length:=List.length_pos_iff.mpr h2
     obtain⟨f1,f2⟩:=o2 k (show(0:Int)<ns.length by omega)
     have e:atI ns (k.fmod ns.length)=some (ns.getD (k.fmod ns.length).toNat 0):=by
      rw[DV f1,List.getElem?_eq_getElem (by omega)];simp[List.getD,List.getElem?_eq_getElem (show(k.fmod ns.length).toNat<ns.length by omega)]
     have e2:opEq (.scr ns) (.lst [])=some (.nw,.bl false):=by have:=ER ns [];rw[decide_eq_false h2]at this;exact this
     simp[cOf,h,h2,e,e2,AI,B0,show ¬((ns.length:Int)=0) by omega]
theorem Ff(c m:Int)(h0:0≤m)(h3:m<3):D1 [.int c,.int m]=some (.int (Dc c m)):=by
 unfold D1 Dc
 have hm:m=0∨m=1∨m=2:=by omega
 have d30:J2 c 1000000000000000000000000000000=true:=by unfold J2;decide
 have d9:J2 9 2=true:=by unfold J2;decide
 have d61:J2 61 2=true:=by unfold J2;decide
 have p30:Y7 10 30=true:=by unfold Y7;decide
 have two:∀(m w v:Int),m≠2→atI [Dt.int 9,Dt.int 61] m=some (.int w)→0<w→J2 w 2=true→w.fdiv 2=v→cOf 2 4 true G9 [.int c,.int m]=some (.int (if v<c.fmod w then c.fmod w-w else c.fmod w)):=fun m w v hm2 ha hw hd hv=>by
   refine u6 (f := .nw) rfl (run (ρ':=[.sh false (.int c),.sh false (.int m),.no,.no]) (by simp[cOf,j7,hm2]) (run (ρ':=[.sh false (.int c),.sh false (.int m),.no,.sh true (.int w)]) (by simp[cOf,ha]) (run (ρ':=[.sh false (.int c),.sh false (.int m),.sh true (.int (c.fmod w)),.sh true (.int w)]) (by simp[cOf,B0,show ¬w=0 by omega]) ?_))) rfl
   by_cases h:v<c.fmod w
   · simp[cOf,hd,hv,h]
   · simp[cOf,hd,hv,h]
 rcases hm with rfl|rfl|rfl
 · exact(two 0 9 4 (by decide) rfl (by decide) d9 rfl).trans (by simp)
 · exact(two 1 61 30 (by decide) rfl (by decide) d61 rfl).trans (by simp)
 · by_cases h:(c.fdiv 1000000000000000000000000000000).fmod 2=1
   · simp[cOf,G9,j7,B0,p30,d30,h]
   · simp[cOf,G9,j7,B0,p30,d30,h]
theorem Lu(ns:List Int)(a:Int)(n:Nat)(m:Int)(ha:0≤a)(hn:n≤1000)(h0:0≤m)(h3:m<3):P0 [.scr ns,.int a,.int n,.int m]=some (L (V4 ns a n m)):=by
 unfold P0 Ei
 have q:o7 1 [0,1,3] (B2 (fN 2)) (Tg.one 0) fYes (i8 true D1 (f7 (i8 true p5 (f7 (fN 1) (f7 (fOp v1 (fN 2) (fN 0)) fNil))) (f7 (fN 3) fNil))) (rho0 4 [.scr ns,.int a,.int n,.int m])=some (.nw,L (V4 ns a n m)):=by
  have:=z5 (nt:=1) (js:=[0,1,3]) (Fi:=B2 (fN 2)) (g:=Tg.one 0) (Fe:=i8 true D1 (f7 (i8 true p5 (f7 (fN 1) (f7 (fOp v1 (fN 2) (fN 0)) fNil))) (f7 (fN 3) fNil))) (ρ:=rho0 4 [.scr ns,.int a,.int n,.int m]) (e:=fun(k:Nat) => .int (0+(k:Int))) (h:=fun(k:Nat) => .int (Dc (j9 ns (a+(k:Int))) m)) (xs:=List.range n)
   (by simp[cOf,B2,intD,Z0,W8,show(n:Int)≤1000000 by omega,show -1000000≤(n:Int) by omega])
   (fun k hk=>by simp[cOf,Tg.put,sigD,AF,v8 ns (a+(k:Int)) (by omega),Ff _ m h0 h3])
  rw[this];simp[L,V4]
 exact u6 rfl (f := .nw) (by unfold sRet;rw[q];rfl) rfl
theorem Ej(ns:List Int)(m:Int)(k n:Nat)(f1 f2 f3:Bool)(h0:0≤m)(h3:m<3)(hk:k≤100)(hn:n≤100):
    (o7 1 [0,2,1] (B2 (fN 3)) (Tg.one 0) fYes (i8 true P0 (f7 (fN 1) (f7 (fOp v1 (fC (.int 8)) (fOp Y8 (fN 2) (fN 0))) (f7 (fN 2) (f7 (fN 3) fNil)))))) [.sh false (.scr ns),.sh f1 (.int m),.sh f2 (.int k),.sh f3 (.int n)] =
      some (.nw,LL ((List.range n).map fun(j:Nat)=>V4 ns (8+(k:Int)*(j:Int)) k m)):=by
  have:=z5 (nt:=1) (js:=[0,2,1]) (Fi:=B2 (fN 3)) (g:=Tg.one 0) (Fe:=i8 true P0 (f7 (fN 1) (f7 (fOp v1 (fC (.int 8)) (fOp Y8 (fN 2) (fN 0))) (f7 (fN 2) (f7 (fN 3) fNil))))) (ρ:=[.sh false (.scr ns),.sh f1 (.int m),.sh f2 (.int k),.sh f3 (.int n)]) (e:=fun(j:Nat) => .int (0+(j:Int))) (h:=fun(j:Nat)=>L (V4 ns (8+(k:Int)*(j:Int)) k m)) (xs:=List.range n)
    (by simp[cOf,B2,intD,Z0,W8,show(n:Int)≤1000000 by omega,show -1000000≤(n:Int) by omega])
    (fun j hj=>by
      have hj:=List.mem_range.mp hj
      have hm:Y6 (k:Int) (j:Int)=true:=AI (by                       have:(j:Int).natAbs=j:=by omega
                                                                    omega)
      have hp:(0:Int)≤8+(k:Int)*(j:Int):=by have:=Int.mul_nonneg (show(0:Int)≤k by omega) (show(0:Int)≤j by omega);omega
      have e:=Lu ns (8+(k:Int)*(j:Int)) k m hp (by omega) h0 h3
      simp[cOf,Tg.put,sigD,AF,hm,e])
  rw[this]
  simp[LL]
theorem GD(ns:List Int):Au [.scr ns]=some (.tup [.int (z7 ns),LL (E7 ns)]):=by
 have c0:=v8 ns 0 (by decide)
 have c1:=v8 ns 1 (by decide)
 have c2:=v8 ns 2 (by decide)
 have c3:=v8 ns 3 (by decide)
 have r0:=o2 (j9 ns 0) (show(0:Int)<4 by decide)
 have r1:=o2 (j9 ns 1) (show(0:Int)<5 by decide)
 have r2:=o2 (j9 ns 2) (show(0:Int)<5 by decide)
 have kl:=BP ns
 have ml:=Dd ns
 have mc:=DW ns
 have tl:=fun f1 f2 f3=>Ej ns (t6 ns) (z7 ns) (L1 ns) f1 f2 f3 (by omega) (by omega) (by omega) (by omega)
 have fin:∀(m k n:Int) (f1 f2 f3:Bool),m=t6 ns→k=z7 ns→n=L1 ns→sRet (fTup (f7 (fN 2) (f7 (o7 1 [0,2,1] (B2 (fN 3)) (Tg.one 0) fYes (i8 true P0 (f7 (fN 1) (f7 (fOp v1 (fC (.int 8)) (fOp Y8 (fN 2) (fN 0))) (f7 (fN 2) (f7 (fN 3) fNil)))))) fNil))) [.sh false (.scr ns),.sh f1 (.int m),.sh f2 (.int k),.sh f3 (.int n)]=some (.rt .nw (.tup [.int (z7 ns),LL (E7 ns)])):=by
   rintro m k n f1 f2 f3 rfl rfl rfl
   simp[sRet,fTup,f7,fNil,fN,CS,Cell.val,Oo,i7,tl f1 f2 f3,M3,Fl.isNw,sndL,E7]
 have lk:∃ m0:Int,atI [Dt.int 0,Dt.int 0,Dt.int 0,Dt.int 1,Dt.int 2] ((j9 ns 2).fmod 5)=some (.int m0)∧(¬(j9 ns 3).fmod 7=6→m0=t6 ns)∧(m0=2↔(j9 ns 2).fmod 5=4):=by
   have hr2:(j9 ns 2).fmod 5=0∨(j9 ns 2).fmod 5=1∨(j9 ns 2).fmod 5=2∨(j9 ns 2).fmod 5=3∨(j9 ns 2).fmod 5=4:=by omega +splitDisjunctions
   rcases hr2 with h2|h2|h2|h2|h2<;>rw[h2]
   · exact⟨0,rfl,fun h=>by simp[t6,h,h2],by decide⟩
   · exact⟨0,rfl,fun h=>by simp[t6,h,h2],by decide⟩
   · exact⟨0,rfl,fun h=>by simp[t6,h,h2],by decide⟩
   · exact⟨1,rfl,fun h=>by simp[t6,h,h2],by decide⟩
   · exact⟨2,rfl,fun h=>by simp[t6,h,h2],by decide⟩
 obtain⟨m0,lk,lm,l2⟩:=lk
 have mo:∀(c:Int) (k:Nat),B0 c ((k+1:Nat):Int)=true:=fun c k=>by unfold B0;exact decide_eq_true (by omega)
 have mo2:=fun c=>mo c 1
 have mo4:=fun c=>mo c 3
 have mo5:=fun c=>mo c 4
 have mo7:=fun c=>mo c 6
 simp only[Nat.reduceAdd,Int.cast_ofNat_Int]at mo2 mo4 mo5 mo7
 have t3:∀(m k n:Int),m=t6 ns→k=z7 ns→n=L1 ns→m≠2→_:=fun m k n a b c d=>run (F:=sIf (i6 (fOp opEq (fN 1) (fC (.int 2)))) (sSeq (sSet [] 2 (fOp v1 (fC (.int 1)) (fOp z0 (fN 2) (fC (.int 2))))) (sSet [] 3 (fOp z0 (fN 3) (fC (.int 4))))) m9) (ρ:=[.sh false (.scr ns),.sh true (.int m),.sh true (.int k),.sh true (.int n)]) (ρ':=[.sh false (.scr ns),.sh true (.int m),.sh true (.int k),.sh true (.int n)]) (by simp[cOf,j7,d]) (fin m k n true true true a b c)
 refine u6 (f := .nw) rfl (run (ρ':=[.sh false (.scr ns),.sh true (.int m0),.no,.no]) (by simp[cOf,c2,lk,mo5]) (run (ρ':=[.sh false (.scr ns),.sh true (.int m0),.sh true (.int (1+(j9 ns 0).fmod 4)),.no]) (by simp[cOf,c0,mo4]) (run (ρ':=[.sh false (.scr ns),.sh true (.int m0),.sh true (.int (1+(j9 ns 0).fmod 4)),.sh true (.int ((j9 ns 1).fmod 5))]) (by simp[cOf,c1,mo5]) ?_))) rfl
 by_cases h3:(j9 ns 3).fmod 7=6
 · exact run (ρ':=[.sh false (.scr ns),.sh true (.int 0),.sh true (.int 6),.sh true (.int 8)]) (by simp[cOf,c3,h3,j7,mo7]) (t3 0 6 8 (by simp[t6,h3]) (by simp[z7,t6,W9,h3]) (by simp[L1,t6,BO,h3]) (by decide))
 · have lm:=lm h3
   refine run (ρ':=[.sh false (.scr ns),.sh true (.int m0),.sh true (.int (1+(j9 ns 0).fmod 4)),.sh true (.int ((j9 ns 1).fmod 5))]) (by simp[cOf,c3,h3,j7,mo7]) ?_
   by_cases h2:m0=2
   · have h4:=l2.mp h2
     refine run (ρ':=[.sh false (.scr ns),.sh true (.int m0),.sh true (.int (1+(1+(j9 ns 0).fmod 4).fmod 2)),.sh true (.int (((j9 ns 1).fmod 5).fmod 4))]) (by simp[cOf,h2,j7,mo2,mo4]) (fin m0 _ _ true true true lm ?_ ?_)
     · have:=o2 (1+(j9 ns 0).fmod 4) (show(0:Int)<2 by decide)
       simp[z7,t6,W9,h3,h4];omega +splitDisjunctions
     · have:=o2 ((j9 ns 1).fmod 5) (show(0:Int)<4 by decide)
       simp[L1,t6,BO,h3,h4];omega +splitDisjunctions
   · have h4:¬(j9 ns 2).fmod 5=4:=fun h=>h2 (l2.mpr h)
     exact t3 m0 _ _ lm (by simp[z7,t6,W9,h3,h4];omega +splitDisjunctions) (by simp[L1,t6,BO,h3,h4];omega +splitDisjunctions) h2
theorem R7(d:Dt):C9 [d]=some (.bl (isWh d)):=by
 unfold C9 X2
 cases d<;>simp[cOf,isWh,Dt.flat,nrm]
theorem U6(a:List Int)(n:Int):R0 [L a,.int n]=some (.bl (decide ((a.length:Int)=n))):=by
 unfold R0 BZ
 have q:o7 1 [] (iSeq (fN 0)) (Tg.one 0) fYes (i8 true C9 (f7 (fN 0) fNil)) [.sh false (L a),.sh false (.int n)]=some (.nw,.lst (a.map fun _ => .bl true)) :=
   z5 (e:=Dt.int) (h:=fun _ => .bl true) (xs:=a) (by simp[cOf]) (fun x _=>by simp[cOf,Tg.put,sigD,R7,isWh])
 by_cases h:(a.length:Int)=n
 · simp[cOf,Z3,h,q,bAll,M6 (fun _=>true) a]
 · simp[cOf,Z3,h]
theorem Z6(n:Nat)(h1:1≤n)(h2:n≤6):u7 [.int n]=some (.bl true):=by
 unfold u7 J7
 have e:=R7 (.int n)
 simp[cOf,e,isWh,C8,show(1:Int)≤n by omega,show(n:Int)≤6 by omega]
theorem CB(n:Nat)(h1:1≤n)(h2:n≤6):F0 [.int n]=some .non:=by
 unfold F0 O8
 simp[cOf,Z6 n h1 h2]
theorem GE(a:List Int)(n:Nat)(hl:a.length=n)(h:∀ x∈a,x.natAbs<10 ^ 30):r8 [L a,.int n]=some (.bl true):=by
 unfold r8 M7
 have e:=U6 a n
 have p30:Y7 10 30=true:=by unfold Y7;decide
 have q:o7 1 [] (iSeq (fN 0)) (Tg.one 0) fYes (fOp opLt (fBlt bAbs (f7 (fN 0) fNil)) (fOp BA (fC (.int 10)) (fC (.int 30)))) [.sh false (L a),.sh false (.int n)]=some (.nw,.lst (a.map fun _ => .bl true)) :=
  z5 (e:=Dt.int) (h:=fun _ => .bl true) (xs:=a) (by simp[cOf]) (fun x hx=>by
   have:=h x hx
   have:(if x<0 then -x else x)<1000000000000000000000000000000:=by split<;>omega
   simp[cOf,Tg.put,sigD,bAbs,p30,this])
 simp[cOf,e,hl,q,bAll,M6 (fun _=>true) a]
theorem Ek(a:List Int)(n:Nat)(hl:a.length=n)(h:∀ x∈a,x.natAbs<10 ^ 30):B5 [L a,.int n]=some .non:=by
 unfold B5 R1
 simp[cOf,GE a n hl h]
theorem GF(k:Int)(rows:List (List Int)):M8 [.int k,LL rows]=some (C6 k rows):=by
 unfold M8 Aq
 have q:o7 1 [] (iSeq (fN 1)) (Tg.one 0) fYes (fBlt bTup (f7 (fN 0) fNil)) [.sh false (.int k),.sh false (LL rows)]=some (.nw,.lst (rows.map T)) :=
  z5 (e:=L) (h:=T) (xs:=rows) (by simp[cOf]) (fun x hx=>by simp[cOf,Tg.put,sigD,bTup,G3])
 simp[cOf,q,bTup,U4]
theorem GG(n:Nat)(bills:List (List Int))(h1:1≤n)(h2:n≤6)(hm:bills.length≤8)(hw:Wide n bills)(hb:∀ r∈bills,∀ x∈r,x.natAbs<10 ^ 30):U5 [.int n,LL bills]=some (C6 n bills):=by
 unfold U5 Ar
 obtain⟨j,q⟩:=Db (g:=Tg.one 2) (F:=AG (i8 true B5 (f7 (fN 2) (f7 (fN 0) fNil)))) (e:=L) (R:=fun(_:Unit) (c:Cell)=>[.sh false (.int n),.sh false (LL bills),c]) (step:=fun _ _=>()) bills () .no
  (fun b x j hx=>⟨.sh false (L x),by simp[cOf,Tg.put,Ek x n (hw x hx) (hb x hx)]⟩)
 have q:forF (Tg.one 2) (AG (i8 true B5 (f7 (fN 2) (f7 (fN 0) fNil)))) (bills.map L) [.sh false (.int n),.sh false (LL bills),.no]=some (.nx [.sh false (.int n),.sh false (LL bills),j]):=q
 simp[cOf,CB n h1 h2,show ¬(8<(bills.length:Int)) by omega,q,GF]
theorem Ds:∀(k:Nat) (rows:List (List Int)),oksN (k+1) (rows.map T)=true
 | k,[]=>rfl
 | k,r::rows=>by rw[List.map_cons,oksN,Ds k rows,Dt.okN,Al];rfl
theorem Fg:∀ rows:List (List Int),pys (rows.map T)=rows.map fun r => .tuple (r.map PyData.int)
 | []=>rfl
 | r::rows=>by rw[List.map_cons,pys,Fg rows,Dt.py,BM];rfl
theorem AO:∀ a:List (List Int),PyData.eqvAll (a.map fun r => .tuple (r.map PyData.int)) (a.map fun r => .tuple (r.map PyData.int))=true
 | []=>by simp[PyData.eqvAll]
 | n::ns=>by
  rw[List.map_cons,PyData.eqvAll,AO ns,PyData.eqv,Q6,decide_eq_true rfl];rfl
theorem JI(n:Int)(J:List (List Int)):opNe (C6 n J) (C6 n J)=some (.nw,.bl false):=by
 have ok:(C6 n J).okN 8=true:=by
  show oksN 7 [.int n,TTu J]=true
  rw[oksN,oksN,oksN]
  show(true&&(oksN 6 (J.map T)&&true))=true
  rw[Ds];rfl
 have eq:eqD (C6 n J) (C6 n J)=true:=by
  unfold eqD
  show PyData.eqv (.tuple (pys [.int n,TTu J])) (.tuple (pys [.int n,TTu J]))=true
  rw[PyData.eqv,pys,pys,pys]
  show PyData.eqvAll [.int n,.tuple (pys (J.map T))] [.int n,.tuple (pys (J.map T))]=true
  rw[Fg]
  simp[PyData.eqvAll,PyData.eqv,AO]
 unfold opNe
 rw[ok,eq]
 rfl
theorem g7(f:Fl)(x:Str):nrm f (.str x)=(.nw,.str x):=rfl
theorem asc0:Asc []:=fun _ h=>nomatch h
theorem k_e:Str.ofString "" = tx []:=rfl
theorem k_m:Str.ofString "-" = tx [45]:=rfl
theorem k_0:Str.ofString "0" = tx [48]:=rfl
theorem k_sp:Str.ofString " " = tx [32]:=rfl
theorem k_sl:Str.ofString " / " = tx [32,47,32]:=rfl
theorem k_dg:Str.ofString "0123456789" = tx [48,49,50,51,52,53,54,55,56,57]:=rfl
theorem GH{n:Int}(h:n<0):nL n=45::D n.natAbs:=if_pos h
theorem GI{n:Int}(h:¬n<0):nL n=D n.natAbs:=if_neg h
theorem asc1(c:Nat)(h:c<128):Asc [c]:=fun d hd=>by rw[List.mem_singleton.mp hd];exact h
theorem Lv(r:List Int):r.map (fun x=>Dt.str (tx (nL x)))=sD (r.map nL):=by unfold sD;rw[List.map_map];rfl
theorem isDig(c:Nat):decide (c∈[48,49,50,51,52,53,54,55,56,57])=decide (48≤c∧c≤57):=by
 congr 1
 simp
 omega
theorem R8{l:List Nat}(hl:l.length≤100000):B1 [.str (tx l)]=some (.bl (decide (1≤l.length∧l.length≤30)&&l.all fun c=>decide (48≤c∧c≤57))):=by
 have hn:=BV hl
 refine u6 (f := .nw) rfl ?_ rfl
 unfold L3
 by_cases h:1≤l.length∧l.length≤30
 · have q:o7 1 [] (iStr (fN 0)) (Tg.one 0) fYes (fOp EU (fN 0) (fC (.str "0123456789"))) [.sh false (.str (tx l))]=some (.nw,.lst (l.map fun c => .bl (decide (48≤c∧c≤57)))) :=
    z5 (e:=fun c => .str (tx [c])) (h:=fun c => .bl (decide (48≤c∧c≤57))) (xs:=l) (by unfold iStr fN;simp[cOf,g7,G5 hl,Lm]) (fun c hc=>by
      have e:=Lj [48,49,50,51,52,53,54,55,56,57] c
      rw[isDig]at e
      simp only[cOf,Tg.put,sigD,k_dg,e,g7]
      simp[cOf,e,g7,k_dg])
   rw[decide_eq_true h,Bool.true_and]
   refine run (ρ':=[.sh false (.str (tx l))]) (by simp[cOf,hn,C8,g7,show(1:Int)≤l.length by omega,show(l.length:Int)≤30 by omega]) ?_
   have bm:=M6 (fun c:Nat=>decide (48≤c∧c≤57)) l
   simp only[Bool.decide_and]at bm q ⊢
   simp[cOf,q,bAll,bm]
 · rw[decide_eq_false h,Bool.false_and]
   have hc:(sIf (fNot (i6 (C8 opLe opLe (fC (.int 1)) (fBlt P7 (f7 (fN 0) fNil)) (fC (.int 30))))) (sRet (fC (.bl false))) m9) [.sh false (.str (tx l))]=some (.rt .nw (.bl false)):=by
    by_cases h1:(1:Int)≤l.length
    · simp[cOf,hn,C8,g7,h1,show ¬(l.length:Int)≤30 by omega]
    · simp[cOf,hn,C8,g7,h1]
   show sSeq _ _ [.sh false (.str (tx l))]=_
   unfold sSeq
   rw[hc]
   rfl
theorem D_figs{m:Nat}(h:m<10 ^ 30):B1 [.str (tx (D m))]=some (.bl true):=by
 have l:=IR 29 m h
 have p:1≤(D m).length:=List.length_pos_iff.mpr (D_ne m)
 rw[R8 (by omega),List.all_eq_true.mpr fun c hc=>decide_eq_true (Dk m c hc),decide_eq_true ⟨p,l⟩]
 rfl
theorem D_45(m:Nat):((D m).head?==some 45)=false:=by
 cases e:D m with
 | nil=>rfl
 | cons c r =>
  have:=Dk m c (by rw[e];simp)
  simp
  omega
theorem D_48(m:Nat):((D m).head?==some 48)=decide (m=0):=by
 by_cases h:m=0
 · subst h
   rw[D_lt (by decide)]
   rfl
 · have:=Lg m h
   simp[h,this]
theorem nL_45(n:Int):((nL n).head?==some 45)=decide (n<0):=by
 by_cases h:n<0
 · rw[GH h];simp[h]
 · rw[GI h,D_45];simp[h]
theorem IX:Asc [48]:=asc1 48 (by decide)
theorem I0{n:Int}(h:n.natAbs<10 ^ 30):j6 [.str (tx (nL n))]=some (.int n):=by
 have i:=Ll h
 have f:=D_figs h
 have ln:=Ap h
 have s0:=J5 (nL n) 45
 rw[nL_45]at s0
 have s1:=J5 (D n.natAbs) 48
 rw[D_48]at s1
 have ne:=Ef (Ed n) IX
 refine u6 (f := .nw) rfl ?_ rfl
 unfold D7
 refine run (ρ':=[.sh false (.str (tx (nL n))),.sh true (.str (tx (D n.natAbs)))]) ?_ ?_
 · by_cases h0:n<0
   · have sl:=Le (nL n)
     rw[GH h0]at sl s0 ln ⊢
     simp[cOf,k_m,s0,fSlS,n9,i5,intD,G5 (show(45::D n.natAbs).length≤100000 by omega),sl,h0,g7]
   · rw[GI h0]at s0 ⊢
     simp[cOf,k_m,s0,h0,g7]
 refine run (ρ':=[.sh false (.str (tx (nL n))),.sh true (.str (tx (D n.natAbs)))]) (by simp[cOf,f,g7]) ?_
 refine run (ρ':=[.sh false (.str (tx (nL n))),.sh true (.str (tx (D n.natAbs)))]) ?_ (by simp[cOf,i,g7])
 by_cases h0:n.natAbs=0
 · have:n=0:=by omega
   subst this
   have e:nL 0=[48]:=by decide
   rw[e]at ne
   simp only[Int.natAbs_zero]at s1 ⊢
   simp[cOf,k_0,s1,e,ne,g7]
 · have:¬n=0:=by omega
   simp[cOf,k_0,s1,this,g7]
theorem El(x:Str):K2 [.str x]=some .non:=by
 unfold K2 R3
 simp[cOf,g7]
theorem cut1{α:Type}(x:α)(xs:List α):cutD (x::xs) (some 1) none=xs:=by
 simp[cutD,HT.sIx]
theorem L5{np nn m:Nat}{fr:Bool}{F:FS}{ds:List Dt}(hl:ds.length=np)(h:F (rho0 nn ds)=some (.ex m)):xOf np nn fr F ds=some (.inr m):=by
 unfold xOf
 rw[if_pos hl,h];rfl
theorem GJ{np nn:Nat}{fr:Bool}{F:FS}{ds:List Dt}{ρ:Rho}(hl:ds.length=np)(h:F (rho0 nn ds)=some (.nx ρ)):xOf np nn fr F ds=some (.inl .non):=by
 unfold xOf
 rw[if_pos hl,h];rfl
theorem R9{F G:FS}{ρ:Rho}{m:Nat}(h:F ρ=some (.ex m)):sSeq F G ρ=some (.ex m):=by
 unfold sSeq
 rw[h];rfl
theorem Ce{c:FX}{Fs:FA}{ρ:Rho}{xs:List Dv}{m:Nat}(h:Fs ρ=some xs)(q:c (sndL xs)=some (.inr m)):O6 c Fs ρ=some (.ex m):=by
 unfold O6
 rw[h,i7,q];rfl
theorem Z7{c:FX}{Fs:FA}{ρ:Rho}{xs:List Dv}{d:Dt}(h:Fs ρ=some xs)(q:c (sndL xs)=some (.inl d)):O6 c Fs ρ=some (.nx ρ):=by
 unfold O6
 rw[h,i7,q];rfl
theorem try_ex{c:FX}{Fs:FA}{ρ ρ':Rho}{xs:List Dv}{m:Nat}{hits:Nat→Bool}{G:FS}(h:Fs ρ=some xs)(q:c (sndL xs)=some (.inr m))(hm:hits m=true)(g:G ρ=some (.nx ρ')):sTry c Fs hits G ρ=some (.nx ρ'):=by
 unfold sTry
 rw[h,i7,q,i7]
 show(if hits m=true then _ else _)=_
 rw[if_pos hm,g];rfl
theorem Lw{c:FX}{Fs:FA}{ρ ρ':Rho}{xs:List Dv}{m i:Nat}{hits:Nat→Bool}{G:FS}(h:Fs ρ=some xs)(q:c (sndL xs)=some (.inr m))(hm:hits m=true)(g:G (ρ.set i .ex)=some (.nx ρ')):DU c Fs hits i G ρ=some (.nx (ρ'.set i .no)):=by
 unfold DU
 rw[h,i7,q,i7]
 show(if hits m=true then _ else _)=_
 rw[if_pos hm,g];rfl
theorem exCall{c:FX}{Fs:FA}{ρ:Rho}{xs:List Dv}{m:Nat}(h:Fs ρ=some xs)(q:c (sndL xs)=some (.inr m)):sEx (M5 c Fs) ρ=some (.ex m):=by
 unfold sEx M5
 rw[h,i7,q];rfl
theorem Lx(n:Int)(J:List (List Int)):opEq (C6 n J) (C6 n J)=some (.nw,.bl true):=by
 have:=JI n J
 unfold opNe at this
 unfold opEq
 split at this
 · rename_i h
   rw[if_pos h]
   have e:(!eqD (C6 n J) (C6 n J))=false:=by injection this with this;injection this with _ this;injection this
   rw[show eqD (C6 n J) (C6 n J)=true by simpa using e]
 · cases this
theorem E5{F G:FS}{ρ:Rho}{f:Fl}{d:Dt}(h:F ρ=some (.rt f d)):sSeq F G ρ=some (.rt f d):=by
 unfold sSeq
 rw[h];rfl
theorem Du{k:Int}(h:k<1∨6<k):u7 [.int k]=some (.bl false):=by
 have e:=R7 (.int k)
 unfold u7 J7
 by_cases h1:1≤k
 · simp[cOf,e,isWh,C8,h1,show ¬k≤6 by omega]
 · simp[cOf,e,isWh,C8,h1]
theorem CC{d:Dt}(h:u7 [d]=some (.bl false)):E9 [d]=some (.inr 1):=by
 have sn:∀ f:Fl,(nrm f d).2=d:=fun _=>rfl
 refine L5 rfl ?_
 unfold E8
 simp[cOf,sn,h,E4]
theorem V7{n:Nat}(h1:1≤n)(h2:n≤6):E9 [.int n]=some (.inl .non):=by
 refine GJ (ρ:=[.sh false (.int n)]) rfl ?_
 unfold E8
 simp[cOf,Z6 n h1 h2]
theorem CD{d:Dt}{n:Nat}{b:Bool}(h:r8 [d,.int n]=some (.bl b)):J9 [d,.int n]=some (if b then .inl .non else .inr 1):=by
 have sn:∀ f:Fl,(nrm f d).2=d:=fun _=>rfl
 cases b with
 | true =>
  refine GJ (ρ:=[.sh false d,.sh false (.int n)]) rfl ?_
  unfold J8
  simp[cOf,sn,h]
 | false =>
  refine L5 rfl ?_
  unfold J8
  simp[cOf,sn,h,E4]
theorem Fh(a:List Int)(n:Nat)(hl:a.length=n):r8 [L a,.int n]=some (.bl (a.all fun x=>decide (x.natAbs<10 ^ 30))):=by
 unfold r8 M7
 have e:=U6 a n
 have p30:Y7 10 30=true:=by unfold Y7;decide
 have q:o7 1 [] (iSeq (fN 0)) (Tg.one 0) fYes (fOp opLt (fBlt bAbs (f7 (fN 0) fNil)) (fOp BA (fC (.int 10)) (fC (.int 30)))) [.sh false (L a),.sh false (.int n)]=some (.nw,.lst (a.map fun x => .bl (decide (x.natAbs<10 ^ 30)))) :=
  z5 (e:=Dt.int) (h:=fun x => .bl (decide (x.natAbs<10 ^ 30))) (xs:=a) (by simp[cOf]) (fun x hx=>by
   have:decide ((if x<0 then -x else x)<1000000000000000000000000000000)=decide (x.natAbs<1000000000000000000000000000000):=by
    congr 1
    exact propext ⟨fun h=>by split at h<;>omega,fun h=>by split<;>omega⟩
   simp[cOf,Tg.put,sigD,bAbs,p30,this])
 simp[cOf,e,hl,bAll]at q ⊢
 simp[cOf,q,bAll]
 have bm:=M6 (fun x:Int=>decide (x.natAbs<1000000000000000000000000000000)) a
 rw[bm]
 simp
theorem AQ{d:Dt}{n:Nat}(h:R0 [d,.int n]=some (.bl false)):r8 [d,.int n]=some (.bl false):=by
 have sn:∀ f:Fl,(nrm f d).2=d:=fun _=>rfl
 unfold r8 M7
 simp[cOf,sn,h]
theorem IY{n:Nat}{c0 c1:Cell}(hc:c0 = .sh false (.int n)):∀{ds:List Dt} {j:Cell},(∀ d∈ds,∃ b,r8 [d,.int n]=some (.bl b))→(∃ d∈ds,r8 [d,.int n]=some (.bl false))→forF (Tg.one 2) (O6 J9 (f7 (fN 2) (f7 (fN 0) fNil))) ds [c0,c1,j]=some (.ex 1)
 | [],j,_,h=>by obtain⟨d,hd,_⟩:=h;cases hd
 | d::ds,j,ha,h=>by
  subst hc
  obtain⟨b,hb⟩:=ha d (by simp)
  have e:=CD hb
  have pt:Tg.put (Tg.one 2) d [.sh false (.int n),c1,j]=some [.sh false (.int n),c1,.sh false d]:=rfl
  rw[A8,pt,i7]
  cases b with
  | false=>rw[Ce (xs:=[nrm .sh d,nrm .sh (.int n)]) rfl e];rfl
  | true =>
   rw[Z7 (xs:=[nrm .sh d,nrm .sh (.int n)]) rfl e]
   refine IY rfl (fun x hx=>ha x (by simp[hx])) ?_
   obtain⟨x,hx,q⟩:=h
   rcases List.mem_cons.mp hx with rfl|hx
   · rw[hb]at q;cases q
   · exact⟨x,hx,q⟩
theorem Cf{k b:Dt}(h:u7 [k]=some (.bl false)):B6 [k,b]=some (.inr 1):=by
 refine L5 rfl ?_
 unfold M9
 exact R9 (Ce (xs:=[nrm .sh k]) rfl (CC h))
theorem JJ{n:Nat}{ds:List Dt}(h1:1≤n)(h2:n≤6)(h:8<ds.length):B6 [.int n,.lst ds]=some (.inr 1):=by
 refine L5 rfl ?_
 unfold M9
 refine run (Z7 (xs:=[nrm .sh (.int n)]) rfl (V7 h1 h2)) ?_
 refine R9 ?_
 simp[cOf,E4,show(8:Int)<ds.length by omega]
theorem JK{n:Nat}{ds:List Dt}(h1:1≤n)(h2:n≤6)(h8:ds.length≤8)(ha:∀ d∈ds,∃ b,r8 [d,.int n]=some (.bl b))(h:∃ d∈ds,r8 [d,.int n]=some (.bl false)):B6 [.int n,.lst ds]=some (.inr 1):=by
 refine L5 rfl ?_
 unfold M9
 refine run (Z7 (xs:=[nrm .sh (.int n)]) rfl (V7 h1 h2)) ?_
 refine run (ρ':=[.sh false (.int n),.sh false (.lst ds),.no]) (by simp[cOf,show ¬(8:Int)<ds.length by omega]) ?_
 refine R9 ?_
 have q:=IY (n:=n) (c0 := .sh false (.int n)) (c1 := .sh false (.lst ds)) (j := .no) rfl ha h
 simp[cOf,q]
theorem Fm{F G:FS}{ρ:Rho}(h:F ρ=none):sSeq F G ρ=none:=by unfold sSeq;rw[h];rfl
theorem Fn{np n:Nat}{fr:Bool}{F:FS}{ds:List Dt}(h:F (rho0 n ds)=none):cOf np n fr F ds=none:=by
 unfold cOf
 rw[h]
 split<;>rfl
theorem P8{w:List Nat}(ha:Asc w)(hl:w.length≤5000)(h:∀ n:Int,n.natAbs<10 ^ 30→w≠nL n):u9 [.str (tx w)]=some (.inr 4)∧j6 [.str (tx w)]=none:=by
 have s0:=J5 w 45
 obtain⟨s,hs,st⟩:∃ s:List Nat,(w=s∨w=45::s)∧sSet [] 1 (fIf (fTru (fOp C1 (fN 0) (fC (.str "-")))) (fSlS (fN 0) (n9 (fC (.int 1))) i5) (fN 0)) [.sh false (.str (tx w)),.no]=some (.nx [.sh false (.str (tx w)),.sh true (.str (tx s))]):=by
   by_cases h0:w.head?=some 45
   · obtain⟨s,rfl⟩:∃ s,w=45::s:=by
      cases w with
      | nil=>cases h0
      | cons c r=>exact⟨r,by simp at h0;rw[h0]⟩
     have sl:=Le (45::s)
     refine⟨s,.inr rfl,?_⟩
     simp[cOf,k_m,s0,fSlS,n9,i5,intD,G5 (show(45::s).length≤100000 by omega),sl,g7]
   · have h0:(w.head?==some 45)=false:=by simpa using h0
     rw[h0]at s0
     refine⟨w,.inl rfl,?_⟩
     simp[cOf,k_m,s0,g7]
 have sl:s.length≤5000:=by
   rcases hs with rfl|rfl
   · exact hl
   · rw[List.length_cons]at hl;omega
 have f:=R8 (l:=s) (by omega)
 have s1:=J5 s 48
 have ne:=Ef ha IX
 have two:(decide (1≤s.length∧s.length≤30)&&s.all fun c=>decide (48≤c∧c≤57))=true→(s.head?==some 48)=true∧¬w=[48]:=fun q=>by
   rw[Bool.and_eq_true,decide_eq_true_eq,List.all_eq_true]at q
   by_cases hz:s.head?=some 48
   · refine⟨by simpa using hz,fun hw=>?_⟩
     exact h 0 (by decide) (hw.trans (by decide))
   · obtain⟨n,h1,h2⟩:=EY q.1.1 q.1.2 (fun c hc=>of_decide_eq_true (q.2 c hc)) (fun z=>absurd z hz) hs
     exact absurd h2 (h n h1)
 generalize (decide (1≤s.length∧s.length≤30)&&s.all fun c=>decide (48≤c∧c≤57))=k at *
 constructor
 · refine L5 rfl ?_
   unfold L4
   refine run st ?_
   cases k with
   | false=>exact R9 (by simp[cOf,f,g7,E4])
   | true =>
     obtain⟨a,b⟩:=two rfl
     rw[a]at s1
     refine run (ρ':=[.sh false (.str (tx w)),.sh true (.str (tx s))]) (by simp[cOf,f,g7]) ?_
     exact R9 (by simp[cOf,k_0,s1,ne,b,g7,E4])
 · refine Fn ?_
   unfold D7
   refine run st ?_
   cases k with
   | false=>exact Fm (by simp[cOf,f,g7,O1])
   | true =>
     obtain⟨a,b⟩:=two rfl
     rw[a]at s1
     refine run (ρ':=[.sh false (.str (tx w)),.sh true (.str (tx s))]) (by simp[cOf,f,g7]) ?_
     exact Fm (by simp[cOf,k_0,s1,ne,b,g7,O1])
abbrev RnF:FE:=i8 true j6 (f7 (fN 0) fNil)
abbrev RnR:FR:=M5 u9 (f7 (fN 0) fNil)
theorem IZ{p:List Nat}(ha:Asc p)(hl:p.length≤5000):(∃ n:Int,n.natAbs<10 ^ 30∧p=nL n)∨((∀ n:Int,n.natAbs<10 ^ 30→p≠nL n)∧RnF [.sh false (.str (tx p))]=none∧RnR [.sh false (.str (tx p))]=some 4):=by
 by_cases h:∃ n:Int,n.natAbs<10 ^ 30∧p=nL n
 · exact .inl h
 · have h:∀ n:Int,n.natAbs<10 ^ 30→p≠nL n:=fun n h1 h2=>h ⟨n,h1,h2⟩
   obtain⟨a,b⟩:=P8 ha hl h
   exact .inr ⟨h,by simp[cOf,b,g7],by simp[cOf,M5,a,g7]⟩
theorem Ja:∀{ps:List (List Nat)},(∀ p∈ps,Asc p)→(∀ p∈ps,p.length≤5000)→(∃ p∈ps,∀ n:Int,n.natAbs<10 ^ 30→p≠nL n)→D6 (Tg.one 0) RnF RnR [.no] (sD ps)=some 4∧G2 (Tg.one 0) fYes RnF [.no] (sD ps)=none
 | [],_,_,h=>by obtain⟨p,hp,_⟩:=h;cases hp
 | p::ps,ha,hl,h=>by
  have e:sD (p::ps) = .str (tx p)::sD ps:=rfl
  have pt:Tg.put (Tg.one 0) (.str (tx p)) [.no]=some [.sh false (.str (tx p))]:=rfl
  rw[e,D6,G2,pt,i7,i7]
  rcases IZ (ha p (by simp)) (hl p (by simp)) with⟨n,hn,rfl⟩|⟨_,h1,h2⟩
  · have h:∃ q∈ps,∀ m:Int,m.natAbs<10 ^ 30→q≠nL m:=by
     obtain⟨q,hq,hb⟩:=h
     rcases List.mem_cons.mp hq with rfl|hq
     · exact absurd rfl (hb n hn)
     · exact⟨q,hq,hb⟩
    obtain⟨i1,i2⟩:=Ja (fun q hq=>ha q (by simp[hq])) (fun q hq=>hl q (by simp[hq])) h
    have g:RnF [.sh false (.str (tx (nL n)))]=some (.nw,.int n):=by simp[cOf,I0 hn,g7]
    rw[g,i2]
    exact⟨i1,rfl⟩
  · rw[h1,h2]
    exact⟨rfl,rfl⟩
theorem Em{l:List Nat}{ps:List (List Nat)}(hs:r9 (.str (tx l)) (.str (tx [32]))=some (.nw,.lst (sD ps)))(ha:∀ p∈ps,Asc p)(hl:∀ p∈ps,p.length≤5000)(hx:∃ p∈ps,∀ n:Int,n.natAbs<10 ^ 30→p≠nL n):
   G6 [.str (tx l)]=some (.inr 4)∧A5 [.str (tx l)]=none:=by
 obtain⟨r1,r2⟩:=Ja ha hl hx
 have it:iSeq (fOp r9 (fN 0) (fC (.str " "))) [.sh false (.str (tx l))]=some (sD ps):=by simp[cOf,k_sp,hs,g7]
 have sg:sigD 1 [] [Cell.sh false (.str (tx l))]=[.no]:=rfl
 have cn:o7 1 [] (iSeq (fOp r9 (fN 0) (fC (.str " ")))) (Tg.one 0) fYes (i8 true j6 (f7 (fN 0) fNil)) [.sh false (.str (tx l))]=none:=by
   unfold o7
   rw[it,i7,sg,r2]
   rfl
 constructor
 · refine L5 rfl ?_
   show O9 [.sh false (.str (tx l))]=_
   unfold O9 sOr sRet
   rw[cn]
   show sEx _ _=_
   unfold sEx AM
   rw[it,i7,sg,r1]
   rfl
 · refine Fn ?_
   show G7 [.sh false (.str (tx l))]=_
   unfold G7 sRet
   rw[cn]
   rfl
theorem mul10(j:Int):Y6 10 j=true:=by
 unfold Y6
 rw[show decide ((10:Int).natAbs<2 ^ 64)=true from by decide]
 simp
def valS(a:Int)(s:List Nat):Int:=s.foldl (fun(a:Int) (c:Nat)=>10*a+((c:Int)-48)) a
theorem valS_D:∀ m:Nat,valS 0 (D m)=m:=fun m=>by
 induction m using Nat.strongRecOn with
 | ind m ih =>
  by_cases h:m<10
  · rw[D_lt h]
    simp[valS]
    omega
  · rw[Ao (by omega)]
    have:=ih (m / 10) (by omega)
    unfold valS at this ⊢
    rw[List.foldl_append,this]
    simp
    omega
abbrev NoF:FS:=(sSeq (sSet [] 4 (fOp An (fC (.str "0123456789")) (fN 3)))
 (sSeq (sIf (i6 (fOp opLt (fN 4) (fC (.int 0)))) (sRet (fC .non)) m9)
 (sSet [] 2 (fOp v1 (fOp Y8 (fC (.int 10)) (fN 2)) (fN 4)))))
theorem k_dg':Str.ofString "0123456789" = tx digs:=rfl
theorem Jb(c0 c1 j4:Cell)(v:Int)(c:Nat)(f2:Bool)(j3:Cell)(h:48≤c∧c≤57):(Tg.put (Tg.one 3) (.str (tx [c])) [c0,c1,.sh f2 (.int v),j3,j4]).bind NoF=some (.nx [c0,c1,.sh true (.int (10*v+((c:Int)-48))),.sh false (.str (tx [c])),.sh true (.int ((c:Int)-48))]):=by
 have e:=Dq c
 rw[if_pos h]at e
 have hn:¬((c:Int)-48<0):=by omega
 have m:=mul10 v
 simp[cOf,k_dg',e,g7,hn,m]
theorem no_bad(c0 c1 j4:Cell)(v:Int)(c:Nat)(f2:Bool)(j3:Cell)(h:¬(48≤c∧c≤57)):(Tg.put (Tg.one 3) (.str (tx [c])) [c0,c1,.sh f2 (.int v),j3,j4]).bind NoF=some (.rt .nw .non):=by
 have e:=Dq c
 rw[if_neg h]at e
 simp[cOf,k_dg',e,g7]
theorem Jc(c0 c1:Cell):∀(s:List Nat) (v:Int) (f2:Bool) (j3 j4:Cell),(∀ c∈s,48≤c∧c≤57)→∃ f j j',forF (Tg.one 3) NoF (s.map fun c => .str (tx [c])) [c0,c1,.sh f2 (.int v),j3,j4]=some (.nx [c0,c1,.sh f (.int (valS v s)),j,j'])
 | [],v,f2,j3,j4,_=>⟨f2,j3,j4,rfl⟩
 | c::s,v,f2,j3,j4,h=>by
  obtain⟨f,j,j',q⟩:=Jc c0 c1 s (10*v+((c:Int)-48)) true (.sh false (.str (tx [c]))) (.sh true (.int ((c:Int)-48))) fun x hx=>h x (by simp[hx])
  refine⟨f,j,j',?_⟩
  rw[List.map_cons,A8,Jb c0 c1 j4 v c f2 j3 (h c (by simp))]
  exact q
theorem Fo(c0 c1:Cell):∀(s:List Nat) (v:Int) (f2:Bool) (j3 j4:Cell),(∃ c∈s,¬(48≤c∧c≤57))→forF (Tg.one 3) NoF (s.map fun c => .str (tx [c])) [c0,c1,.sh f2 (.int v),j3,j4]=some (.rt .nw .non)
 | [],v,f2,j3,j4,h=>by obtain⟨c,hc,_⟩:=h;cases hc
 | c::s,v,f2,j3,j4,h=>by
  rw[List.map_cons,A8]
  by_cases hc:48≤c∧c≤57
  · rw[Jb c0 c1 j4 v c f2 j3 hc]
    refine Fo c0 c1 s _ true _ _ ?_
    obtain⟨x,hx,hb⟩:=h
    rcases List.mem_cons.mp hx with rfl|hx
    · exact absurd hc hb
    · exact⟨x,hx,hb⟩
  · rw[no_bad c0 c1 j4 v c f2 j3 hc]
    rfl
theorem asc45:Asc [45]:=asc1 45 (by decide)
theorem Z8{l w:List Nat}(h:Asc l)(k:∀ c∈w,c∈l):Asc w:=fun c hc=>h c (k c hc)
theorem take1(w:List Nat):decide (w.take 1=[45])=(w.head?==some 45):=by
 cases w with
 | nil=>rfl
 | cons c w=>simp;rfl
def n8(w:List Nat):List Nat:=if w.head?=some 45 then w.drop 1 else w
theorem Cg{w:List Nat}(ha:Asc w)(hl:w.length≤5000):(∀ n:Int,n.natAbs<10 ^ 30→w=nL n→p7 [.str (tx w)]=some (.int n))∧((∀ n:Int,n.natAbs<10 ^ 30→w≠nL n)→p7 [.str (tx w)]=some .non):=by
  have ts:Txt.slice (tx w) none (some 1)=tx (w.take 1):=by
    by_cases h:1≤w.length
    · exact BY h
    · have:w=[]:=List.length_eq_zero_iff.mp (by omega)
      subst this
      rfl
  have ds:=X1 (l:=w) 1
  have ds:Txt.slice (tx w) (some 1) none=tx (w.drop 1):=ds
  have ok:=G5 (l:=w) (by omega)
  have e1:=Bi (a:=w.take 1) (b:=[45]) (Z8 ha fun c hc=>List.mem_of_mem_take hc) asc45
  rw[take1]at e1
  have as:Asc (n8 w):=by
    unfold n8
    split
    · exact ha.drop 1
    · exact ha
  have ls:(n8 w).length≤5000:=by
    unfold n8
    split
    · rw[List.length_drop];omega
    · exact hl
  have st:sIf (i6 (fOp opEq (fSlS (fN 0) i5 (n9 (fC (.int 1)))) (fC (.str "-")))) (sSet [] 1 (fSlS (fN 0) (n9 (fC (.int 1))) i5)) m9 [.sh false (.str (tx w)),.sh true (.str (tx w)),.no,.no,.no]=some (.nx [.sh false (.str (tx w)),.sh true (.str (tx (n8 w))),.no,.no,.no]):=by
    unfold n8
    by_cases h:w.head?=some 45
    · have hb:(w.head?==some 45)=true:=by simpa using h
      rw[hb]at e1
      simp[cOf,fSlS,n9,i5,intD,ok,ts,ds,k_m,e1,g7,h]
    · have hb:(w.head?==some 45)=false:=by simpa using h
      rw[hb]at e1
      simp[cOf,fSlS,n9,i5,intD,ok,ts,k_m,e1,g7,h]
  have s0:=Bi as asc0
  have s1:=BV (l:=n8 w) (by omega)
  have s3:=Ef ha IX
  have lw:w=n8 w∨w=45::n8 w:=by
    unfold n8
    split
    · rename_i h
      cases w with
      | nil=>cases h
      | cons c r=>simp at h;subst h;exact .inr rfl
    · exact .inl rfl
  have ch:=Lm (n8 w)
  have oks:=G5 (l:=n8 w) (by omega)
  have hd:∀ c r,n8 w=c::r→V6 (.str (tx (n8 w))) (.int 0)=some (.nw,.str (tx [c])):=fun c r e=>Lk (by omega) (by rw[e];exact KM)
  have cond:∀ c r,n8 w=c::r→(fOr (i6 (fOp opEq (fN 1) (fC (.str "")))) (fOr (i6 (fOp opGt (fBlt P7 (f7 (fN 1) fNil)) (fC (.int 30)))) (fAnd (i6 (fOp opEq (fOp V6 (fN 1) (fC (.int 0))) (fC (.str "0")))) (i6 (fOp opNe (fN 0) (fC (.str "0"))))))) [.sh false (.str (tx w)),.sh true (.str (tx (n8 w))),.no,.no,.no]=some (decide (30<(n8 w).length)||(decide (c=48)&&!decide (w=[48]))):=fun c r e=>by
    have hd':=hd c r e
    have hne:¬n8 w=[]:=by rw[e];simp
    have ac:Asc [c]:=fun x hx=>as x (by rw[e];simp at hx;simp[hx])
    have s2:=Bi ac IX
    by_cases h30:30<(n8 w).length
    · simp[cOf,k_e,s0,hne,s1,g7,show(30:Int)<(n8 w).length by omega,h30]
    · by_cases h48:c=48
      · subst h48
        simp[cOf,k_e,k_0,s0,hne,s1,g7,show ¬(30:Int)<(n8 w).length by omega,h30,hd',s2,s3]
      · simp[cOf,k_e,k_0,s0,hne,s1,g7,show ¬(30:Int)<(n8 w).length by omega,h30,hd',s2,h48]
  have start:∀ r:Option Oc,sSeq (sIf (fOr (i6 (fOp opEq (fN 1) (fC (.str "")))) (fOr (i6 (fOp opGt (fBlt P7 (f7 (fN 1) fNil)) (fC (.int 30)))) (fAnd (i6 (fOp opEq (fOp V6 (fN 1) (fC (.int 0))) (fC (.str "0")))) (i6 (fOp opNe (fN 0) (fC (.str "0"))))))) (sRet (fC .non)) m9)
      (sSeq (sSet [] 2 (fC (.int 0)))
      (sSeq (sFor [] (iStr (fN 1)) (Tg.one 3) NoF)
      (sSeq (sIf (i6 (fOp opEq (fSlS (fN 0) i5 (n9 (fC (.int 1)))) (fC (.str "-")))) (sRet (fNeg (fN 2))) m9)
      (sRet (fN 2))))) [.sh false (.str (tx w)),.sh true (.str (tx (n8 w))),.no,.no,.no]=r→z6 [.sh false (.str (tx w)),.no,.no,.no,.no]=r:=fun r h=>by
    unfold z6
    exact run (ρ':=[.sh false (.str (tx w)),.sh true (.str (tx w)),.no,.no,.no]) (by simp[cOf,g7]) (run st h)
  have it:∀ f2 v,iStr (fN 1) [.sh false (.str (tx w)),.sh true (.str (tx (n8 w))),.sh f2 v,.no,.no]=some ((n8 w).map fun c => .str (tx [c])):=fun f2 v=>by
    unfold iStr
    simp[cOf,g7,oks,ch]
  have go:∀ c r,n8 w=c::r→(decide (30<(n8 w).length)||(decide (c=48)&&!decide (w=[48])))=false→∀ r:Option Oc,(sSeq (sFor [] (iStr (fN 1)) (Tg.one 3) NoF)
      (sSeq (sIf (i6 (fOp opEq (fSlS (fN 0) i5 (n9 (fC (.int 1)))) (fC (.str "-")))) (sRet (fNeg (fN 2))) m9)
      (sRet (fN 2)))) [.sh false (.str (tx w)),.sh true (.str (tx (n8 w))),.sh true (.int 0),.no,.no]=r→z6 [.sh false (.str (tx w)),.no,.no,.no,.no]=r:=fun c r e hc r' h=>by
    refine start r' ?_
    have cd:=cond c r e
    rw[hc]at cd
    refine run (ρ':=[.sh false (.str (tx w)),.sh true (.str (tx (n8 w))),.no,.no,.no]) (by unfold sIf;rw[cd];rfl) ?_
    exact run (ρ':=[.sh false (.str (tx w)),.sh true (.str (tx (n8 w))),.sh true (.int 0),.no,.no]) (by simp[cOf]) h
  have non:(n8 w=[]∨∃ c r,n8 w=c::r∧(decide (30<(n8 w).length)||(decide (c=48)&&!decide (w=[48])))=true)→z6 [.sh false (.str (tx w)),.no,.no,.no,.no]=some (.rt .nw .non):=fun h=>by
    refine start _ (E5 ?_)
    rcases h with h|⟨c,r,e,h⟩
    · have s0':=Bi asc0 asc0
      simp[cOf,k_e,s0',h,g7]
    · have cd:=cond c r e
      rw[h]at cd
      unfold sIf
      rw[cd]
      rfl
  constructor
  · rintro n hn rfl
    have tn:n8 (nL n)=D n.natAbs:=by
      unfold n8
      by_cases h:n<0
      · rw[GH h];rfl
      · rw[GI h,if_neg (by have:=D_45 n.natAbs;simpa using this)]
    refine u6 (f := .nw) rfl ?_ rfl
    obtain⟨c,r,e⟩:∃ c r,n8 (nL n)=c::r:=by
      rw[tn]
      cases q:D n.natAbs with
      | nil=>exact absurd q (D_ne _)
      | cons c r=>exact⟨c,r,rfl⟩
    have l30:=IR 29 n.natAbs hn
    refine go c r e ?_ _ ?_
    · rw[decide_eq_false (by rw[tn];omega),Bool.false_or]
      by_cases h48:c=48
      · have:n=0:=by
          by_cases z:n.natAbs=0
          · omega
          · have:=Lg n.natAbs z
            rw[←tn,e,h48]at this
            exact absurd rfl this
        subst this
        rw[h48]
        decide
      · rw[decide_eq_false h48];rfl
    · obtain⟨f,j,j',q⟩:=Jc (.sh false (.str (tx (nL n)))) (.sh true (.str (tx (n8 (nL n))))) (n8 (nL n)) 0 true .no .no (by rw[tn];exact Dk _)
      have v:valS 0 (n8 (nL n))=(n.natAbs:Int):=by rw[tn];exact valS_D _
      rw[v]at q
      refine run (ρ':=[.sh false (.str (tx (nL n))),.sh true (.str (tx (n8 (nL n)))),.sh f (.int n.natAbs),j,j']) (by rw[x75,x58];show(iStr (fN 1) [.sh false (.str (tx (nL n))),.sh true (.str (tx (n8 (nL n)))),.sh true (.int 0),.no,.no]).bind _=_;rw[it];exact q) ?_
      rw[nL_45]at e1
      by_cases h:n<0
      · refine E5 ?_
        simp[cOf,fSlS,n9,i5,intD,ok,ts,k_m,e1,g7,h]
        omega
      · refine run (ρ':=[.sh false (.str (tx (nL n))),.sh true (.str (tx (n8 (nL n)))),.sh f (.int n.natAbs),j,j']) (by simp[cOf,fSlS,n9,i5,intD,ok,ts,k_m,e1,g7,h]) ?_
        simp[cOf]
        omega
  · intro hb
    refine u6 (f := .nw) rfl ?_ rfl
    cases e:n8 w with
    | nil=>exact non (.inl e)
    | cons c r =>
      cases hc:(decide (30<(n8 w).length)||(decide (c=48)&&!decide (w=[48]))) with
      | true=>exact non (.inr ⟨c,r,e,hc⟩)
      | false =>
        refine go c r e hc _ ?_
        rw[Bool.or_eq_false_iff,Bool.and_eq_false_iff]at hc
        have h30:(n8 w).length≤30:=by have:=of_decide_eq_false hc.1;omega
        have hx:∃ c∈n8 w,¬(48≤c∧c≤57):=by
          refine Classical.byContradiction fun hx=>?_
          have hx:∀ c∈n8 w,48≤c∧c≤57:=fun c hc=>Classical.byContradiction fun z=>hx ⟨c,hc,z⟩
          obtain⟨n,n1,n2⟩:=EY (w:=w) (s:=n8 w) (by rw[e];simp) h30 hx (fun z=>by
            rw[e]at z
            have z:c=48:=by simpa using z
            rcases hc.2 with y|y
            · exact absurd z (of_decide_eq_false y)
            · simpa using y) lw
          exact hb n n1 n2
        have q:=Fo (.sh false (.str (tx w))) (.sh true (.str (tx (n8 w)))) (n8 w) 0 true .no .no hx
        exact E5 (by rw[x75,x58];show(iStr (fN 1) [.sh false (.str (tx w)),.sh true (.str (tx (n8 w))),.sh true (.int 0),.no,.no]).bind _=_;rw[it];exact q)
theorem En(x:Str):K1 [.str x]=some (.inl .non):=by
 refine GJ (ρ:=[.sh false (.str x)]) rfl ?_
 unfold K0
 simp[cOf,g7]
theorem nL_inj{a b:Int}(ha:a.natAbs<10 ^ 30)(hb:b.natAbs<10 ^ 30)(h:nL a=nL b):a=b:=by
 have e1:=X0 ha
 rw[h,X0 hb]at e1
 exact(Option.some.inj e1).symm
def PV(p:List Nat):Option (List Int)→Prop
 | some r=>r≠[]∧(∀ x∈r,x.natAbs<10 ^ 30)∧r9 (.str (tx p)) (.str (tx [32]))=some (.nw,.lst (sD (r.map nL)))
 | none=>∃ ws,r9 (.str (tx p)) (.str (tx [32]))=some (.nw,.lst (sD ws))∧(∀ w∈ws,Asc w)∧(∀ w∈ws,w.length≤5000)∧∃ w∈ws,∀ n:Int,n.natAbs<10 ^ 30→w≠nL n
theorem Ch:∀{ws:List (List Nat)},(∀ w∈ws,∃ n:Int,n.natAbs<10 ^ 30∧w=nL n)→∃ r:List Int,ws=r.map nL∧∀ x∈r,x.natAbs<10 ^ 30
 | [],_=>⟨[],rfl,fun _ h=>nomatch h⟩
 | w::ws,h=>by
  obtain⟨n,hn,rfl⟩:=h w (by simp)
  obtain⟨r,rfl,hr⟩:=Ch (ws:=ws) fun x hx=>h x (by simp[hx])
  exact⟨n::r,rfl,fun x hx=>by rcases List.mem_cons.mp hx with rfl|hx;(· exact hn);(· exact hr x hx)⟩
theorem pv_one{p:List Nat}(ha:Asc p)(hl:p.length≤4000):∃ o,PV p o:=by
 obtain⟨ws,n0,sp,hw,_,_⟩:=Q9 (l:=p) (s:=[32]) (by simp) (by omega)
 by_cases h:∀ w∈ws,∃ n:Int,n.natAbs<10 ^ 30∧w=nL n
 · obtain⟨r,rfl,hr⟩:=Ch h
   exact⟨some r,by simpa using n0,hr,sp⟩
 · refine⟨none,ws,sp,fun w hw'=>Z8 ha (hw w hw').2,fun w hw'=>by have:=(hw w hw').1;omega,?_⟩
   refine Classical.byContradiction fun z=>h fun w hw'=>Classical.byContradiction fun y=>z ⟨w,hw',fun n h1 h2=>y ⟨n,h1,h2⟩⟩
theorem Ly:∀{ps:List (List Nat)},(∀ p∈ps,Asc p)→(∀ p∈ps,p.length≤4000)→∃ vs:List (List Nat×Option (List Int)),vs.map (·.1)=ps∧∀ v∈vs,PV v.1 v.2
 | [],_,_=>⟨[],rfl,fun _ h=>nomatch h⟩
 | p::ps,ha,hl=>by
  obtain⟨o,ho⟩:=pv_one (ha p (by simp)) (hl p (by simp))
  obtain⟨vs,e,hv⟩:=Ly (ps:=ps) (fun q hq=>ha q (by simp[hq])) (fun q hq=>hl q (by simp[hq]))
  exact⟨(p,o)::vs,by rw[List.map_cons,e],fun v hv'=>by rcases List.mem_cons.mp hv' with rfl|hv';(· exact ho);(· exact hv v hv')⟩
theorem AR{p:List Nat}{r:List Int}(h:PV p (some r)):A5 [.str (tx p)]=some (L r):=by
 obtain⟨_,hb,sp⟩:=h
 have q:o7 1 [] (iSeq (fOp r9 (fN 0) (fC (.str " ")))) (Tg.one 0) fYes (i8 true j6 (f7 (fN 0) fNil)) [.sh false (.str (tx p))]=some (.nw,.lst (r.map Dt.int)) :=
  z5 (e:=fun n => .str (tx (nL n))) (h:=Dt.int) (xs:=r) (by simp[cOf,k_sp,sp,g7,←Lv]) (fun n hn=>by simp[cOf,Tg.put,sigD,I0 (hb n hn),g7])
 refine u6 (f := .nw) rfl ?_ rfl
 unfold G7
 simp[cOf,q]
theorem Fp{p:List Nat}(h:PV p none):G6 [.str (tx p)]=some (.inr 4)∧A5 [.str (tx p)]=none:=by
 obtain⟨ws,sp,ha,hl,hx⟩:=h
 exact Em sp ha hl hx
abbrev RrF:FE:=i8 true A5 (f7 (fN 0) fNil)
abbrev RrR:FR:=M5 G6 (f7 (fN 0) fNil)
theorem Fq:∀{vs:List (List Nat×Option (List Int))},(∀ v∈vs,PV v.1 v.2)→(∃ v∈vs,v.2=none)→D6 (Tg.one 0) RrF RrR [.no] (sD (vs.map (·.1)))=some 4∧G2 (Tg.one 0) fYes RrF [.no] (sD (vs.map (·.1)))=none
 | [],_,h=>by obtain⟨p,hp,_⟩:=h;cases hp
 | (p,o)::vs,ha,h=>by
  have e:sD (((p,o)::vs).map (·.1)) = .str (tx p)::sD (vs.map (·.1)):=rfl
  have pt:Tg.put (Tg.one 0) (.str (tx p)) [.no]=some [.sh false (.str (tx p))]:=rfl
  have hp:=ha (p,o) (by simp)
  rw[e,D6,G2,pt,i7,i7]
  cases o with
  | some r =>
   have h:∃ v∈vs,v.2=none:=by
    obtain⟨q,hq,hb⟩:=h
    rcases List.mem_cons.mp hq with rfl|hq
    · cases hb
    · exact⟨q,hq,hb⟩
   obtain⟨i1,i2⟩:=Fq (vs:=vs) (fun q hq=>ha q (by simp[hq])) h
   have g:RrF [.sh false (.str (tx p))]=some (.nw,L r):=by simp[cOf,AR hp,g7]
   rw[g,i2]
   exact⟨i1,rfl⟩
  | none =>
   obtain⟨a,b⟩:=Fp hp
   have g1:RrF [.sh false (.str (tx p))]=none:=by simp[cOf,b,g7]
   have g2:RrR [.sh false (.str (tx p))]=some 4:=by simp[cOf,M5,a,g7]
   rw[g1,g2]
   exact⟨rfl,rfl⟩
theorem Ft:∀{vs:List (List Nat×Option (List Int))},(∀ v∈vs,PV v.1 v.2)→(∀ v∈vs,v.2≠none)→∃ rs:List (List Int),vs.map (·.2)=rs.map some∧G2 (Tg.one 0) fYes RrF [.no] (sD (vs.map (·.1)))=some (rs.map fun r=>(.nw,L r))∧(∀ r∈rs,∀ x∈r,x.natAbs<10 ^ 30)
 | [],_,_=>⟨[],rfl,rfl,fun _ h=>nomatch h⟩
 | (p,o)::vs,ha,h=>by
  obtain⟨rs,e1,e2,e3⟩:=Ft (vs:=vs) (fun q hq=>ha q (by simp[hq])) (fun q hq=>h q (by simp[hq]))
  have hp:=ha (p,o) (by simp)
  cases o with
  | none=>exact absurd rfl (h (p,none) (by simp))
  | some r =>
   refine⟨r::rs,by rw[List.map_cons,e1];rfl,?_,fun x hx=>?_⟩
   · have e:sD (((p,some r)::vs).map (·.1)) = .str (tx p)::sD (vs.map (·.1)):=rfl
     have pt:Tg.put (Tg.one 0) (.str (tx p)) [.no]=some [.sh false (.str (tx p))]:=rfl
     have g:RrF [.sh false (.str (tx p))]=some (.nw,L r):=by simp[cOf,AR hp,g7]
     rw[e,G2,pt,i7,g,e2]
     rfl
   · rcases List.mem_cons.mp hx with rfl|hx
     · exact hp.2.1
     · exact e3 x hx
open Classical in
def numD(w:List Nat):Dt:=if h:∃ n:Int,n.natAbs<10 ^ 30∧w=nL n then .int h.choose else .non
theorem S0{w:List Nat}(ha:Asc w)(hl:w.length≤5000):p7 [.str (tx w)]=some (numD w):=by
 obtain⟨a,b⟩:=Cg ha hl
 unfold numD
 split
 · rename_i h
   exact a _ h.choose_spec.1 h.choose_spec.2
 · rename_i h
   exact b fun n h1 h2=>h ⟨n,h1,h2⟩
theorem Jd{n:Int}(h:n.natAbs<10 ^ 30):numD (nL n) = .int n:=by
 unfold numD
 have z:∃ m:Int,m.natAbs<10 ^ 30∧nL n=nL m:=⟨n,h,rfl⟩
 rw[dif_pos z]
 congr 1
 exact nL_inj z.choose_spec.1 h z.choose_spec.2.symm
theorem Fv{w:List Nat}(h:∀ n:Int,n.natAbs<10 ^ 30→w≠nL n):numD w = .non:=by
 unfold numD
 rw[dif_neg fun⟨n,h1,h2⟩=>h n h1 h2]
theorem Lz(w:List Nat):BX (numD w)=true:=by
 unfold numD
 split<;>rfl
abbrev HcF:FE:=o7 1 [] (iSeq (fOp r9 (fN 4) (fC (.str " ")))) (Tg.one 0) fYes (i8 true p7 (f7 (fN 0) fNil))
abbrev HoF:FS:=(sSeq (sSet [] 5 HcF)
 (sSeq (sIf (fOr (i6 (fOp AN (fC .non) (fN 5))) (i6 (fOp opNe (fBlt bLen (f7 (fN 5) fNil)) (fN 2)))) (sRet (fC .non)) m9)
 (sWr wApp 3 (fBlt bTup (f7 (fN 5) fNil)))))
theorem Fw(r:List Int):AN .non (L r)=some (.nw,.bl false):=by
 have h1:(r.map Dt.int).all BX=true:=by rw[List.all_map,List.all_eq_true];intro x _;rfl
 have h2:(r.map Dt.int).any isN=false:=by rw[List.any_map,List.any_eq_false];intro x _;exact Bool.false_ne_true
 unfold AN L
 simp only[h1,h2]
 rfl
theorem Eo{p:List Nat}{r:List Int}(h:PV p (some r))(c0 c1 c2 c3 c5:Cell):HcF [c0,c1,c2,c3,.sh false (.str (tx p)),c5]=some (.nw,L r):=by
 obtain⟨_,hb,sp⟩:=h
 exact z5 (e:=fun n => .str (tx (nL n))) (h:=Dt.int) (xs:=r) (by simp[cOf,k_sp,sp,g7,←Lv]) (fun n hn=>by
  have l:=Ap (hb n hn)
  have e:=S0 (Ed n) (by omega)
  rw[Jd (hb n hn)]at e
  simp[cOf,Tg.put,sigD,e,g7])
theorem hc_bad{p:List Nat}(h:PV p none):∃ ds:List Dt,ds.all BX=true∧ds.any isN=true∧∀ c0 c1 c2 c3 c5:Cell,HcF [c0,c1,c2,c3,.sh false (.str (tx p)),c5]=some (.nw,.lst ds):=by
 obtain⟨ws,sp,ha,hl,w,hw,hb⟩:=h
 refine⟨ws.map numD,?_,?_,fun c0 c1 c2 c3 c5=>?_⟩
 · rw[List.all_map,List.all_eq_true]
   exact fun x _=>Lz x
 · rw[List.any_map,List.any_eq_true]
   exact⟨w,hw,by show isN (numD w)=true;rw[Fv hb];rfl⟩
 · exact z5 (e:=fun w => .str (tx w)) (h:=numD) (xs:=ws) (by simp[cOf,k_sp,sp,g7,sD]) (fun x hx=>by
    have e:=S0 (ha x hx) (hl x hx)
    have sn:∀ f:Fl,(nrm f (numD x)).2=numD x:=fun _=>rfl
    have sn2:nrm .nw (numD x)=(.nw,numD x):=KP _
    simp[cOf,Tg.put,sigD,e,g7,sn2])
def okV(k:Int)(v:List Nat×Option (List Int)):Bool:=match v.2 with|some r=>decide ((r.length:Int)=k)|none=>false
theorem ho_ok{p:List Nat}{r:List Int}(h:PV p (some r)){k:Int}(hk:(r.length:Int)=k)(c0 c1 j4 j5:Cell)(f2:Bool)(acc:List Dt)(hl:acc.length<1000):
   (Tg.put (Tg.one 4) (.str (tx p)) [c0,c1,.sh f2 (.int k),.ow true acc,j4,j5]).bind HoF=some (.nx [c0,c1,.sh f2 (.int k),.ow true (acc++[T r]),.sh false (.str (tx p)),.sh true (L r)]):=by
 have q:=Eo h (C0 c0) (C0 c1) (.sh f2 (.int k)) .no j5
 have q:=fun a b c=>Eo h a b (.sh f2 (.int k)) .no c
 have i:=Fw r
 have pt:Tg.put (Tg.one 4) (.str (tx p)) [c0,c1,.sh f2 (.int k),.ow true acc,j4,j5]=some [c0,c1,.sh f2 (.int k),.ow true acc,.sh false (.str (tx p)),j5]:=rfl
 rw[pt,i7]
 refine run (ρ':=[c0,c1,.sh f2 (.int k),.ow true acc,.sh false (.str (tx p)),.sh true (L r)]) ?_ ?_
 · rw[x57]
   show Option.map _ (HcF [C0 c0,C0 c1,.sh f2 (.int k),.no,.sh false (.str (tx p)),C0 j5])=_
   rw[q]
   rfl
 refine run (ρ':=[c0,c1,.sh f2 (.int k),.ow true acc,.sh false (.str (tx p)),.sh true (L r)]) ?_ ?_
 · subst hk
   simp[cOf,i,Z3]
 · simp[cOf,bTup,wApp,show acc.length<1000000 by omega,J3]
theorem ho_no{v:List Nat×Option (List Int)}(h:PV v.1 v.2){k:Int}(hk:okV k v=false)(c0 c1 j4 j5:Cell)(f2:Bool)(acc:List Dt):
  (Tg.put (Tg.one 4) (.str (tx v.1)) [c0,c1,.sh f2 (.int k),.ow true acc,j4,j5]).bind HoF=some (.rt .nw .non):=by
 obtain⟨p,o⟩:=v
 have pt:Tg.put (Tg.one 4) (.str (tx p)) [c0,c1,.sh f2 (.int k),.ow true acc,j4,j5]=some [c0,c1,.sh f2 (.int k),.ow true acc,.sh false (.str (tx p)),j5]:=rfl
 rw[pt,i7]
 cases o with
 | some r =>
  have q:=fun a b c=>Eo h a b (.sh f2 (.int k)) .no c
  have i:=Fw r
  refine run (ρ':=[c0,c1,.sh f2 (.int k),.ow true acc,.sh false (.str (tx p)),.sh true (L r)]) ?_ (E5 ?_)
  · rw[x57]
    show Option.map _ (HcF [C0 c0,C0 c1,.sh f2 (.int k),.no,.sh false (.str (tx p)),C0 j5])=_
    rw[q]
    rfl
  · have:¬(r.length:Int)=k:=of_decide_eq_false hk
    simp[cOf,i,Z3,this]
 | none =>
  obtain⟨ds,h1,h2,q⟩:=hc_bad h
  refine run (ρ':=[c0,c1,.sh f2 (.int k),.ow true acc,.sh false (.str (tx p)),.sh true (.lst ds)]) ?_ (E5 ?_)
  · rw[x57]
    show Option.map _ (HcF [C0 c0,C0 c1,.sh f2 (.int k),.no,.sh false (.str (tx p)),C0 j5])=_
    rw[q]
    rfl
  · have i:AN .non (.lst ds)=some (.nw,.bl true):=by
     unfold AN
     simp only[h1,h2]
     rfl
    simp[cOf,i]
theorem Je(c0 c1:Cell)(f2:Bool)(k:Int):∀(vs:List (List Nat×Option (List Int))) (acc:List Dt) (j4 j5:Cell),(∀ v∈vs,PV v.1 v.2)→vs.all (okV k)=true→acc.length+vs.length<1000 →
  ∃(j j':Cell) (rs:List (List Int)),vs.map (·.2)=rs.map some∧(∀ r∈rs,(r.length:Int)=k)∧forF (Tg.one 4) HoF (sD (vs.map (·.1))) [c0,c1,.sh f2 (.int k),.ow true acc,j4,j5]=some (.nx [c0,c1,.sh f2 (.int k),.ow true (acc++rs.map T),j,j'])
 | [],acc,j4,j5,_,_,_=>⟨j4,j5,[],rfl,(fun _ h=>nomatch h),by rw[List.map_nil,List.map_nil,List.append_nil];rfl⟩
 | (p,o)::vs,acc,j4,j5,ha,hk,hl=>by
  rw[List.all_cons,Bool.and_eq_true]at hk
  have hp:=ha (p,o) (by simp)
  rw[List.length_cons]at hl
  cases o with
  | none=>cases hk.1
  | some r =>
   have hr:(r.length:Int)=k:=of_decide_eq_true hk.1
   obtain⟨j,j',rs,e1,e2,e3⟩:=Je c0 c1 f2 k vs (acc++[T r]) (.sh false (.str (tx p))) (.sh true (L r)) (fun v hv=>ha v (by simp[hv])) hk.2 (by rw[List.length_append,List.length_singleton];omega)
   refine⟨j,j',r::rs,by rw[List.map_cons,e1];rfl,fun x hx=>?_,?_⟩
   · rcases List.mem_cons.mp hx with rfl|hx
     · exact hr
     · exact e2 x hx
   · have e:sD (((p,some r)::vs).map (·.1)) = .str (tx p)::sD (vs.map (·.1)):=rfl
     rw[e,A8,ho_ok hp hr c0 c1 j4 j5 f2 acc (by omega)]
     refine e3.trans ?_
     simp
theorem Fx(c0 c1:Cell)(f2:Bool)(k:Int):∀(vs:List (List Nat×Option (List Int))) (acc:List Dt) (j4 j5:Cell),(∀ v∈vs,PV v.1 v.2)→vs.all (okV k)=false→acc.length+vs.length<1000 →
  forF (Tg.one 4) HoF (sD (vs.map (·.1))) [c0,c1,.sh f2 (.int k),.ow true acc,j4,j5]=some (.rt .nw .non)
 | [],acc,j4,j5,_,hk,_=>by cases hk
 | (p,o)::vs,acc,j4,j5,ha,hk,hl=>by
  have hp:=ha (p,o) (by simp)
  rw[List.length_cons]at hl
  have e:sD (((p,o)::vs).map (·.1)) = .str (tx p)::sD (vs.map (·.1)):=rfl
  rw[e,A8]
  cases hv:okV k (p,o) with
  | false=>rw[ho_no hp hv c0 c1 j4 j5 f2 acc];rfl
  | true =>
   rw[List.all_cons,hv,Bool.true_and]at hk
   cases o with
   | none=>cases hv
   | some r =>
    rw[ho_ok hp (of_decide_eq_true hv) c0 c1 j4 j5 f2 acc (by omega)]
    exact Fx c0 c1 f2 k vs (acc++[T r]) _ _ (fun v hv=>ha v (by simp[hv])) hk (by rw[List.length_append,List.length_singleton];omega)
theorem JL{l:List Nat}(ha:Asc l)(hl:l.length≤3000):
   (B7 [.str (tx l)]=some .non∧(G8 [.str (tx l)]=some (.inr 4)∨G8 [.str (tx l)]=some (.inr 8))) ∨
   ∃(k:Nat) (rs:List (List Int)),B7 [.str (tx l)]=some (C6 k rs)∧GC [.str (tx l)]=some (C6 k rs):=by
 obtain⟨ps,n0,sp,hp,hc,_⟩:=Q9 (l:=l) (s:=[32,47,32]) (by simp) (by omega)
 obtain⟨p0,qs,rfl⟩:∃ p0 qs,ps=p0::qs:=by
   cases ps with
   | nil=>exact absurd rfl n0
   | cons p0 qs=>exact⟨p0,qs,rfl⟩
 have e0:sD (p0::qs) = .str (tx p0)::sD qs:=rfl
 rw[e0]at sp
 have a0:Asc p0:=Z8 ha (hp p0 (by simp)).2
 have l0:p0.length≤3000:=Nat.le_trans (hp p0 (by simp)).1 hl
 obtain⟨vs,ev,hv⟩:=Ly (ps:=qs) (fun q hq=>Z8 ha (hp q (by simp[hq])).2) (fun q hq=>by have:=(hp q (by simp[hq])).1;omega)
 rw[List.length_cons]at hc
 have lv:vs.length=qs.length:=by rw[←ev,List.length_map]
 have fq:p9 (sD qs)=true:=by rw[Eg];exact O7 _
 have lq:(sD qs).length=qs.length:=by unfold sD;rw[List.length_map]
 have num:=S0 a0 (by omega)
 have nt:=En (tx l)
 have rd:∀ r,(sSeq (sOr (sSet [] 2 (i8 true j6 (f7 (fAt (fN 1) (fC (.int 0))) fNil))) (sEx (M5 u9 (f7 (fAt (fN 1) (fC (.int 0))) fNil))))
     (sSeq (sOr (sSet [] 3 (o7 1 [] (iSeq (fSl (fN 1) (n9 (fC (.int 1))) i5)) (Tg.one 0) fYes RrF)) (sEx (AM 1 [] (iSeq (fSl (fN 1) (n9 (fC (.int 1))) i5)) (Tg.one 0) RrF RrR)))
     (IV true B6 (f7 (fN 2) (f7 (fN 3) fNil)) h_NoHall 8))) [.sh false (.str (tx l)),.sh true (.lst (.str (tx p0)::sD qs)),.no,.no]=some (.ex r)→G8 [.str (tx l)]=some (.inr r):=fun r h=>by
   refine L5 rfl ?_
   unfold Eh
   refine run (Z7 (xs:=[nrm .sh (.str (tx l))]) rfl nt) ?_
   exact run (ρ':=[.sh false (.str (tx l)),.sh true (.lst (.str (tx p0)::sD qs)),.no,.no]) (by simp[cOf,k_sl,sp,g7]) h
 have hb:∀ r,(sSeq (sSet [] 2 (i8 true p7 (f7 (fAt (fN 1) (fC (.int 0))) fNil)))
     (sSeq (sIf (fOr (i6 (fOp M2 (fN 2) (fC .non))) (fOr (i6 (fOp opLt (fN 2) (fC (.int 1)))) (fOr (i6 (fOp opGt (fN 2) (fC (.int 6)))) (i6 (fOp opGt (fBlt bLen (f7 (fN 1) fNil)) (fC (.int 9))))))) (sRet (fC .non)) m9)
     (sSeq (sOwn 3 (fLst fNil))
     (sSeq (sFor [] (iSeq (fSl (fN 1) (n9 (fC (.int 1))) i5)) (Tg.one 4) HoF)
     (sRet (fTup (f7 (fN 2) (f7 (fBlt bTup (f7 (fN 3) fNil)) fNil)))))))) [.sh false (.str (tx l)),.sh true (.lst (.str (tx p0)::sD qs)),.no,.no,.no,.no]=some (.rt .nw r)→r.flat=true→B7 [.str (tx l)]=some r:=fun r h hf=>by
   refine u6 (f := .nw) rfl ?_ (by rw[hf,Bool.or_true])
   unfold R5
   exact run (ρ':=[.sh false (.str (tx l)),.sh true (.lst (.str (tx p0)::sD qs)),.no,.no,.no,.no]) (by simp[cOf,k_sl,sp,g7]) h
 rcases(IZ a0 (show p0.length≤5000 by omega)).symm with⟨bad,b1,b2⟩|⟨k,hk,rfl⟩
 ·
   refine .inl ⟨hb _ ?_ rfl,.inl (rd 4 (R9 ?_))⟩
   · rw[Fv bad]at num
     refine run (ρ':=[.sh false (.str (tx l)),.sh true (.lst (.str (tx p0)::sD qs)),.sh true .non,.no,.no,.no]) (by simp[cOf,num,g7]) (E5 ?_)
     simp[cOf,M2,isN]
   · obtain⟨x1,x2⟩:=P8 a0 (by omega) bad
     have z:sSet [] 2 (i8 true j6 (f7 (fAt (fN 1) (fC (.int 0))) fNil)) [.sh false (.str (tx l)),.sh true (.lst (.str (tx p0)::sD qs)),.no,.no]=none:=by simp[cOf,x2,g7]
     unfold sOr
     rw[z]
     exact exCall (xs:=[nrm .fr (.str (tx p0))]) (by simp[cOf,g7]) x1
 · rw[Jd hk]at num
   have rn:=I0 hk
   have s2:(sOr (sSet [] 2 (i8 true j6 (f7 (fAt (fN 1) (fC (.int 0))) fNil))) (sEx (M5 u9 (f7 (fAt (fN 1) (fC (.int 0))) fNil)))) [.sh false (.str (tx l)),.sh true (.lst (.str (tx (nL k))::sD qs)),.no,.no]=some (.nx [.sh false (.str (tx l)),.sh true (.lst (.str (tx (nL k))::sD qs)),.sh true (.int k),.no]):=by
     have z:sSet [] 2 (i8 true j6 (f7 (fAt (fN 1) (fC (.int 0))) fNil)) [.sh false (.str (tx l)),.sh true (.lst (.str (tx (nL k))::sD qs)),.no,.no]=some (.nx [.sh false (.str (tx l)),.sh true (.lst (.str (tx (nL k))::sD qs)),.sh true (.int k),.no]):=by simp[cOf,rn,g7]
     unfold sOr
     rw[z]
     rfl
   have ct:cutD (Dt.str (tx (nL k))::sD qs) (some 1) none=sD qs:=cut1 _ _
   have nl:newL (sD qs)=(.nw,.lst (sD qs)):=by unfold newL lfl;rw[fq];rfl
   have it:iSeq (fSl (fN 1) (n9 (fC (.int 1))) i5) [.sh false (.str (tx l)),.sh true (.lst (.str (tx (nL k))::sD qs)),.sh true (.int k),.no]=some (sD qs):=by
     unfold iSeq fSl n9 i5
     simp[cOf,intD,ct,nl]
   have sg:sigD 1 [] [Cell.sh false (.str (tx l)),.sh true (.lst (.str (tx (nL k))::sD qs)),.sh true (.int k),.no]=[.no]:=rfl
   have pre:∀ b,(fOr (i6 (fOp M2 (fN 2) (fC .non))) (fOr (i6 (fOp opLt (fN 2) (fC (.int 1)))) (fOr (i6 (fOp opGt (fN 2) (fC (.int 6)))) (i6 (fOp opGt (fBlt bLen (f7 (fN 1) fNil)) (fC (.int 9))))))) [.sh false (.str (tx l)),.sh true (.lst (.str (tx (nL k))::sD qs)),.sh true (.int k),.no,.no,.no]=some b→b=(decide (k<1)||(decide (6<k)||decide (8<qs.length)))→True:=fun _ _ _=>trivial
   have cond:(fOr (i6 (fOp M2 (fN 2) (fC .non))) (fOr (i6 (fOp opLt (fN 2) (fC (.int 1)))) (fOr (i6 (fOp opGt (fN 2) (fC (.int 6)))) (i6 (fOp opGt (fBlt bLen (f7 (fN 1) fNil)) (fC (.int 9))))))) [.sh false (.str (tx l)),.sh true (.lst (.str (tx (nL k))::sD qs)),.sh true (.int k),.no,.no,.no]=some (decide (k<1)||(decide (6<k)||decide (8<qs.length))):=by
     have e9:decide ((9:Int)<((sD qs).length+1:Int))=decide (8<qs.length):=by
       rw[lq]
       congr 1
       exact propext ⟨fun h=>by omega,fun h=>by omega⟩
     by_cases h1:k<1
     · simp[cOf,M2,isN,h1]
     · by_cases h6:6<k
       · simp[cOf,M2,isN,h1,h6]
       · simp[cOf,M2,isN,h1,h6,e9]
   have h2:(sSet [] 2 (i8 true p7 (f7 (fAt (fN 1) (fC (.int 0))) fNil))) [.sh false (.str (tx l)),.sh true (.lst (.str (tx (nL k))::sD qs)),.no,.no,.no,.no]=some (.nx [.sh false (.str (tx l)),.sh true (.lst (.str (tx (nL k))::sD qs)),.sh true (.int k),.no,.no,.no]):=by simp[cOf,num,g7]
   have itL:iSeq (fSl (fN 1) (n9 (fC (.int 1))) i5) [.sh false (.str (tx l)),.sh true (.lst (.str (tx (nL k))::sD qs)),.sh true (.int k),.no,.no,.no]=some (sD qs):=by
     unfold iSeq fSl n9 i5
     simp[cOf,intD,ct,nl]
   have lawNo:(k<1∨6<k∨8<qs.length∨vs.all (okV k)=false)→B7 [.str (tx l)]=some .non:=fun h=>by
     refine hb _ (run h2 ?_) rfl
     by_cases hc3:(decide (k<1)||(decide (6<k)||decide (8<qs.length)))=true
     · refine E5 ?_
       unfold sIf
       rw[cond,hc3]
       rfl
     · have hc3:(decide (k<1)||(decide (6<k)||decide (8<qs.length)))=false:=by simpa using hc3
       have hk':vs.all (okV k)=false:=by
         simp only[Bool.or_eq_false_iff,decide_eq_false_iff_not]at hc3
         rcases h with h|h|h|h
         · exact absurd h hc3.1
         · exact absurd h hc3.2.1
         · exact absurd h hc3.2.2
         · exact h
       refine run (ρ':=[.sh false (.str (tx l)),.sh true (.lst (.str (tx (nL k))::sD qs)),.sh true (.int k),.no,.no,.no]) (by unfold sIf;rw[cond,hc3];rfl) ?_
       refine run (ρ':=[.sh false (.str (tx l)),.sh true (.lst (.str (tx (nL k))::sD qs)),.sh true (.int k),.ow true [],.no,.no]) (by simp[cOf]) (E5 ?_)
       simp only[Bool.or_eq_false_iff,decide_eq_false_iff_not]at hc3
       have q:=Fx (.sh false (.str (tx l))) (.sh true (.lst (.str (tx (nL k))::sD qs))) true k vs [] .no .no hv hk' (by simp;omega)
       rw[ev]at q
       rw[x75,x58]
       show(iSeq (fSl (fN 1) (n9 (fC (.int 1))) i5) [.sh false (.str (tx l)),.sh true (.lst (.str (tx (nL k))::sD qs)),.sh true (.int k),.no,.no,.no]).bind _=_
       rw[itL]
       exact q
   by_cases hn:∃ v∈vs,v.2=none
   ·
     obtain⟨r1,r2⟩:=Fq hv hn
     rw[ev]at r1 r2
     refine .inl ⟨lawNo (.inr (.inr (.inr ?_))),.inl (rd 4 (run s2 (R9 ?_)))⟩
     · obtain⟨v,h1,h2⟩:=hn
       rw[List.all_eq_false]
       exact⟨v,h1,by unfold okV;rw[h2];exact Bool.false_ne_true⟩
     · have cn:o7 1 [] (iSeq (fSl (fN 1) (n9 (fC (.int 1))) i5)) (Tg.one 0) fYes RrF [.sh false (.str (tx l)),.sh true (.lst (.str (tx (nL k))::sD qs)),.sh true (.int k),.no]=none:=by
         unfold o7
         rw[it,i7,sg,r2]
         rfl
       have z:sSet [] 3 (o7 1 [] (iSeq (fSl (fN 1) (n9 (fC (.int 1))) i5)) (Tg.one 0) fYes RrF) [.sh false (.str (tx l)),.sh true (.lst (.str (tx (nL k))::sD qs)),.sh true (.int k),.no]=none:=by
         rw[x57,x58]
         show Option.map _ (o7 1 [] (iSeq (fSl (fN 1) (n9 (fC (.int 1))) i5)) (Tg.one 0) fYes RrF [.sh false (.str (tx l)),.sh true (.lst (.str (tx (nL k))::sD qs)),.sh true (.int k),.no])=_
         rw[cn]
         rfl
       unfold sOr
       rw[z]
       show sEx _ _=_
       unfold sEx AM
       rw[it,i7,sg,r1]
       rfl
   ·
     obtain⟨rs,e1,e2,e3⟩:=Ft hv (fun v h1 h2=>hn ⟨v,h1,h2⟩)
     rw[ev]at e2
     have lr:rs.length=qs.length:=by
       have:=congrArg List.length e1
       rw[List.length_map,List.length_map]at this
       omega
     have cm:o7 1 [] (iSeq (fSl (fN 1) (n9 (fC (.int 1))) i5)) (Tg.one 0) fYes RrF [.sh false (.str (tx l)),.sh true (.lst (.str (tx (nL k))::sD qs)),.sh true (.int k),.no]=some (.nw,LL rs):=by
       unfold o7
       rw[it,i7,sg,e2,i7,Am (fun x _=>rfl),BN]
       rfl
     have s3:(sSet [] 3 (o7 1 [] (iSeq (fSl (fN 1) (n9 (fC (.int 1))) i5)) (Tg.one 0) fYes RrF)) [.sh false (.str (tx l)),.sh true (.lst (.str (tx (nL k))::sD qs)),.sh true (.int k),.no]=some (.nx [.sh false (.str (tx l)),.sh true (.lst (.str (tx (nL k))::sD qs)),.sh true (.int k),.sh true (LL rs)]):=by
       rw[x57,x58]
       show Option.map _ (o7 1 [] (iSeq (fSl (fN 1) (n9 (fC (.int 1))) i5)) (Tg.one 0) fYes RrF [.sh false (.str (tx l)),.sh true (.lst (.str (tx (nL k))::sD qs)),.sh true (.int k),.no])=_
       rw[cm]
       rfl
     have no8:B6 [.int k,LL rs]=some (.inr 1)→G8 [.str (tx l)]=some (.inr 8):=fun h=>by
       refine rd 8 (run s2 (run (ρ':=[.sh false (.str (tx l)),.sh true (.lst (.str (tx (nL k))::sD qs)),.sh true (.int k),.sh true (LL rs)]) ?_ ?_))
       · unfold sOr
         rw[s3]
         rfl
       · unfold IV
         have a:(f7 (fN 2) (f7 (fN 3) fNil)) [.sh false (.str (tx l)),.sh true (.lst (.str (tx (nL k))::sD qs)),.sh true (.int k),.sh true (LL rs)]=some [(.nw,.int k),(.fr,LL rs)]:=by simp[cOf]
         rw[a,i7]
         show(B6 [.int k,LL rs]).bind _=_
         rw[h]
         rfl
     have vr:vs.all (okV k)=rs.all (fun r=>decide ((r.length:Int)=k)):=by
       have:∀(vs:List (List Nat×Option (List Int))) (rs:List (List Int)),vs.map (·.2)=rs.map some→vs.all (okV k)=rs.all (fun r=>decide ((r.length:Int)=k)):=fun vs=>by
         induction vs with
         | nil=>intro rs e;cases rs with|nil=>rfl|cons r rs=>cases e
         | cons v vs ih =>
           intro rs e
           cases rs with
           | nil=>cases e
           | cons r rs =>
            rw[List.map_cons,List.map_cons]at e
            have e1:v.2=some r:=(List.cons.inj e).1
            rw[List.all_cons,List.all_cons,ih rs (List.cons.inj e).2]
            unfold okV
            rw[e1]
       exact this vs rs e1
     by_cases h1:k<1
     · exact .inl ⟨lawNo (.inl h1),.inr (no8 (Cf (Du (.inl h1))))⟩
     by_cases h6:6<k
     · exact .inl ⟨lawNo (.inr (.inl h6)),.inr (no8 (Cf (Du (.inr h6))))⟩
     obtain⟨n,hn'⟩:=Int.eq_ofNat_of_zero_le (show 0≤k by omega)
     subst hn'
     have n1:1≤n:=by omega
     have n6:n≤6:=by omega
     by_cases h8:8<qs.length
     · exact .inl ⟨lawNo (.inr (.inr (.inl h8))),.inr (no8 (JJ n1 n6 (by rw[List.length_map];omega)))⟩
     cases hk':vs.all (okV n) with
     | false =>
       refine .inl ⟨lawNo (.inr (.inr (.inr hk'))),.inr (no8 (JK n1 n6 (by rw[List.length_map];omega) (fun d hd=>?_) ?_))⟩
       · obtain⟨r,hr,rfl⟩:=List.mem_map.mp hd
         by_cases z:r.length=n
         · exact⟨_,Fh r n z⟩
         · exact⟨_,AQ (by rw[U6,decide_eq_false (by omega)])⟩
       · rw[vr,List.all_eq_false]at hk'
         obtain⟨r,hr,hz⟩:=hk'
         refine⟨L r,List.mem_map.mpr ⟨r,hr,rfl⟩,AQ (by rw[U6,decide_eq_false (by simpa using hz)])⟩
     | true =>
       have hw:∀ r∈rs,r.length=n:=fun r hr=>by
         rw[vr,List.all_eq_true]at hk'
         have:=of_decide_eq_true (hk' r hr)
         omega
       have ho:=GG n rs n1 n6 (by omega) hw e3
       refine .inr ⟨n,rs,?_,?_⟩
       · refine hb _ (run h2 ?_) (by show p9 [.int n,TTu rs]=true;rw[p9,p9];show(true&&((TTu rs).flat&&p9 []))=true;rw[Dt.flat,U4];rfl)
         have hc3:(decide ((n:Int)<1)||(decide (6<(n:Int))||decide (8<qs.length)))=false:=by
           rw[decide_eq_false h1,decide_eq_false h6,decide_eq_false h8];rfl
         refine run (ρ':=[.sh false (.str (tx l)),.sh true (.lst (.str (tx (nL n))::sD qs)),.sh true (.int n),.no,.no,.no]) (by unfold sIf;rw[cond,hc3];rfl) ?_
         refine run (ρ':=[.sh false (.str (tx l)),.sh true (.lst (.str (tx (nL n))::sD qs)),.sh true (.int n),.ow true [],.no,.no]) (by simp[cOf]) ?_
         obtain⟨j,j',rs',y1,_,q⟩:=Je (.sh false (.str (tx l))) (.sh true (.lst (.str (tx (nL n))::sD qs))) true n vs [] .no .no hv hk' (by simp;omega)
         have:rs'=rs:=by
           rw[e1]at y1
           have y2:=congrArg (List.map fun o:Option (List Int)=>o.getD []) y1
           rw[List.map_map,List.map_map]at y2
           have id1:((fun o:Option (List Int)=>o.getD [])∘some)=id:=rfl
           rw[id1,List.map_id,List.map_id]at y2
           exact y2.symm
         subst this
         rw[ev,List.nil_append]at q
         refine run (ρ':=[.sh false (.str (tx l)),.sh true (.lst (.str (tx (nL n))::sD qs)),.sh true (.int n),.ow true (rs'.map T),j,j']) ?_ ?_
         · rw[x75,x58]
           show(iSeq (fSl (fN 1) (n9 (fC (.int 1))) i5) [.sh false (.str (tx l)),.sh true (.lst (.str (tx (nL n))::sD qs)),.sh true (.int n),.no,.no,.no]).bind _=_
           rw[itL]
           exact q
         · have ft:p9 (rs'.map T)=true:=U4 rs'
           simp[cOf,bTup,ft]
       · refine u6 (f := .nw) rfl ?_ rfl
         unfold GB
         refine run (ρ':=[.sh false (.str (tx l)),.no,.no,.no]) (by simp[cOf,El,g7]) ?_
         refine run (ρ':=[.sh false (.str (tx l)),.sh true (.lst (.str (tx (nL n))::sD qs)),.no,.no]) (by simp[cOf,k_sl,sp,g7]) ?_
         refine run (ρ':=[.sh false (.str (tx l)),.sh true (.lst (.str (tx (nL n))::sD qs)),.sh true (.int n),.no]) (by simp[cOf,rn,g7]) ?_
         refine run s3 ?_
         simp[cOf,ho]
theorem LA{d:Dt}(h:tyN d ≠ "str"):G8 [d]=some (.inr 4):=by
 have e:K1 [d]=some (.inr 4):=by
  refine L5 rfl ?_
  unfold K0
  have:BE (tyN d) "str" = false:=by simp[BE,h]
  have v:Cell.val (.sh false d)=some (nrm .sh d):=rfl
  simp only[rho0,List.map_cons,List.map_nil,List.length_singleton,Nat.sub_self,List.replicate_zero,List.append_nil,x4,x40,x39,x48,x7,x8,List.getElem?_cons_zero,x134,v,Option.map_some,nrm,this]
  rfl
 refine L5 rfl ?_
 unfold Eh
 exact R9 (Ce (xs:=[nrm .sh d]) rfl e)
theorem Z9{d:Dt}(h:G8 [d]=some (.inr 4)∨G8 [d]=some (.inr 8)):K3 [d]=some (.bl true):=by
 obtain⟨m,hm,h1,h2⟩:∃ m,G8 [d]=some (.inr m)∧h_NoText m=true∧h_HallError m=true:=by
   rcases h with h|h
   · exact⟨4,h,rfl,rfl⟩
   · exact⟨8,h,rfl,rfl⟩
 refine u6 (f := .nw) rfl ?_ rfl
 unfold R6
 refine run (ρ':=[.sh false d,.sh true (.int 0),.no]) (by simp[cOf]) ?_
 refine run (try_ex (ρ':=[.sh false d,.sh true (.int 1),.no]) (xs:=[nrm .sh d]) (m:=m) rfl hm h1 (by simp[cOf])) ?_
 refine run (Lw (ρ':=[.sh false d,.sh true (.int 2),.ex]) (xs:=[nrm .sh d]) (m:=m) rfl hm h2 ?_) ?_
 · simp[cOf,fIsx,bInt]
 · simp[cOf,j7]
abbrev LnI:FS:=sSet [] 1 (fOp A3 (fOp A3 (fN 1) (fC (.str " "))) (fBlt bStr (f7 (fN 3) fNil)))
abbrev LnO:FS:=(sSeq (sSet [] 1 (fOp A3 (fN 1) (fC (.str " /")))) (sFor [] (iSeq (fN 2)) (Tg.one 3) LnI))
theorem Fy:Asc [32]:=asc1 32 (by decide)
theorem k_s2:Str.ofString " /" = tx [32,47]:=rfl
theorem ln_in(c0 c2:Cell):∀(xs:List Int) (acc:List Nat) (j:Cell),Asc acc→acc.length+40*xs.length≤5000→(∀ x∈xs,x.natAbs<10 ^ 30) →
  ∃ acc' j',forF (Tg.one 3) LnI (xs.map Dt.int) [c0,.sh true (.str (tx acc)),c2,j]=some (.nx [c0,.sh true (.str (tx acc')),c2,j'])∧Asc acc'∧acc'.length≤acc.length+32*xs.length∧acc'.count 32≤acc.count 32+xs.length
 | [],acc,j,ha,_,_=>⟨acc,j,rfl,ha,by simp,by simp⟩
 | x::xs,acc,j,ha,hl,hb=>by
  rw[List.length_cons]at hl
  have hx:=hb x (by simp)
  have ln:=Ap hx
  have b:=v3 (a:=acc) (b:=[32]) (by omega) (by decide)
  have b2:=v3 (a:=acc++[32]) (b:=nL x) (by simp;omega) (by omega)
  have bs:=IT hx
  obtain⟨acc',j',q,h1,h2,h3⟩:=ln_in c0 c2 xs (acc++[32]++nL x) (.sh false (.int x)) ((ha.app Fy).app (Ed x)) (by simp;omega) (fun y hy=>hb y (by simp[hy]))
  have c1:(nL x).count 32=0:=List.count_eq_zero.mpr fun hc=>by have:=BU x 32 hc;omega
  refine⟨acc',j',?_,h1,?_,by rw[List.count_append,List.count_append,c1]at h3;have:List.count 32 [32]=1:=rfl;rw[List.length_cons];omega⟩
  · have st:(Tg.put (Tg.one 3) (.int x) [c0,.sh true (.str (tx acc)),c2,j]).bind LnI=some (.nx [c0,.sh true (.str (tx (acc++[32]++nL x))),c2,.sh false (.int x)]):=by
     simp only[List.append_assoc]at b2 ⊢
     simp[cOf,k_sp,b,b2,bs,g7]
    rw[List.map_cons,A8,st]
    exact q
  · simp only[List.length_append,List.length_singleton,List.length_cons,List.length_nil]at h2 ⊢
    omega
theorem LB(c0:Cell):∀(bs:List (List Int)) (acc:List Nat) (j j2:Cell),Asc acc→acc.length+300*bs.length≤4000→(∀ r∈bs,r.length≤6)→(∀ r∈bs,∀ x∈r,x.natAbs<10 ^ 30) →
  ∃ acc' j' j2',forF (Tg.one 2) LnO (bs.map L) [c0,.sh true (.str (tx acc)),j,j2]=some (.nx [c0,.sh true (.str (tx acc')),j',j2'])∧Asc acc'∧acc'.length≤acc.length+194*bs.length∧acc'.count 32≤acc.count 32+7*bs.length
 | [],acc,j,j2,ha,_,_,_=>⟨acc,j,j2,rfl,ha,by simp,by simp⟩
 | r::bs,acc,j,j2,ha,hl,h6,hb=>by
  rw[List.length_cons]at hl
  have r6:=h6 r (by simp)
  have b:=v3 (a:=acc) (b:=[32,47]) (by omega) (by decide)
  obtain⟨a1,j1,q1,h1,h2,h5⟩:=ln_in c0 (.sh false (L r)) r (acc++[32,47]) j2 (ha.app (by intro c hc;simp at hc;omega)) (by simp;omega) (hb r (by simp))
  simp only[List.length_append,List.length_cons,List.length_nil]at h2
  obtain⟨acc',j',j2',q,h3,h4,h7⟩:=LB c0 bs a1 (.sh false (L r)) j1 h1 (by omega) (fun x hx=>h6 x (by simp[hx])) (fun x hx=>hb x (by simp[hx]))
  refine⟨acc',j',j2',?_,h3,by rw[List.length_cons];omega,by rw[List.count_append]at h5;have:List.count 32 [32,47]=1:=rfl;rw[List.length_cons];omega⟩
  have st:(Tg.put (Tg.one 2) (L r) [c0,.sh true (.str (tx acc)),j,j2]).bind LnO=some (.nx [c0,.sh true (.str (tx a1)),.sh false (L r),j1]):=by
   have pt:Tg.put (Tg.one 2) (L r) [c0,.sh true (.str (tx acc)),j,j2]=some [c0,.sh true (.str (tx acc)),.sh false (L r),j2]:=rfl
   rw[pt,i7]
   refine run (ρ':=[c0,.sh true (.str (tx (acc++[32,47]))),.sh false (L r),j2]) (by simp[cOf,k_s2,b,g7]) ?_
   simp[cOf]
   exact q1
  rw[List.map_cons,A8,st]
  exact q
theorem JM{n:Nat}{bills:List (List Int)}(h6:n≤6)(hm:bills.length≤8)(hw:Wide n bills)(hb:∀ r∈bills,∀ x∈r,x.natAbs<10 ^ 30):∃ l,Cd [.tup [.int n,LL bills]]=some (.str (tx l))∧Asc l∧l.length≤1600∧l.count 32≤56:=by
 have nl:=Ap (n:=(n:Int)) (by omega)
 have bs:=IT (n:=(n:Int)) (by omega)
 obtain⟨acc,j,j2,q,h1,h2,h3⟩:=LB (.sh false (.tup [.int n,LL bills])) bills (nL n) .no .no (Ed _) (by omega) (fun r hr=>by rw[hw r hr];omega) hb
 have c1:(nL n).count 32=0:=List.count_eq_zero.mpr fun hc=>by have:=BU n 32 hc;omega
 refine⟨acc,u6 (f := .nw) rfl ?_ rfl,h1,by omega,by omega⟩
 unfold Cb
 refine run (ρ':=[.sh false (.tup [.int n,LL bills]),.sh true (.str (tx (nL n))),.no,.no]) (by simp[cOf,bs]) ?_
 refine run (ρ':=[.sh false (.tup [.int n,LL bills]),.sh true (.str (tx acc)),j,j2]) (by simp[cOf];exact q) ?_
 simp[cOf,g7]
theorem Jf{α:Type}{ds:List α}{i:Int}(h0:0≤i)(h1:i<ds.length):∃ d,d∈ds∧atI ds i=some d:=by
 rw[DV h0,List.getElem?_eq_getElem (show i.toNat<ds.length by omega)]
 exact⟨_,List.getElem_mem _,rfl⟩
def okV3:Dt→Bool
 | .str x=>x.cps.toList.all (fun c=>decide (c<128))&&decide (x.cps.toList.length≤3)
 | _=>false
theorem okV3_w{d:Dt}(h:okV3 d=true):∃ w,d = .str (tx w)∧Asc w∧w.length≤3:=by
 cases d<;>first|cases h|skip
 rename_i x
 unfold okV3 at h
 simp only[Bool.and_eq_true,decide_eq_true_eq,List.all_eq_true]at h
 exact⟨x.cps.toList,by rw[Lb],h.1,h.2⟩
theorem GK{ds:List Dt}{m:Int}(c:Int)(hm:0<m)(hl:(ds.length:Int)=m)(h:ds.all okV3=true):∃ w,atI ds (c.fmod m)=some (.str (tx w))∧Asc w∧w.length≤3:=by
 obtain⟨f0,f1⟩:=o2 c hm
 obtain⟨d,hd,e⟩:=Jf (ds:=ds) f0 (by omega)
 obtain⟨w,rfl,h1,h2⟩:=okV3_w (List.all_eq_true.mp h d hd)
 exact⟨w,e,h1,h2⟩
theorem mo(c:Int)(k:Nat):B0 c ((k+1:Nat):Int)=true:=by unfold B0;exact decide_eq_true (by omega)
theorem JN(way c:Int):∃ w,Ca [.int way,.int c]=some (.str (tx w))∧Asc w∧w.length≤40:=by
 by_cases h:way=6
 · subst h
   obtain⟨w,e,h1,h2⟩:=GK (ds:=[.str "00",.str "01",.str "-0",.str "-",.str "",.str "-01",.str "+1",.str "1.0",.str "1 1",.str "x",.str "1_0",.str "10\n"]) (m:=12) c (by decide) rfl rfl
   have m12:B0 c 12=true:=mo c 11
   refine⟨w,u6 (f := .nw) rfl ?_ rfl,h1,by omega⟩
   unfold Z5
   refine E5 ?_
   simp[cOf,j7,m12,e,g7]
 · have m3:B0 c 3=true:=mo c 2
   obtain⟨f0,f1⟩:=o2 c (m:=3) (by decide)
   have key:∀ n:Int,(n=30∨n=31∨n=32)→∃ w,Eb (.str "0") (.int n)=some (.nw,.str (tx w))∧Asc w∧w.length≤32:=fun n hn=>by
    rcases hn with rfl|rfl|rfl
    · exact⟨List.replicate 30 48,rfl,by unfold Asc;decide,by decide⟩
    · exact⟨List.replicate 31 48,rfl,by unfold Asc;decide,by decide⟩
    · exact⟨List.replicate 32 48,rfl,by unfold Asc;decide,by decide⟩
   obtain⟨w,e,h1,h2⟩:=key (30+c.fmod 3) (by omega)
   have a:=v3 (a:=[49]) (b:=w) (by decide) (by omega)
   have k1:Str.ofString "1" = tx [49]:=rfl
   refine⟨[49]++w,u6 (f := .nw) rfl ?_ rfl,(asc1 49 (by decide)).app h1,by simp;omega⟩
   unfold Z5
   refine run (ρ':=[.sh false (.int way),.sh false (.int c)]) (by simp[cOf,j7,h]) ?_
   simp only[List.singleton_append]at a
   simp[cOf,m3,e,k1,a,g7]
def mu:List (List Nat)→Nat
 | []=>0
 | p::ps=>p.length+1+mu ps
theorem Ep:∀ a b:List (List Nat),mu (a++b)=mu a+mu b
 | [],b=>by simp[mu]
 | p::a,b=>by rw[List.cons_append,mu,mu,Ep a b];omega
theorem Er(ps:List (List Nat))(k:Nat):mu (ps.take k)+mu (ps.drop k)=mu ps:=by rw[←Ep,List.take_append_drop]
theorem Ow:∀(ps:List (List Nat)) (k:Nat),mu (ps.drop k)≤mu ps:=fun ps k=>by have:=Er ps k;omega
theorem LC(w:List Nat):∀(ps:List (List Nat)) (k:Nat),mu (ps.set k w)≤mu ps+w.length+1
 | [],k=>by simp[mu]
 | p::ps,0=>by simp only[List.set_cons_zero,mu];omega
 | p::ps,k+1=>by have:=LC w ps k;simp only[List.set_cons_succ,mu];omega
theorem Es:∀(ps:List (List Nat)),(B4 [32] ps).length≤mu ps∧mu ps≤(B4 [32] ps).length+1
 | []=>by simp[mu,B4]
 | [p]=>by simp[mu,B4]
 | p::q::r=>by
  have:=Es (q::r)
  simp only[B4,mu,List.length_append,List.length_singleton]at this ⊢
  omega
theorem LD:∀(ps:List (List Nat)),ps.length≤(B4 [32] ps).count 32+1
 | []=>by simp
 | [p]=>by simp
 | p::q::r=>by
  have:=LD (q::r)
  have e:List.count 32 [32]=1:=rfl
  simp only[B4,List.count_append,List.length_cons]at this ⊢
  omega
theorem mu_le{k:Nat}:∀{ps:List (List Nat)},(∀ p∈ps,p.length≤k)→mu ps≤(k+1)*ps.length
 | [],_=>by simp[mu]
 | p::ps,h=>by
  have h1:=mu_le (k:=k) (ps:=ps) fun q hq=>h q (by simp[hq])
  have h2:=h p (by simp)
  rw[mu,List.length_cons,Nat.mul_succ]
  omega
theorem Et(ps:List (List Nat)):newL (sD ps)=(.nw,.lst (sD ps)):=by
 unfold newL lfl
 rw[show p9 (sD ps)=true by rw[Eg];exact O7 _]
 rfl
theorem X3(ps:List (List Nat)):(sD ps).length=ps.length:=by unfold sD;rw[List.length_map]
theorem sD_app(a b:List (List Nat)):sD a++sD b=sD (a++b):=by unfold sD;rw[List.map_append]
theorem LF{a b:List (List Nat)}(h:a.length+b.length≤1000000):v1 (.lst (sD a)) (.lst (sD b))=some (.nw,.lst (sD (a++b))):=by
 show(if(sD a).length+(sD b).length≤1000000 then some (newL (sD a++sD b)) else none)=_
 rw[X3,X3,if_pos h,sD_app,Et]
abbrev WlF:FS:=(IH 4 (fOp v1 (fN 4) (fLst (f7 (fC (.str "/")) (f7 (fC (.str "5")) fNil)))))
theorem Jg(c0 c1 c2 c3:Cell):∀(xs:List Dt) (acc:List (List Nat)) (j:Cell),acc.length+2*xs.length≤100→(∀ p∈acc,Asc p∧p.length≤1) →
  ∃ acc' j',forF (Tg.one 5) WlF xs [c0,c1,c2,c3,.sh true (.lst (sD acc)),j]=some (.nx [c0,c1,c2,c3,.sh true (.lst (sD acc')),j'])∧acc'.length≤acc.length+2*xs.length∧∀ p∈acc',Asc p∧p.length≤1
 | [],acc,j,_,h=>⟨acc,j,rfl,by simp,h⟩
 | x::xs,acc,j,hl,h=>by
  rw[List.length_cons]at hl
  obtain⟨acc',j',q,h1,h2⟩:=Jg c0 c1 c2 c3 xs (acc++[[47],[53]]) (.sh false x) (by simp;omega) (fun p hp=>by
   rcases List.mem_append.mp hp with hp|hp
   · exact h p hp
   · simp only[List.mem_cons,List.not_mem_nil,or_false]at hp
     rcases hp with rfl|rfl
     · exact⟨asc1 47 (by decide),by decide⟩
     · exact⟨asc1 53 (by decide),by decide⟩)
  have ad:=LF (a:=acc) (b:=[[47],[53]]) (by simp;omega)
  have e2:sD [[47],[53]]=[.str "/",.str "5"]:=rfl
  rw[e2]at ad
  refine⟨acc',j',?_,by simp only[List.length_append,List.length_cons,List.length_nil]at h1 ⊢;omega,h2⟩
  have st:(Tg.put (Tg.one 5) x [c0,c1,c2,c3,.sh true (.lst (sD acc)),j]).bind WlF=some (.nx [c0,c1,c2,c3,.sh true (.lst (sD (acc++[[47],[53]]))),.sh false x]):=by
   simp[cOf,ad]
  rw[A8,st]
  exact q
theorem Aa{ps:List (List Nat)}{way:Int}(c:Int)(n0:ps≠[])(hn:ps.length≤60)(hm:mu ps≤1700)(ha:∀ p∈ps,Asc p)(hw:6≤way∧way≤11):
   ∃ qs,v4 [.lst (sD ps),.int way,.int c]=some (.lst (sD qs))∧qs.length≤100∧mu qs≤2000∧∀ q∈qs,Asc q:=by
 have np:0<ps.length:=List.length_pos_iff.mpr n0
 obtain⟨f0,f1⟩:=o2 (c.fdiv 31) (m:=ps.length) (by omega)
 obtain⟨k,hk⟩:=Int.eq_ofNat_of_zero_le f0
 have kl:k<ps.length:=by omega
 have d31:J2 c 31=true:=by unfold J2;decide
 have ml:B0 (c.fdiv 31) ps.length=true:=by unfold B0;exact decide_eq_true (by omega)
 have m2:B0 c 2=true:=mo c 1
 have m4:B0 c 4=true:=mo c 3
 have pre:∀ R:FS,sSeq (sSet [] 3 (fOp z0 (fOp Bz (fN 2) (fC (.int 31))) (fBlt bLen (f7 (fN 0) fNil)))) (sSeq (sOwn 4 (fBlt bLst (f7 (fN 0) fNil))) R) [.sh false (.lst (sD ps)),.sh false (.int way),.sh false (.int c),.no,.no,.no]=R [.sh false (.lst (sD ps)),.sh false (.int way),.sh false (.int c),.sh true (.int k),.ow true (sD ps),.no]:=fun R=>by
   refine run (ρ':=[.sh false (.lst (sD ps)),.sh false (.int way),.sh false (.int c),.sh true (.int k),.no,.no]) (by simp[cOf,X3,d31,ml,hk]) ?_
   exact run (ρ':=[.sh false (.lst (sD ps)),.sh false (.int way),.sh false (.int c),.sh true (.int k),.ow true (sD ps),.no]) (by simp[cOf,bLst,Et]) rfl
 have go:∀ qs f,(o5 [.sh false (.lst (sD ps)),.sh false (.int way),.sh false (.int c),.no,.no,.no]=some (.rt f (.lst (sD qs))))→f.isFr=true→v4 [.lst (sD ps),.int way,.int c]=some (.lst (sD qs)):=fun qs f h hf=>by
   exact u6 (f:=f) rfl h (by rw[hf];rfl)
 have one:∀ w:List Nat,Asc w→w.length≤40→∀ i,(ps.set i w).length≤100∧mu (ps.set i w)≤2000∧∀ q∈ps.set i w,Asc q:=fun w h1 h2 i=>by
   refine⟨by rw[List.length_set];omega,by have:=LC w ps i;omega,fun q hq=>?_⟩
   rcases List.mem_or_eq_of_mem_set hq with h|rfl
   · exact ha q h
   · exact h1
 have set_:∀(w:List Nat) (i:Nat),(sD ps).set i (.str (tx w))=sD (ps.set i w):=fun w i=>by unfold sD;rw[List.map_set]
 have ix:ixN (sD ps).length (k:Int)=some k:=by rw[X3];exact IQ kl
 have ix0:ixN (sD ps).length 0=some 0:=by rw[X3];exact IQ np
 have w67:(way=6∨way=7)→∃ qs,v4 [.lst (sD ps),.int way,.int c]=some (.lst (sD qs))∧qs.length≤100∧mu qs≤2000∧∀ q∈qs,Asc q:=fun h=>by
   obtain⟨w,e,h1,h2⟩:=JN way c
   refine⟨_,go _ .fr ?_ rfl,one w h1 h2 k⟩
   unfold o5
   rw[pre]
   rcases h with rfl|rfl<;>simp[cOf,j7,e,ix,set_,g7,sPut,J3,z4,C0,intD]
 rcases show way=6∨way=7∨way=8∨way=9∨way=10∨way=11 by omega with h|h|h|h|h|h
 · exact w67 (.inl h)
 · exact w67 (.inr h)
 · subst h
   refine⟨ps.take k++[49]::ps.drop k,go _ .fr ?_ rfl,?_,?_,?_⟩
   · have e:(sD ps).take k ++ .str "1" :: (sD ps).drop k=sD (ps.take k++[49]::ps.drop k):=by unfold sD;simp;rfl
     have h1:k≤(sD ps).length:=by rw[X3];omega
     have h2:(sD ps).length<1000:=by rw[X3];omega
     unfold o5
     rw[pre]
     simp[cOf,j7,Lp,J3,intD,e,h1,h2]
   · simp;omega
   · have:=Er ps k
     rw[Ep,mu,List.length_singleton]
     omega
   · intro q hq
     rcases List.mem_append.mp hq with h|h
     · exact ha q (List.mem_of_mem_take h)
     · rcases List.mem_cons.mp h with rfl|h
       · exact asc1 49 (by decide)
       · exact ha q (List.mem_of_mem_drop h)
 · subst h
   refine⟨ps.take k++ps.drop (k+1),go _ .fr ?_ rfl,?_,?_,?_⟩
   · have e1:cutD (sD ps) none (some (k:Int))=sD (ps.take k):=by rw[cut_to];unfold sD;rw[List.map_take]
     have e2:cutD (sD ps) (some ((k:Int)+1)) none=sD (ps.drop (k+1)):=by
       have:=KR (sD ps) (k+1)
       rw[show((k+1:Nat):Int)=(k:Int)+1 by omega]at this
       rw[this];unfold sD;rw[List.map_drop]
     have ad:=LF (a:=ps.take k) (b:=ps.drop (k+1)) (by simp;omega)
     unfold o5
     rw[pre]
     simp[cOf,j7,II,fSl,n9,i5,intD,e1,e2,Et,ad]
   · simp;omega
   · have:=Er ps k
     have:=Er ps (k+1)
     have:mu (ps.drop (k+1))≤mu (ps.drop k):=by rw[←List.drop_drop];exact Ow _ _
     rw[Ep]
     omega
   · intro q hq
     rcases List.mem_append.mp hq with h|h
     · exact ha q (List.mem_of_mem_take h)
     · exact ha q (List.mem_of_mem_drop h)
 · subst h
   obtain⟨w,e,h1,h2⟩:=GK (ds:=[.str "0",.str "7",.str "-1",.str "10"]) (m:=4) c (by decide) rfl rfl
   refine⟨_,go _ .fr ?_ rfl,one w h1 (by omega) 0⟩
   unfold o5
   rw[pre]
   simp[cOf,j7,e,m4,ix0,set_,g7,sPut,J3,z4,C0,intD]
 · subst h
   obtain⟨g0,g1⟩:=o2 c (m:=2) (by decide)
   obtain⟨n,hn'⟩:=Int.eq_ofNat_of_zero_le (show 0≤8+c.fmod 2 by omega)
   have ln:(K9 0 n).length≤9:=by
     rw[W8];simp;omega
   obtain⟨acc,j,q,h1,h2⟩:=Jg (.sh false (.lst (sD ps))) (.sh false (.int 11)) (.sh false (.int c)) (.sh true (.int k)) (K9 0 n) [[49]] .no (by simp;omega) (fun p hp=>by
     rw[List.mem_singleton.mp hp]
     exact⟨asc1 49 (by decide),by decide⟩)
   have mu1:=mu_le (k:=1) (ps:=acc) fun p hp=>(h2 p hp).2
   simp only[List.length_singleton]at h1
   refine⟨acc,go _ .fr ?_ rfl,by omega,by omega,fun p hp=>(h2 p hp).1⟩
   have e1:sD [[49]]=[.str "1"]:=rfl
   rw[e1]at q
   unfold o5
   rw[pre]
   refine run (ρ':=[.sh false (.lst (sD ps)),.sh false (.int 11),.sh false (.int c),.sh true (.int k),.ow true (sD ps),.no]) (by simp[cOf,j7]) ?_
   refine run (ρ':=[.sh false (.lst (sD ps)),.sh false (.int 11),.sh false (.int c),.sh true (.int k),.ow true (sD ps),.no]) (by simp[cOf,j7]) ?_
   refine run (ρ':=[.sh false (.lst (sD ps)),.sh false (.int 11),.sh false (.int c),.sh true (.int k),.ow true (sD ps),.no]) (by simp[cOf,j7]) ?_
   refine run (ρ':=[.sh false (.lst (sD ps)),.sh false (.int 11),.sh false (.int c),.sh true (.int k),.ow true (sD ps),.no]) (by simp[cOf,j7]) ?_
   refine run (ρ':=[.sh false (.lst (sD ps)),.sh false (.int 11),.sh false (.int c),.sh true (.int k),.sh true (.lst (sD acc)),j]) ?_ (by simp[cOf])
   simp[cOf,j7,m2,hn',y13 n (by omega),q]
theorem Fz{l:List Nat}{way:Int}(c:Int)(ha:Asc l)(hl:l.length≤1600)(hc:l.count 32≤56)(hw:1≤way∧way≤11):∃ m,P1 [.str (tx l),.int way,.int c]=some (.str (tx m))∧Asc m∧m.length≤3000:=by
 obtain⟨f0,f1⟩:=o2 c (m:=(l.length:Int)+1) (by omega)
 obtain⟨k,hk⟩:=Int.eq_ofNat_of_zero_le f0
 have kl:k≤l.length:=by omega
 have ml:B0 c ((l.length:Int)+1)=true:=by unfold B0;exact decide_eq_true (by omega)
 have m8:B0 (c.fdiv 7) 8=true:=mo _ 7
 have d7:J2 c 7=true:=by unfold J2;decide
 have bl:P7 [.str (tx l)]=some (.nw,.int l.length):=BV (by omega)
 have ok:=G5 (l:=l) (by omega)
 have t1:Txt.slice (tx l) none (some (k:Int))=tx (l.take k):=BY kl
 have t2:Txt.slice (tx l) (some (k:Int)) none=tx (l.drop k):=X1 k
 have t3:Txt.slice (tx l) (some ((k:Int)+1)) none=tx (l.drop (k+1)):=by
   have:=X1 (l:=l) (k+1)
   rwa [show((k+1:Nat):Int)=(k:Int)+1 by omega]at this
 have at_:Asc (l.take k):=fun x hx=>ha x (List.mem_of_mem_take hx)
 have lt:(l.take k).length≤1600:=by simp;omega
 have ld:∀ j,(l.drop j).length≤1600:=fun j=>by simp;omega
 have go:∀ m,v7 [.sh false (.str (tx l)),.sh false (.int way),.sh false (.int c),.no]=some (.rt .nw (.str (tx m)))→P1 [.str (tx l),.int way,.int c]=some (.str (tx m)):=fun m h=>u6 (f := .nw) rfl h rfl
 have pre:∀ R:FS,sSeq (sSet [] 3 (fOp z0 (fN 2) (fOp v1 (fBlt P7 (f7 (fN 0) fNil)) (fC (.int 1))))) R [.sh false (.str (tx l)),.sh false (.int way),.sh false (.int c),.no]=R [.sh false (.str (tx l)),.sh false (.int way),.sh false (.int c),.sh true (.int k)]:=fun R =>
   run (ρ':=[.sh false (.str (tx l)),.sh false (.int way),.sh false (.int c),.sh true (.int k)]) (by simp[cOf,g7,bl,ml,hk]) rfl
 rcases show way=1∨way=2∨way=3∨way=4∨way=5∨6≤way by omega with h|h|h|h|h|h
 · subst h
   have a:=v3 (a:=[32]) (b:=l) (by decide) (by omega)
   refine⟨[32]++l,go _ ?_,Fy.app ha,by simp;omega⟩
   unfold v7
   rw[pre]
   refine E5 ?_
   simp only[List.singleton_append]at a
   simp[cOf,j7,k_sp,g7,a]
 · subst h
   have a:=v3 (a:=l) (b:=[32]) (by omega) (by decide)
   refine⟨l++[32],go _ ?_,ha.app Fy,by simp;omega⟩
   unfold v7
   rw[pre]
   simp[cOf,j7,k_sp,g7,a]
 · subst h
   have a:=v3 (a:=l.take k) (b:=[32]) (by omega) (by decide)
   have b:=v3 (a:=l.take k++[32]) (b:=l.drop k) (by simp;omega) (by have:=ld k;omega)
   refine⟨l.take k++[32]++l.drop k,go _ ?_,(at_.app Fy).app (ha.drop k),by simp;omega⟩
   unfold v7
   rw[pre]
   simp only[List.append_assoc]at b ⊢
   simp[cOf,j7,k_sp,g7,fSlS,n9,i5,intD,ok,t1,t2,a,b]
 · subst h
   have a:=v3 (a:=l.take k) (b:=l.drop (k+1)) (by omega) (by have:=ld (k+1);omega)
   refine⟨l.take k++l.drop (k+1),go _ ?_,at_.app (ha.drop _),by simp;omega⟩
   unfold v7
   rw[pre]
   simp[cOf,j7,g7,fSlS,n9,i5,intD,ok,t1,t3,a]
 · subst h
   obtain⟨w,e,h1,h2⟩:=GK (ds:=[.str "+",.str "a",.str ".",.str "/",.str "-",.str "0",.str "_",.str "\n"]) (m:=8) (c.fdiv 7) (by decide) rfl rfl
   have a:=v3 (a:=l.take k) (b:=w) (by omega) (by omega)
   have b:=v3 (a:=l.take k++w) (b:=l.drop k) (by simp;omega) (by have:=ld k;omega)
   refine⟨l.take k++w++l.drop k,go _ ?_,(at_.app h1).app (ha.drop k),by simp;omega⟩
   unfold v7
   rw[pre]
   simp only[List.append_assoc]at b ⊢
   simp[cOf,j7,g7,fSlS,n9,i5,intD,ok,t1,t2,e,m8,d7,a,b]
 · obtain⟨ps,n0,sp,hp,_,ej⟩:=Q9 (l:=l) (s:=[32]) (by simp) (by omega)
   have cn:=LD ps
   have mj:=Es ps
   rw[ej]at cn mj
   obtain⟨qs,e,h1,h2,h3⟩:=Aa (ps:=ps) (way:=way) c n0 (by omega) (by omega) (fun p hq=>Z8 ha (hp p hq).2) (by omega)
   have j2:=(Es qs).1
   have jn:=JF (s:=[32]) (ps:=qs) (by omega) (fun p hq=>by have:=(Dn (s:=[32]) hq).2;omega) (by decide)
   refine⟨B4 [32] qs,go _ ?_,Dl Fy h3,by omega⟩
   unfold v7
   rw[pre]
   have n1:¬way=1:=by omega
   have n2:¬way=2:=by omega
   have n3:¬way=3:=by omega
   have n4:¬way=4:=by omega
   have n5:¬way=5:=by omega
   simp[cOf,j7,n1,n2,n3,n4,n5,k_sp,g7,sp,e,jn]
theorem LG(ns:List Int)(h:ns.length≤63):IW [.scr ns]=some (.bl true):=by
 have c4:=v8 ns 4 (by decide)
 have c5:=v8 ns 5 (by decide)
 have m12:B0 (j9 ns 4) 12=true:=mo _ 11
 have m5:B0 (j9 ns 5) 5=true:=mo _ 4
 obtain⟨f0,f1⟩:=o2 (j9 ns 4) (m:=12) (by decide)
 refine u6 (f := .nw) rfl ?_ rfl
 unfold Ls
 generalize j9 ns 5=c at *
 generalize hway:(j9 ns 4).fmod 12=way at *
 refine run (ρ':=[.sh false (.scr ns),.sh true (.int way),.no,.no,.no]) (by simp[cOf,c4,m12,hway]) ?_
 refine run (ρ':=[.sh false (.scr ns),.sh true (.int way),.sh true (.int c),.no,.no]) (by simp[cOf,c5]) ?_
 by_cases h0:way=0
 · subst h0
   obtain⟨g0,g1⟩:=o2 c (m:=5) (by decide)
   obtain⟨d,hd,e⟩:=Jf (ds:=[Dt.non,.int 3,.lst [.str "1"],.tup [.str "1",.str "2"],.bl true]) g0 g1
   have ty:tyN d ≠ "str" := by
     simp only[List.mem_cons,List.not_mem_nil,or_false]at hd
     rcases hd with rfl|rfl|rfl|rfl|rfl<;>decide
   have q:=Z9 (.inl (LA ty))
   refine E5 ?_
   simp[cOf,j7,m5,e,q]
 · refine run (ρ':=[.sh false (.scr ns),.sh true (.int way),.sh true (.int c),.no,.no]) (by simp[cOf,j7,h0]) ?_
   obtain⟨l,el,a1,a2,a3⟩:=JM (BP ns).2 (by rw[ES];exact Dd ns) (DX ns) (Gw ns)
   obtain⟨m,em,b1,b2⟩:=Fz (way:=way) c a1 a2 a3 (by omega)
   have eb:=GD ns
   refine run (ρ':=[.sh false (.scr ns),.sh true (.int way),.sh true (.int c),.sh true (.str (tx m)),.no]) (by simp[cOf,eb,el,em,g7]) ?_
   rcases JL b1 b2 with⟨k1,k2⟩|⟨n,rs,k1,k2⟩
   · have q:=Z9 k2
     refine run (ρ':=[.sh false (.scr ns),.sh true (.int way),.sh true (.int c),.sh true (.str (tx m)),.sh true .non]) (by simp[cOf,k1,g7]) ?_
     refine E5 ?_
     simp[cOf,M2,isN,g7,q]
   · have q:=Lx n rs
     refine run (ρ':=[.sh false (.scr ns),.sh true (.int way),.sh true (.int c),.sh true (.str (tx m)),.sh true (C6 n rs)]) (by simp[cOf,k1,g7]) ?_
     refine run (ρ':=[.sh false (.scr ns),.sh true (.int way),.sh true (.int c),.sh true (.str (tx m)),.sh true (C6 n rs)]) (by simp[cOf,M2,isN,C6]) ?_
     simp[cOf,k2,g7,q]
end
def top(i:Nat):Stmt:=PySem.Challenge.pw_changehall_k37_texts_refused.main.body.getD i (.Pass ⟨0,0,0,0⟩)
abbrev X4:Stmt:=top 5
theorem FD:FnScope ["value"] ["value"] (g6 X4):=scm
abbrev Ab:Stmt:=top 6
theorem JO:FnScope ["value", "length"] ["value", "length"] (g6 Ab):=scm
abbrev S1:Stmt:=top 10
theorem Eu:FnScope ["value"] ["value"] (g6 S1):=scm
abbrev U7:Stmt:=top 11
theorem GL:FnScope ["value", "kinds"] ["value", "kinds"] (g6 U7):=scm
abbrev P2:Stmt:=top 12
theorem V8:FnScope ["kinds"] ["kinds"] (g6 P2):=scm
abbrev S2:Stmt:=top 13
theorem Ac:FnScope ["bill", "kinds"] ["bill", "kinds"] (g6 S2):=scm
abbrev U8:Stmt:=top 15
theorem GM:FnScope ["kinds", "rows"] ["kinds", "rows"] (g6 U8):=scm
abbrev Av:Stmt:=top 14
theorem P3:FnScope ["kinds", "bills", "bill"] ["kinds", "bills"] (g6 Av):=scm
abbrev D8:Stmt:=top 18
theorem Ci:FnScope ["text"] ["text"] (g6 D8):=scm
abbrev L6:Stmt:=top 19
theorem C3:FnScope ["text", "size"] ["text"] (g6 L6):=scm
abbrev S3:Stmt:=top 20
theorem Ad:FnScope ["line"] ["line"] (g6 S3):=scm
abbrev D2:Stmt:=top 21
theorem AS:FnScope ["text"] ["text"] (g6 D2):=scm
abbrev Aw:Stmt:=top 22
theorem F1:FnScope ["line", "pieces", "kinds", "bills"] ["line"] (g6 Aw):=scm
abbrev S4:Stmt:=top 24
theorem Ev:FnScope ["_law_script", "_law_k"] ["_law_script", "_law_k"] (g6 S4):=scm
abbrev X5:Stmt:=top 25
theorem K4:FnScope ["_law_cell", "_law_mode", "_law_number_here", "_law_wide"] ["_law_cell", "_law_mode"] (g6 X5):=scm
abbrev Bj:Stmt:=top 26
theorem LH:FnScope ["_law_script", "_law_at", "_law_size", "_law_mode"] ["_law_script", "_law_at", "_law_size", "_law_mode"] (g6 Bj):=scm
abbrev U9:Stmt:=top 27
theorem v9:FnScope ["_law_script", "_law_mode", "_law_kinds", "_law_many"] ["_law_script"] (g6 U9):=scm
abbrev L7:Stmt:=top 29
theorem t8:FnScope ["_law_word_here", "_law_figures", "_law_made", "_law_sign", "_law_at"] ["_law_word_here"] (g6 L7):=scm
abbrev K5:Stmt:=top 30
theorem A9:FnScope ["_law_line_here", "_law_pieces", "_law_kinds", "_law_bills_here", "_law_piece", "_law_row_here"] ["_law_line_here"] (g6 K5):=scm
abbrev Cj:Stmt:=top 31
theorem JP:FnScope ["_law_way", "_law_cell"] ["_law_way", "_law_cell"] (g6 Cj):=scm
abbrev D3:Stmt:=top 32
theorem o9:FnScope ["_law_words", "_law_way", "_law_cell", "_law_at", "_law_made", "_law_k"] ["_law_words", "_law_way", "_law_cell"] (g6 D3):=scm
abbrev X6:Stmt:=top 33
theorem AT:FnScope ["_law_line_here", "_law_way", "_law_cell", "_law_at"] ["_law_line_here", "_law_way", "_law_cell"] (g6 X6):=scm
abbrev S5:Stmt:=top 34
theorem C4:FnScope ["_law_line_here", "_law_refused_here", "e"] ["_law_line_here"] (g6 S5):=scm
abbrev Ck:Stmt:=top 35
theorem F5:FnScope ["_law_drawn", "_law_made", "_law_bill", "_law_number_here"] ["_law_drawn"] (g6 Ck):=scm
abbrev LI:Stmt:=top 36
theorem Cl:FnScope ["_law_script", "_law_way", "_law_cell", "_law_line_here", "_law_due"] ["_law_script"] (g6 LI):=scm
set_option genInjectivity false in
structure Adr where
 Cp:Addr
 Cq:FuncData
 FL:Addr
 FM:FuncData
 AV:Addr
 AW:FuncData
 Dw:Addr
 Dx:FuncData
 P4:Addr
 P5:FuncData
 S9:Addr
 T0:FuncData
 Dy:Addr
 Dz:FuncData
 Ax:Addr
 Ay:FuncData
 V9:Addr
 W0:FuncData
 L8:Addr
 L9:FuncData
 T1:Addr
 T2:FuncData
 X7:Addr
 X8:FuncData
 Iv:Addr
 Iw:FuncData
 AX:Addr
 AY:FuncData
 Cr:Addr
 Cs:FuncData
 Jh:Addr
 Ji:FuncData
 DA:Addr
 DB:FuncData
 W1:Addr
 W2:FuncData
 AZ:Addr
 Ba:FuncData
 FN:Addr
 FQ:FuncData
 N0:Addr
 N1:FuncData
 Ct:Addr
 Cu:FuncData
 Bb:Addr
 Bc:FuncData
 FU:Addr
 FV:FuncData
 a_law:Addr
 Jj:FuncData
 F2:Tok
 C5:Tok
 F3:Tok
 x_HallError:Addr
 x_NoHall:Addr
 x_NoText:Addr
structure Facts(K:PySem.W.Frag)(mg:Str→Option Value)(A:Adr):Prop where
 EA:mg "ValueError" = none
 n_abs:mg "abs" = none
 NA:mg "all" = none
 n_bool:mg "bool" = none
 Jk:mg "int" = none
 u8:mg "isinstance" = none
 T3:mg "len" = none
 EB:mg "list" = none
 EC:mg "range" = none
 Jl:mg "str" = none
 Bk:mg "tuple" = none
 Ah:mg "MOST_BILLS" = some (.int 8 A.F2)
 Cv:mg "MOST_FIGURES" = some (.int 30 A.C5)
 ED:mg "MOST_KINDS" = some (.int 6 A.F3)
 X9:Df K mg "is_whole" X4 ["value"] A.Cp A.Cq
 FY:Df K mg "is_row" Ab ["value", "length"] A.FL A.FM
 T4:Df K mg "are_kinds" S1 ["value"] A.AV A.AW
 Az:Df K mg "is_bill" U7 ["value", "kinds"] A.Dw A.Dx
 F4:Df K mg "need_kinds" P2 ["kinds"] A.P4 A.P5
 K6:Df K mg "need_bill" S2 ["bill", "kinds"] A.S9 A.T0
 AA:Df K mg "hall_by" U8 ["kinds", "rows"] A.Dy A.Dz
 V0:Df K mg "hall_of" Av ["kinds", "bills"] A.Ax A.Ay
 M0:Df K mg "are_figures" D8 ["text"] A.V9 A.W0
 p8:Df K mg "read_number" L6 ["text"] A.L8 A.L9
 K7:Df K mg "need_text" S3 ["line"] A.T1 A.T2
 D4:Df K mg "read_row" D2 ["text"] A.X7 A.X8
 Cw:Df K mg "read" Aw ["line"] A.Iv A.Iw
 v5:Df K mg "_law_cell_at" S4 ["_law_script", "_law_k"] A.AX A.AY
 Cy:Df K mg "_law_number" X5 ["_law_cell", "_law_mode"] A.Cr A.Cs
 Jm:Df K mg "_law_row" Bj ["_law_script", "_law_at", "_law_size", "_law_mode"] A.Jh A.Ji
 DC:Df K mg "_law_bills" U9 ["_law_script"] A.DA A.DB
 M1:Df K mg "_law_number_of" L7 ["_law_word_here"] A.W1 A.W2
 Bd:Df K mg "_law_hall_of" K5 ["_law_line_here"] A.AZ A.Ba
 FZ:Df K mg "_law_word" Cj ["_law_way", "_law_cell"] A.FN A.FQ
 N2:Df K mg "_law_spoilt_words" D3 ["_law_words", "_law_way", "_law_cell"] A.N0 A.N1
 Cz:Df K mg "_law_spoilt" X6 ["_law_line_here", "_law_way", "_law_cell"] A.Ct A.Cu
 T5:Df K mg "_law_refused" S5 ["_law_line_here"] A.Bb A.Bc
 Ga:Df K mg "_law_line" Ck ["_law_drawn"] A.FU A.FV
 f_law:Df K mg "law" LI ["_law_script"] A.a_law A.Jj
 x_NoHall:Xc K mg 1 A.x_NoHall
 x_NoText:Xc K mg 4 A.x_NoText
 h_HallError:Hit K mg h_HallError "HallError" A.x_HallError
 h_NoHall:Hit K mg h_NoHall "NoHall" A.x_NoHall
 h_NoText:Hit K mg h_NoText "NoText" A.x_NoText
section
variable {K:PySem.W.Frag}{mg:Str→Option Value}{P:Program}{w:World}{base:Heap}{A:Adr}
theorem AU(T:Facts K mg A):FnOk P w K mg base CX0 1 A.Cp A.Cq ["value"] (spc K true C9) :=
 T.X9.d 0 X2 FD (fun _ _ _ _ _ _ hr hu =>
  (g9 (o4 (Kz (BF (T := "int") rfl rfl T.u8 rfl T.Jk (by decide +kernel) (f9 0)) (Kx (p_not (BF (T := "bool") rfl rfl T.u8 rfl T.n_bool (by decide +kernel) (f9 0))))))))
theorem JQ(T:Facts K mg A):FnOk P w K mg base CX0 2 A.FL A.FM ["value", "length"] (spc K true R0) :=
 T.FY.d 1 BZ JO (fun _ _ _ _ _ _ hr hu =>
  (g5 (s_if (PFW.pt (w_or (P6 (F8 (BF (T := "list") rfl rfl T.u8 rfl T.EB (by decide +kernel) (f9 0)) (fun _=>rfl))) (BB (t_cm (o_ne hu) (p_bu AC T.T3 (q_n 0 i3)) (f9 1))))) (g9 (o4 p_bl)) j8)
   (g9 (o4 (p_bu (KB rfl) T.NA (i0 (p_co ["number"] 1 [] ["value", "length"] (g6 Ab).names (G0 (f9 0)) (fun _ _ _ _ _=>(p_ca (AU T) T.X9 hr (q_n 0 i3)))) i3))))))
theorem Ae(T:Facts K mg A):FnOk P w K mg base CX0 2 A.AV A.AW ["value"] (spc K true u7) :=
 T.T4.d 1 J7 Eu (fun _ _ _ _ _ _ hr hu =>
  (g9 (o4 (Kz (p_ca (AU T) T.X9 hr (q_n 0 i3)) (Kx (NZ o_le o_le i4 (f9 0) (DL rfl T.ED)))))))
theorem Cm(T:Facts K mg A):FnOk P w K mg base CX0 3 A.Dw A.Dx ["value", "kinds"] (spc K true r8) :=
 T.Az.d 2 M7 GL (fun _ _ _ _ _ _ hr hu =>
  (g9 (o4 (Kz (p_ca (JQ T) T.FY hr (q_n 0 (q_n 1 i3))) (Kx (p_bu (KB rfl) T.NA (i0 (p_co ["number"] 1 [] ["value", "kinds"] (g6 U7).names (G0 (f9 0)) (fun _ _ _ _ _=>(p_cm o_lt (p_bu c_abs T.n_abs (q_n 0 i3)) (p_op Ku i4 i4)))) i3)))))))
theorem Cn(T:Facts K mg A):FnOk P w K mg base (CX1 P w) 3 A.P4 A.P5 ["kinds"] (spx K mg true E9) :=
 Fun.datX (k:=2) (F:=E8) T.F4.fn V8 rfl rfl (fun cdv A outer s H E hr=>have hu:=hr.units
  (g9 (s_if (P6 (F8 (p_ca (Ae T) T.T4 hr (q_n 0 i3)) (fun _=>rfl))) (g9 (U3 1 rfl T.x_NoHall rfl)) j8)))
theorem CF(T:Facts K mg A):FnOk P w K mg base CX0 3 A.P4 A.P5 ["kinds"] (spc K true F0) :=
 T.F4.d 2 O8 V8 (fun _ _ _ _ _ _ hr hu =>
  (g9 (s_if (P6 (F8 (p_ca (Ae T) T.T4 hr (q_n 0 i3)) (fun _=>rfl))) (g9 U2) j8)))
theorem CG(T:Facts K mg A):FnOk P w K mg base (CX1 P w) 4 A.S9 A.T0 ["bill", "kinds"] (spx K mg true J9) :=
 Fun.datX (k:=3) (F:=J8) T.K6.fn Ac rfl rfl (fun cdv A outer s H E hr=>have hu:=hr.units
  (g9 (s_if (P6 (F8 (p_ca (Cm T) T.Az hr (q_n 0 (q_n 1 i3))) (fun _=>rfl))) (g9 (U3 1 rfl T.x_NoHall rfl)) j8)))
theorem Ew(T:Facts K mg A):FnOk P w K mg base CX0 4 A.S9 A.T0 ["bill", "kinds"] (spc K true B5) :=
 T.K6.d 3 R1 Ac (fun _ _ _ _ _ _ hr hu =>
  (g9 (s_if (P6 (F8 (p_ca (Cm T) T.Az hr (q_n 0 (q_n 1 i3))) (fun _=>rfl))) (g9 U2) j8)))
theorem Co(T:Facts K mg A):FnOk P w K mg base CX0 1 A.Dy A.Dz ["kinds", "rows"] (spc K true M8) :=
 T.AA.d 0 Aq GM (fun _ _ _ _ _ _ hr hu =>
  (g9 (o4 (@IB _ _ _ _ _ (@i0 _ _ _ _ _ (f9 0) (@i0 _ _ _ _ _ (p_ty IE T.Bk (i0 (p_co ["row"] 1 [] ["kinds", "rows"] (g6 U8).names (G0 (f9 1)) (fun _ _ _ _ _=>(p_ty IE T.Bk (q_n 0 i3)))) i3)) i3 rfl) rfl)))))
theorem FG(T:Facts K mg A):FnOk P w K mg base (CX1 P w) 5 A.Ax A.Ay ["kinds", "bills"] (spx K mg true B6) :=
 Fun.datX (k:=4) (F:=M9) T.V0.fn P3 rfl rfl (fun cdv A outer s H E hr=>have hu:=hr.units
  (g5 (DT (Cn T) T.F4 hr rfl (q_n 0 i3))
   (g5 (s_if (PFW.pt (w_or (P6 (F8 (BF (T := "list") rfl rfl T.u8 rfl T.EB (by decide +kernel) (f9 1)) (fun _=>rfl))) (BB (t_cm o_gt (p_bu AC T.T3 (q_n 1 i3)) (DL rfl T.Ah))))) (g9 (U3 1 rfl T.x_NoHall rfl)) j8)
   (g5 (BK (rels:=[]) (g:=(Tg.one 2)) PassesOwn.leaving rfl (G0 (f9 1)) (Q5 P3.nd rfl (Or.inl rfl) (Or.inl rfl)) (g9 (DT (CG T) T.K6 hr rfl (q_n 2 (q_n 0 i3)))))
   (g9 (o4 (p_ca (Co T) T.AA hr (q_n 0 (q_n 1 i3)))))))))
theorem GN(T:Facts K mg A):FnOk P w K mg base CX0 5 A.Ax A.Ay ["kinds", "bills"] (spc K true U5) :=
 T.V0.d 4 Ar P3 (fun _ _ _ _ _ _ hr hu =>
  (g5 (Gq (p_ca (CF T) T.F4 hr (q_n 0 i3)))
   (g5 (s_if (PFW.pt (w_or (P6 (F8 (BF (T := "list") rfl rfl T.u8 rfl T.EB (by decide +kernel) (f9 1)) (fun _=>rfl))) (BB (t_cm o_gt (p_bu AC T.T3 (q_n 1 i3)) (DL rfl T.Ah))))) (g9 U2) j8)
   (g5 (BK (rels:=[]) (g:=(Tg.one 2)) PassesOwn.never rfl (G0 (f9 1)) (Q5 P3.nd rfl (Or.inl rfl) (Or.inl rfl)) (g9 (Gq (p_ca (Ew T) T.K6 hr (q_n 2 (q_n 0 i3))))))
   (g9 (o4 (p_ca (Co T) T.AA hr (q_n 0 (q_n 1 i3)))))))))
theorem S6(T:Facts K mg A):FnOk P w K mg base CX0 1 A.V9 A.W0 ["text"] (spc K true B1) :=
 T.M0.d 0 L3 Ci (fun _ _ _ _ _ _ hr hu =>
  (g5 (s_if (P6 (Oa o_le o_le i4 (p_bu Gx T.T3 (q_n 0 i3)) (DL rfl T.Cv))) (g9 (o4 p_bl)) j8)
   (g9 (o4 (p_bu (KB rfl) T.NA (i0 (p_co ["sign"] 1 [] ["text"] (g6 D8).names (i_str (f9 0)) (fun _ _ _ _ _=>(p_cmp o_inS (f9 0) j0 (by with_unfolding_all rfl)))) i3))))))
theorem P9(T:Facts K mg A):FnOk P w K mg base (CX1 P w) 2 A.L8 A.L9 ["text"] (spx K mg true u9) :=
 Fun.datX (k:=1) (F:=L4) T.p8.fn C3 rfl rfl (fun cdv A outer s H E hr=>have hu:=hr.units
  (g5 (asn 1 (p_if (F8 (Z4 (f9 0) j0) (fun _=>rfl)) (A4 (f9 0) (A0 i4) z9) (f9 0)) C3.nd)
   (g5 (s_if (P6 (F8 (p_ca (S6 T) T.M0 hr (q_n 1 i3)) (fun _=>rfl))) (g9 (U3 4 rfl T.x_NoText rfl)) j8)
   (g5 (s_if (PFW.pt (Kw (F8 (Z4 (f9 1) j0) (fun _=>rfl)) (Gm (t_cm (o_ne hu) (f9 0) j0)))) (g9 (U3 4 rfl T.x_NoText rfl)) j8)
   (g9 (o4 (p_ty KY T.Jk (q_n 0 i3))))))))
theorem A6(T:Facts K mg A):FnOk P w K mg base CX0 2 A.L8 A.L9 ["text"] (spc K true j6) :=
 T.p8.d 1 D7 C3 (fun _ _ _ _ _ _ hr hu =>
  (g5 (asn 1 (p_if (F8 (Z4 (f9 0) j0) (fun _=>rfl)) (A4 (f9 0) (A0 i4) z9) (f9 0)) C3.nd)
   (g5 (s_if (P6 (F8 (p_ca (S6 T) T.M0 hr (q_n 1 i3)) (fun _=>rfl))) (g9 U2) j8)
   (g5 (s_if (PFW.pt (Kw (F8 (Z4 (f9 1) j0) (fun _=>rfl)) (Gm (t_cm (o_ne hu) (f9 0) j0)))) (g9 U2) j8)
   (g9 (o4 (p_ty KY T.Jk (q_n 0 i3))))))))
theorem CH(T:Facts K mg A):FnOk P w K mg base (CX1 P w) 1 A.T1 A.T2 ["line"] (spx K mg true K1) :=
 Fun.datX (k:=0) (F:=K0) T.K7.fn Ad rfl rfl (fun cdv A outer s H E hr=>have hu:=hr.units
  (g9 (s_if (P6 (F8 (BF (T := "str") rfl rfl T.u8 rfl T.Jl (by decide +kernel) (f9 0)) (fun _=>rfl))) (g9 (U3 4 rfl T.x_NoText rfl)) j8)))
theorem Ex(T:Facts K mg A):FnOk P w K mg base CX0 1 A.T1 A.T2 ["line"] (spc K true K2) :=
 T.K7.d 0 R3 Ad (fun _ _ _ _ _ _ hr hu =>
  (g9 (s_if (P6 (F8 (BF (T := "str") rfl rfl T.u8 rfl T.Jl (by decide +kernel) (f9 0)) (fun _=>rfl))) (g9 U2) j8)))
theorem Ey(T:Facts K mg A):FnOk P w K mg base (CX1 P w) 3 A.X7 A.X8 ["text"] (spx K mg true G6) :=
 Fun.datX (k:=2) (F:=O9) T.D4.fn AS rfl rfl (fun cdv A outer s H E hr=>have hu:=hr.units
  (g9 (s_or (o4 (p_co ["piece"] 1 [] ["text"] (g6 D2).names (G0 (J4 (f9 0) j0)) (fun _ _ _ _ _=>(p_ca (A6 T) T.p8 hr (q_n 0 i3))))) (s_retR (r_comp (O3 (N:=["piece"]) (nt:=1) (js:=[]) ["text"] (g6 D2).names rfl rfl rfl (by decide +kernel)) rfl (G0 (J4 (f9 0) j0)) (fun _ _ _ _ _ _=>Q5 (ndp ["piece"]) rfl (Or.inl rfl) (Or.inr rfl)) (show 0<1 by decide) (fun _ _ _ _ _ _=>(p_ca (A6 T) T.p8 hr (q_n 0 i3))) (fun _ _ _ _ _ _=>IU (P9 T) T.p8 hr rfl (q_n 0 i3)) (jlt [] 1) (nfr (by decide +kernel)) rfl rfl rfl)))))
theorem S7(T:Facts K mg A):FnOk P w K mg base CX0 3 A.X7 A.X8 ["text"] (spc K true A5) :=
 T.D4.d 2 G7 AS (fun _ _ _ _ _ _ hr hu =>
  (g9 (o4 (p_co ["piece"] 1 [] ["text"] (g6 D2).names (G0 (J4 (f9 0) j0)) (fun _ _ _ _ _=>(p_ca (A6 T) T.p8 hr (q_n 0 i3)))))))
theorem FH(T:Facts K mg A):FnOk P w K mg base (CX1 P w) 6 A.Iv A.Iw ["line"] (spx K mg true G8) :=
 Fun.datX (k:=5) (F:=Eh) T.Cw.fn F1 rfl rfl (fun cdv A outer s H E hr=>have hu:=hr.units
  (g5 (DT (CH T) T.K7 hr rfl (q_n 0 i3))
   (g5 (asn 1 (J4 (f9 0) j0) F1.nd)
   (g5 (s_or (V3 (rels:=[]) (A1 (i:=2) (p_ca (A6 T) T.p8 hr (i0 (p_i (f9 1) i4) i3)) F1.nd rfl (Or.inl rfl) rfl (Or.inl rfl))) (s_asgR (i:=2) (r_call (P9 T) T.p8 hr rfl (i0 (p_i (f9 1) i4) i3)) F1.nd rfl (Or.inl rfl)))
   (g5 (s_or (V3 (rels:=[]) (a_co 3 F1.nd ["piece"] 1 [] ["line", "pieces", "kinds", "bills"] (g6 Aw).names (G0 (U1 (f9 1) (A0 i4) z9)) (fun _ _ _ _ _=>(p_ca (S7 T) T.D4 hr (q_n 0 i3))))) (s_asgC rfl (O3 (N:=["piece"]) (nt:=1) (js:=[]) ["line", "pieces", "kinds", "bills"] (g6 Aw).names rfl rfl rfl (by decide +kernel)) rfl (G0 (U1 (f9 1) (A0 i4) z9)) (fun _ _ _ _ _ _=>Q5 (ndp ["piece"]) rfl (Or.inl rfl) (Or.inr rfl)) (show 0<1 by decide) (fun _ _ _ _ _ _=>(p_ca (S7 T) T.D4 hr (q_n 0 i3))) (fun _ _ _ _ _ _=>IU (Ey T) T.D4 hr rfl (q_n 0 i3)) (jlt [] 4) (nfr (by decide +kernel)) rfl rfl rfl))
   (g9 (s_tryR 8 (FG T) T.V0 hr rfl (fun _=>(q_n 2 (q_n 3 i3))) rfl T.h_NoHall T.x_NoText.w rfl)))))))
theorem Ox(T:Facts K mg A):FnOk P w K mg base CX0 6 A.Iv A.Iw ["line"] (spc K true GC) :=
 T.Cw.d 5 GB F1 (fun _ _ _ _ _ _ hr hu =>
  (g5 (Gq (p_ca (Ex T) T.K7 hr (q_n 0 i3)))
   (g5 (asn 1 (J4 (f9 0) j0) F1.nd)
   (g5 (asn 2 (p_ca (A6 T) T.p8 hr (i0 (p_i (f9 1) i4) i3)) F1.nd)
   (g5 (V3 (rels:=[]) (a_co 3 F1.nd ["piece"] 1 [] ["line", "pieces", "kinds", "bills"] (g6 Aw).names (G0 (U1 (f9 1) (A0 i4) z9)) (fun _ _ _ _ _=>(p_ca (S7 T) T.D4 hr (q_n 0 i3)))))
   (g9 (Os (fun _ _ h=>h) (o4 (p_ca (GN T) T.V0 hr (q_n 2 (q_n 3 i3)))))))))))
theorem w6(T:Facts K mg A):FnOk P w K mg base CX0 1 A.AX A.AY ["_law_script", "_law_k"] (spc K true p5) :=
 T.v5.d 0 R4 Ev (fun _ _ _ _ _ _ hr hu =>
  (g5 (s_if (t_cm o_lt (f9 1) (p_bu AC T.T3 (q_n 0 i3))) (g9 (o4 (p_i (f9 0) (f9 1)))) j8)
   (g5 (s_if (t_cm (o_eq hu) (f9 0) (Q4 i3)) (g9 (o4 i4)) j8)
   (g9 (o4 (p_op F7 (p_op Kt (p_i (f9 0) (p_op B9 (f9 1) (p_bu AC T.T3 (q_n 0 i3)))) i4) (f9 1)))))))
theorem FJ(T:Facts K mg A):FnOk P w K mg base CX0 1 A.Cr A.Cs ["_law_cell", "_law_mode"] (spc K true D1) :=
 T.Cy.d 0 G9 K4 (fun _ _ _ _ _ _ hr hu =>
  (g5 (s_if (t_cm (o_eq hu) (f9 1) i4) (g5 (asn 2 (p_op B9 (f9 0) (p_op Ku i4 i4)) K4.nd)
   (g5 (s_if (t_cm (o_eq hu) (p_op B9 (p_op DN (f9 0) (p_op Ku i4 i4)) i4) i4) (g9 (o4 (p_neg (f9 2)))) j8)
   (g9 (o4 (f9 2))))) j8)
   (g5 (asn 3 (p_i (Q4 (i0 i4 (i0 i4 i3))) (f9 1)) K4.nd)
   (g5 (asn 2 (p_op B9 (f9 0) (f9 3)) K4.nd)
   (g5 (s_if (t_cm o_gt (f9 2) (p_op DN (f9 3) i4)) (g9 (o4 (p_op o_sub (f9 2) (f9 3)))) j8)
   (g9 (o4 (f9 2))))))))
theorem LJ(T:Facts K mg A):FnOk P w K mg base CX0 2 A.Jh A.Ji ["_law_script", "_law_at", "_law_size", "_law_mode"] (spc K true P0) :=
 T.Jm.d 1 Ei LH (fun _ _ _ _ _ _ hr hu =>
  (g9 (o4 (p_co ["_law_k", "_law_script", "_law_at", "_law_mode"] 1 [0,1,3] ["_law_script", "_law_at", "_law_size", "_law_mode"] (g6 Bj).names (BG rfl T.EC (f9 2)) (fun _ _ _ _ _=>(p_ca (FJ T) T.Cy hr (i0 (p_ca (w6 T) T.v5 hr (q_n 1 (i0 (p_op F7 (f9 2) (f9 0)) i3))) (q_n 3 i3))))))))
theorem GO(T:Facts K mg A):FnOk P w K mg base CX0 3 A.DA A.DB ["_law_script"] (spc K true Au) :=
 T.DC.d 2 Dr v9 (fun _ _ _ _ _ _ hr hu =>
  (g5 (V3 (rels:=[]) (A1 (i:=1) (p_i (Q4 (i0 i4 (i0 i4 (i0 i4 (i0 i4 (i0 i4 i3)))))) (p_op B9 (p_ca (w6 T) T.v5 hr (q_n 0 (i0 i4 i3))) i4)) v9.nd rfl (Or.inr rfl) rfl (Or.inl rfl)))
   (g5 (V3 (rels:=[]) (A1 (i:=2) (p_op F7 i4 (p_op B9 (p_ca (w6 T) T.v5 hr (q_n 0 (i0 i4 i3))) i4)) v9.nd rfl (Or.inr rfl) rfl (Or.inl rfl)))
   (g5 (asn 3 (p_op B9 (p_ca (w6 T) T.v5 hr (q_n 0 (i0 i4 i3))) i4) v9.nd)
   (g5 (s_if (t_cm (o_eq hu) (p_op B9 (p_ca (w6 T) T.v5 hr (q_n 0 (i0 i4 i3))) i4) i4) (g5 (V3 (rels:=[]) (A1 (i:=2) i4 v9.nd rfl (Or.inr rfl) rfl (Or.inl rfl)))
   (g5 (asn 3 i4 v9.nd)
   (g9 (V3 (rels:=[]) (A1 (i:=1) i4 v9.nd rfl (Or.inr rfl) rfl (Or.inl rfl)))))) j8)
   (g5 (s_if (t_cm (o_eq hu) (f9 1) i4) (g5 (V3 (rels:=[]) (A1 (i:=2) (p_op F7 i4 (p_op B9 (f9 2) i4)) v9.nd rfl (Or.inr rfl) rfl (Or.inl rfl)))
   (g9 (asn 3 (p_op B9 (f9 3) i4) v9.nd))) j8)
   (g9 (o4 (@IB _ _ _ _ _ (@i0 _ _ _ _ _ (f9 2) (@i0 _ _ _ _ _ (p_co ["_law_k", "_law_script", "_law_kinds", "_law_mode"] 1 [0,2,1] ["_law_script", "_law_mode", "_law_kinds", "_law_many"] (g6 U9).names (BG rfl T.EC (f9 3)) (fun _ _ _ _ _=>(p_ca (LJ T) T.Jm hr (q_n 1 (i0 (p_op F7 i4 (p_op Kt (f9 2) (f9 0))) (q_n 2 (q_n 3 i3))))))) i3 rfl) rfl))))))))))
theorem S8(T:Facts K mg A):FnOk P w K mg base CX0 1 A.W1 A.W2 ["_law_word_here"] (spc K true p7) :=
 T.M1.d 0 z6 t8 (fun _ _ _ _ _ _ hr hu =>
  (g5 (asn 1 (f9 0) t8.nd)
   (g5 (s_if (t_cm (o_eq hu) (A4 (f9 0) z9 (A0 i4)) j0) (g9 (asn 1 (A4 (f9 0) (A0 i4) z9) t8.nd)) j8)
   (g5 (s_if (PFW.pt (w_or (t_cm (o_eq hu) (f9 1) j0) (w_or (t_cm o_gt (p_bu Gx T.T3 (q_n 1 i3)) i4) (BB (PFW.pt (Kw (t_cm (o_eq hu) (p_ixS (f9 1) i4) j0) (Gm (t_cm (o_ne hu) (f9 0) j0)))))))) (g9 (o4 AB)) j8)
   (g5 (asn 2 i4 t8.nd)
   (g5 (BK (rels:=[]) (g:=(Tg.one 3)) PassesOwn.never rfl (i_str (f9 1)) (Q5 t8.nd rfl (Or.inl rfl) (Or.inl rfl)) (g5 (asn 4 (p_find j0 (f9 3)) t8.nd)
   (g5 (s_if (t_cm o_lt (f9 4) i4) (g9 (o4 AB)) j8)
   (g9 (asn 2 (p_op F7 (p_op Kt i4 (f9 2)) (f9 4)) t8.nd)))))
   (g5 (s_if (t_cm (o_eq hu) (A4 (f9 0) z9 (A0 i4)) j0) (g9 (o4 (p_neg (f9 2)))) j8)
   (g9 (o4 (f9 2))))))))))
theorem Ez(T:Facts K mg A):FnOk P w K mg base CX0 2 A.AZ A.Ba ["_law_line_here"] (spc K true B7) :=
 T.Bd.d 1 R5 A9 (fun _ _ _ _ _ _ hr hu =>
  (g5 (asn 1 (J4 (f9 0) j0) A9.nd)
   (g5 (asn 2 (p_ca (S8 T) T.M1 hr (i0 (p_i (f9 1) i4) i3)) A9.nd)
   (g5 (s_if (PFW.pt (w_or (t_cm o_isN (f9 2) AB) (w_or (t_cm o_lt (f9 2) i4) (w_or (t_cm o_gt (f9 2) i4) (BB (t_cm o_gt (p_bu AC T.T3 (q_n 1 i3)) i4)))))) (g9 (o4 AB)) j8)
   (g5 (s_own (A1 (i:=3) (Q4 i3) A9.nd rfl (Or.inl rfl) rfl (Or.inl rfl)))
   (g5 (BK (rels:=[]) (g:=(Tg.one 4)) PassesOwn.never rfl (G0 (U1 (f9 1) (A0 i4) z9)) (Q5 A9.nd rfl (Or.inl rfl) (Or.inl rfl)) (g5 (V3 (rels:=[]) (a_co 5 A9.nd ["_law_word_here"] 1 [] ["_law_line_here", "_law_pieces", "_law_kinds", "_law_bills_here", "_law_piece", "_law_row_here"] (g6 K5).names (G0 (J4 (f9 4) j0)) (fun _ _ _ _ _=>(p_ca (S8 T) T.M1 hr (q_n 0 i3)))))
   (g5 (s_if (PFW.pt (w_or (t_cmp o_inN AB (f9 5) (by with_unfolding_all rfl)) (BB (t_cm (o_ne hu) (p_bu AC T.T3 (q_n 5 i3)) (f9 2))))) (g9 (o4 AB)) j8)
   (g9 (s_wr1 (i:=3) mw_app F.slot_list_append F.type_list_append rfl (Or.inl rfl) (p_ty IE T.Bk (q_n 5 i3)))))))
   (g9 (o4 (@IB _ _ _ _ _ (@i0 _ _ _ _ _ (f9 2) (@i0 _ _ _ _ _ (p_ty IE T.Bk (q_n 3 i3)) i3 rfl) rfl))))))))))
theorem JR(T:Facts K mg A):FnOk P w K mg base CX0 1 A.FN A.FQ ["_law_way", "_law_cell"] (spc K true Ca) :=
 T.FZ.d 0 Z5 JP (fun _ _ _ _ _ _ hr hu =>
  (@g5 _ _ _ _ _ (@s_if _ _ _ _ _ _ _ _ (t_cm (o_eq hu) (f9 0) i4) (@g9 _ _ _ (@o4 _ _ _ _ (@p_i _ _ _ _ _ _ (@Q4 _ _ _ _ (@i0 _ _ _ _ _ j0 (@i0 _ _ _ _ _ j0 (@i0 _ _ _ _ _ j0 (@i0 _ _ _ _ _ j0 (@i0 _ _ _ _ _ j0 (@i0 _ _ _ _ _ j0 (@i0 _ _ _ _ _ j0 (@i0 _ _ _ _ _ j0 (@i0 _ _ _ _ _ j0 (@i0 _ _ _ _ _ j0 (@i0 _ _ _ _ _ j0 (@i0 _ _ _ _ _ j0 i3 rfl) rfl) rfl) rfl) rfl) rfl) rfl) rfl) rfl) rfl) rfl) rfl)) (p_op B9 (f9 1) i4) (fun _ _=>rfl)))) j8)
   (g9 (o4 (p_op G4 j0 (p_op o_mulS j0 (p_op F7 i4 (p_op B9 (f9 1) i4))))))))
theorem Af(T:Facts K mg A):FnOk P w K mg base CX0 2 A.N0 A.N1 ["_law_words", "_law_way", "_law_cell"] (spc K true v4) :=
 T.N2.d 1 o5 o9 (fun _ _ _ _ _ _ hr hu =>
  (g5 (asn 3 (p_op B9 (p_op DN (f9 2) i4) (p_bu AC T.T3 (q_n 0 i3))) o9.nd)
   (g5 (s_own (A1 (i:=4) (p_ty c_lst T.EB (q_n 0 i3)) o9.nd rfl (Or.inl rfl) rfl (Or.inl rfl)))
   (g5 (s_if (PFW.pt (w_or (t_cm (o_eq hu) (f9 1) i4) (BB (t_cm (o_eq hu) (f9 1) i4)))) (g9 (s_put (i:=4) rfl (Or.inl rfl) (f9 3) (p_ca (JR T) T.FZ hr (q_n 1 (q_n 2 i3))))) j8)
   (g5 (s_if (t_cm (o_eq hu) (f9 1) i4) (g9 (s_insN (i:=4) rfl (Or.inl rfl) (f9 3) j0)) j8)
   (g5 (s_if (t_cm (o_eq hu) (f9 1) i4) (g9 (s_ownA (A1 (i:=4) (p_op F7 (U1 (f9 4) z9 (A0 (f9 3))) (U1 (f9 4) (A0 (p_op F7 (f9 3) i4)) z9)) o9.nd rfl (Or.inl rfl) rfl (Or.inl rfl)))) j8)
   (g5 (s_if (t_cm (o_eq hu) (f9 1) i4) (g9 (s_put (i:=4) rfl (Or.inl rfl) i4 (p_i (Q4 (i0 j0 (i0 j0 (i0 j0 (i0 j0 i3))))) (p_op B9 (f9 2) i4)))) j8)
   (g5 (s_if (t_cm (o_eq hu) (f9 1) i4) (g5 (asn 4 (Q4 (i0 j0 i3)) o9.nd)
   (g9 (BK (rels:=[]) (g:=(Tg.one 5)) PassesOwn.never rfl (BG rfl T.EC (p_op F7 i4 (p_op B9 (f9 2) i4))) (Q5 o9.nd rfl (Or.inl rfl) (Or.inl rfl)) (g9 (s_setA (A1 (i:=4) (p_op F7 (f9 4) (Q4 (i0 j0 (i0 j0 i3)))) o9.nd rfl (Or.inl rfl) rfl (Or.inl rfl))))))) j8)
   (g9 (o4 (f9 4)))))))))))
theorem FK(T:Facts K mg A):FnOk P w K mg base CX0 3 A.Ct A.Cu ["_law_line_here", "_law_way", "_law_cell"] (spc K true P1) :=
 T.Cz.d 2 v7 AT (fun _ _ _ _ _ _ hr hu =>
  (g5 (asn 3 (p_op B9 (f9 2) (p_op F7 (p_bu Gx T.T3 (q_n 0 i3)) i4)) AT.nd)
   (g5 (s_if (t_cm (o_eq hu) (f9 1) i4) (g9 (o4 (p_op G4 j0 (f9 0)))) j8)
   (g5 (s_if (t_cm (o_eq hu) (f9 1) i4) (g9 (o4 (p_op G4 (f9 0) j0))) j8)
   (g5 (s_if (t_cm (o_eq hu) (f9 1) i4) (g9 (o4 (p_op G4 (p_op G4 (A4 (f9 0) z9 (A0 (f9 3))) j0) (A4 (f9 0) (A0 (f9 3)) z9)))) j8)
   (g5 (s_if (t_cm (o_eq hu) (f9 1) i4) (g9 (o4 (p_op G4 (A4 (f9 0) z9 (A0 (f9 3))) (A4 (f9 0) (A0 (p_op F7 (f9 3) i4)) z9)))) j8)
   (g5 (s_if (t_cm (o_eq hu) (f9 1) i4) (g9 (o4 (p_op G4 (p_op G4 (A4 (f9 0) z9 (A0 (f9 3))) (p_i (@Q4 _ _ _ _ (@i0 _ _ _ _ _ j0 (@i0 _ _ _ _ _ j0 (@i0 _ _ _ _ _ j0 (@i0 _ _ _ _ _ j0 (@i0 _ _ _ _ _ j0 (@i0 _ _ _ _ _ j0 (@i0 _ _ _ _ _ j0 (@i0 _ _ _ _ _ j0 i3 rfl) rfl) rfl) rfl) rfl) rfl) rfl) rfl)) (p_op B9 (p_op DN (f9 2) i4) i4))) (A4 (f9 0) (A0 (f9 3)) z9)))) j8)
   (g9 (o4 (p_join j0 (p_ca (Af T) T.N2 hr (i0 (J4 (f9 0) j0) (q_n 1 (q_n 2 i3))))))))))))))
theorem Ag(T:Facts K mg A):FnOk P w K mg base CX0 7 A.Bb A.Bc ["_law_line_here"] (spc K true K3) :=
 T.T5.d 6 R6 C4 (fun _ _ _ _ _ _ hr hu =>
  (g5 (asn 1 i4 C4.nd)
   (g5 (s_try (FH T) T.Cw hr rfl (fun _=>(q_n 0 i3)) rfl T.h_NoText (fun _=>(g9 (asn 1 (p_op F7 (f9 1) i4) C4.nd))))
   (g5 (Ol 2 (FH T) T.Cw hr rfl (fun _=>(q_n 0 i3)) rfl T.h_HallError (fun _=>(g9 (asn 1 (p_op F7 (f9 1) (p_ty c_int T.Jk (i0 (p_isx 2 rfl T.u8 rfl T.EA) i3))) C4.nd))) C4.nd)
   (g9 (o4 (p_cm (o_eq hu) (f9 1) i4)))))))
theorem JS(T:Facts K mg A):FnOk P w K mg base CX0 1 A.FU A.FV ["_law_drawn"] (spc K true Cd) :=
 T.Ga.d 0 Cb F5 (fun _ _ _ _ _ _ hr hu =>
  (g5 (asn 1 (p_ty c_str T.Jl (i0 (p_i (f9 0) i4) i3)) F5.nd)
   (g5 (BK (rels:=[]) (g:=(Tg.one 2)) PassesOwn.never rfl (G0 (p_i (f9 0) i4)) (Q5 F5.nd rfl (Or.inl rfl) (Or.inl rfl)) (g5 (asn 1 (p_op G4 (f9 1) j0) F5.nd)
   (g9 (BK (rels:=[]) (g:=(Tg.one 3)) PassesOwn.never rfl (G0 (f9 2)) (Q5 F5.nd rfl (Or.inl rfl) (Or.inl rfl)) (g9 (asn 1 (p_op G4 (p_op G4 (f9 1) j0) (p_ty c_str T.Jl (q_n 3 i3))) F5.nd))))))
   (g9 (o4 (f9 1))))))
theorem ok_law(T:Facts K mg A):FnOk P w K mg base CX0 8 A.a_law A.Jj ["_law_script"] (spc K true IW) :=
 T.f_law.d 7 Ls Cl (fun _ _ _ _ _ _ hr hu =>
  (g5 (asn 1 (p_op B9 (p_ca (w6 T) T.v5 hr (q_n 0 (i0 i4 i3))) i4) Cl.nd)
   (g5 (asn 2 (p_ca (w6 T) T.v5 hr (q_n 0 (i0 i4 i3))) Cl.nd)
   (g5 (s_if (t_cm (o_eq hu) (f9 1) i4) (g9 (o4 (p_ca (Ag T) T.T5 hr (i0 (p_i (@Q4 _ _ _ _ (@i0 _ _ _ _ _ AB (@i0 _ _ _ _ _ i4 (@i0 _ _ _ _ _ (Q4 (i0 j0 i3)) (@i0 _ _ _ _ _ (IB (i0 j0 (i0 j0 i3))) (@i0 _ _ _ _ _ p_bl i3 rfl) rfl) rfl) rfl) rfl)) (p_op B9 (f9 2) i4)) i3)))) j8)
   (g5 (asn 3 (p_ca (FK T) T.Cz hr (i0 (p_ca (JS T) T.Ga hr (i0 (p_ca (GO T) T.DC hr (q_n 0 i3)) i3)) (q_n 1 (q_n 2 i3)))) Cl.nd)
   (g5 (asn 4 (p_ca (Ez T) T.Bd hr (q_n 3 i3)) Cl.nd)
   (g5 (s_if (t_cm o_isN (f9 4) AB) (g9 (o4 (p_ca (Ag T) T.T5 hr (q_n 3 i3)))) j8)
   (g9 (o4 (p_cm (o_eq hu) (p_ca (Ox T) T.Cw hr (q_n 3 i3)) (f9 4)))))))))))
end
theorem LK{l:PySem.W.OpenLaw}{w:World}{K:PySem.W.Frag}{h:Heap}{mg:Str→Option Value}{fa:Addr}(X:K.In h)(G:h.Ns mainGlobals mg)(hfa:mg "law" = some (.ref fa))
  {a0:Addr} (h0:Dh K "is_whole" X4 a0)
  {a1:Addr} (h1:Dh K "is_row" Ab a1)
  {a2:Addr} (h2:Dh K "are_kinds" S1 a2)
  {a3:Addr} (h3:Dh K "is_bill" U7 a3)
  {a4:Addr} (h4:Dh K "need_kinds" P2 a4)
  {a5:Addr} (h5:Dh K "need_bill" S2 a5)
  {a6:Addr} (h6:Dh K "hall_by" U8 a6)
  {a7:Addr} (h7:Dh K "hall_of" Av a7)
  {a8:Addr} (h8:Dh K "are_figures" D8 a8)
  {a9:Addr} (h9:Dh K "read_number" L6 a9)
  {a10:Addr} (h10:Dh K "need_text" S3 a10)
  {a11:Addr} (h11:Dh K "read_row" D2 a11)
  {a12:Addr} (h12:Dh K "read" Aw a12)
  {a13:Addr} (h13:Dh K "_law_cell_at" S4 a13)
  {a14:Addr} (h14:Dh K "_law_number" X5 a14)
  {a15:Addr} (h15:Dh K "_law_row" Bj a15)
  {a16:Addr} (h16:Dh K "_law_bills" U9 a16)
  {a17:Addr} (h17:Dh K "_law_number_of" L7 a17)
  {a18:Addr} (h18:Dh K "_law_hall_of" K5 a18)
  {a19:Addr} (h19:Dh K "_law_word" Cj a19)
  {a20:Addr} (h20:Dh K "_law_spoilt_words" D3 a20)
  {a21:Addr} (h21:Dh K "_law_spoilt" X6 a21)
  {a22:Addr} (h22:Dh K "_law_refused" S5 a22)
  {a23:Addr} (h23:Dh K "_law_line" Ck a23)
  {a24:Addr} (h24:Dh K "law" LI a24)
  (z_ValueError:PySem.W.nsIn K mainGlobals "ValueError" = some none)
  (z_abs:PySem.W.nsIn K mainGlobals "abs" = some none)
  (z_all:PySem.W.nsIn K mainGlobals "all" = some none)
  (z_bool:PySem.W.nsIn K mainGlobals "bool" = some none)
  (z_int:PySem.W.nsIn K mainGlobals "int" = some none)
  (z_isinstance:PySem.W.nsIn K mainGlobals "isinstance" = some none)
  (z_len:PySem.W.nsIn K mainGlobals "len" = some none)
  (z_list:PySem.W.nsIn K mainGlobals "list" = some none)
  (z_range:PySem.W.nsIn K mainGlobals "range" = some none)
  (z_str:PySem.W.nsIn K mainGlobals "str" = some none)
  (z_tuple:PySem.W.nsIn K mainGlobals "tuple" = some none)
  {F2:Tok} (y_MOST_BILLS:PySem.W.nsIn K mainGlobals "MOST_BILLS" = some (some (.int 8 F2)))
  {C5:Tok} (y_MOST_FIGURES:PySem.W.nsIn K mainGlobals "MOST_FIGURES" = some (some (.int 30 C5)))
  {F3:Tok} (y_MOST_KINDS:PySem.W.nsIn K mainGlobals "MOST_KINDS" = some (some (.int 6 F3)))
  {x_HallError:Addr} (w_HallError:PySem.W.nsIn K mainGlobals "HallError" = some (some (.ref x_HallError)))
  {x_NoHall:Addr} (w_NoHall:PySem.W.nsIn K mainGlobals "NoHall" = some (some (.ref x_NoHall)))
  {x_NoText:Addr} (w_NoText:PySem.W.nsIn K mainGlobals "NoText" = some (some (.ref x_NoText)))
  (u_NoHall:PySem.W.excIn K x_NoHall bmVE "ValueError.__new__" = true) (v_NoHall:PySem.W.kitCls K (.ref x_NoHall) (.type "ValueError")=some true)
  (u_NoText:PySem.W.excIn K x_NoText bmVE "ValueError.__new__" = true) (v_NoText:PySem.W.kitCls K (.ref x_NoText) (.type "ValueError")=some true)
  (o_NoHall_HallError:PySem.W.exmOne K (.ref x_NoHall) (.ref x_HallError)=some true)
  (o_NoText_HallError:PySem.W.exmOne K (.ref x_NoText) (.ref x_HallError)=some true)
  (o_NoHall_NoHall:PySem.W.exmOne K (.ref x_NoHall) (.ref x_NoHall)=some true)
  (o_NoText_NoText:PySem.W.exmOne K (.ref x_NoText) (.ref x_NoText)=some true)
  : ∃ fd:FuncData,(∀(s:Shared) (u:Value),BindsTo s fd ⟨[u],[]⟩ [("_law_script",u)])∧∀ base:Heap,K.In base→base.Ns mainGlobals mg→FnOk l.prog w K mg base CX0 8 fa fd ["_law_script"] (spc K true IW):=by
 obtain⟨d0,q0,b0⟩:=h0.df (ps:=["value"]) X G (fun _ _ _ _ _ _=>us1 (fun _=>rfl))
 obtain⟨d1,q1,b1⟩:=h1.df (ps:=["value", "length"]) X G (fun _ _ _ _ _ _=>us2 (fun _ _=>rfl))
 obtain⟨d2,q2,b2⟩:=h2.df (ps:=["value"]) X G (fun _ _ _ _ _ _=>us1 (fun _=>rfl))
 obtain⟨d3,q3,b3⟩:=h3.df (ps:=["value", "kinds"]) X G (fun _ _ _ _ _ _=>us2 (fun _ _=>rfl))
 obtain⟨d4,q4,b4⟩:=h4.df (ps:=["kinds"]) X G (fun _ _ _ _ _ _=>us1 (fun _=>rfl))
 obtain⟨d5,q5,b5⟩:=h5.df (ps:=["bill", "kinds"]) X G (fun _ _ _ _ _ _=>us2 (fun _ _=>rfl))
 obtain⟨d6,q6,b6⟩:=h6.df (ps:=["kinds", "rows"]) X G (fun _ _ _ _ _ _=>us2 (fun _ _=>rfl))
 obtain⟨d7,q7,b7⟩:=h7.df (ps:=["kinds", "bills"]) X G (fun _ _ _ _ _ _=>us2 (fun _ _=>rfl))
 obtain⟨d8,q8,b8⟩:=h8.df (ps:=["text"]) X G (fun _ _ _ _ _ _=>us1 (fun _=>rfl))
 obtain⟨d9,q9,b9⟩:=h9.df (ps:=["text"]) X G (fun _ _ _ _ _ _=>us1 (fun _=>rfl))
 obtain⟨d10,q10,b10⟩:=h10.df (ps:=["line"]) X G (fun _ _ _ _ _ _=>us1 (fun _=>rfl))
 obtain⟨d11,q11,b11⟩:=h11.df (ps:=["text"]) X G (fun _ _ _ _ _ _=>us1 (fun _=>rfl))
 obtain⟨d12,q12,b12⟩:=h12.df (ps:=["line"]) X G (fun _ _ _ _ _ _=>us1 (fun _=>rfl))
 obtain⟨d13,q13,b13⟩:=h13.df (ps:=["_law_script", "_law_k"]) X G (fun _ _ _ _ _ _=>us2 (fun _ _=>rfl))
 obtain⟨d14,q14,b14⟩:=h14.df (ps:=["_law_cell", "_law_mode"]) X G (fun _ _ _ _ _ _=>us2 (fun _ _=>rfl))
 obtain⟨d15,q15,b15⟩:=h15.df (ps:=["_law_script", "_law_at", "_law_size", "_law_mode"]) X G (fun _ _ _ _ _ _=>us4 (fun _ _ _ _=>rfl))
 obtain⟨d16,q16,b16⟩:=h16.df (ps:=["_law_script"]) X G (fun _ _ _ _ _ _=>us1 (fun _=>rfl))
 obtain⟨d17,q17,b17⟩:=h17.df (ps:=["_law_word_here"]) X G (fun _ _ _ _ _ _=>us1 (fun _=>rfl))
 obtain⟨d18,q18,b18⟩:=h18.df (ps:=["_law_line_here"]) X G (fun _ _ _ _ _ _=>us1 (fun _=>rfl))
 obtain⟨d19,q19,b19⟩:=h19.df (ps:=["_law_way", "_law_cell"]) X G (fun _ _ _ _ _ _=>us2 (fun _ _=>rfl))
 obtain⟨d20,q20,b20⟩:=h20.df (ps:=["_law_words", "_law_way", "_law_cell"]) X G (fun _ _ _ _ _ _=>us3 (fun _ _ _=>rfl))
 obtain⟨d21,q21,b21⟩:=h21.df (ps:=["_law_line_here", "_law_way", "_law_cell"]) X G (fun _ _ _ _ _ _=>us3 (fun _ _ _=>rfl))
 obtain⟨d22,q22,b22⟩:=h22.df (ps:=["_law_line_here"]) X G (fun _ _ _ _ _ _=>us1 (fun _=>rfl))
 obtain⟨d23,q23,b23⟩:=h23.df (ps:=["_law_drawn"]) X G (fun _ _ _ _ _ _=>us1 (fun _=>rfl))
 obtain⟨d24,q24,b24⟩:=h24.df (ps:=["_law_script"]) X G (fun _ _ _ _ _ _=>us1 (fun _=>rfl))
 have key:∃ A:Adr,Facts K mg A∧∀(s:Shared) (u:Value),BindsTo s A.Jj ⟨[u],[]⟩ [("_law_script",u)]:=⟨⟨a0,d0,a1,d1,a2,d2,a3,d3,a4,d4,a5,d5,a6,d6,a7,d7,a8,d8,a9,d9,a10,d10,a11,d11,a12,d12,a13,d13,a14,d14,a15,d15,a16,d16,a17,d17,a18,d18,a19,d19,a20,d20,a21,d21,a22,d22,a23,d23,a24,d24,F2,C5,F3,x_HallError,x_NoHall,x_NoText⟩,⟨PySem.W.mg_none_of X G z_ValueError,PySem.W.mg_none_of X G z_abs,PySem.W.mg_none_of X G z_all,PySem.W.mg_none_of X G z_bool,PySem.W.mg_none_of X G z_int,PySem.W.mg_none_of X G z_isinstance,PySem.W.mg_none_of X G z_len,PySem.W.mg_none_of X G z_list,PySem.W.mg_none_of X G z_range,PySem.W.mg_none_of X G z_str,PySem.W.mg_none_of X G z_tuple,PySem.W.mg_of X G y_MOST_BILLS,PySem.W.mg_of X G y_MOST_FIGURES,PySem.W.mg_of X G y_MOST_KINDS,q0,q1,q2,q3,q4,q5,q6,q7,q8,q9,q10,q11,q12,q13,q14,q15,q16,q17,q18,q19,q20,q21,q22,q23,q24,⟨PySem.W.mg_of X G w_NoHall,u_NoHall,v_NoHall⟩,⟨PySem.W.mg_of X G w_NoText,u_NoText,v_NoText⟩,Gu (PySem.W.mg_of X G w_HallError) (by intro n C hn hC;unfold h_HallError at hn;simp only[Bool.or_eq_true,beq_iff_eq,or_assoc]at hn;first|(rcases hn with rfl|rfl|rfl<;>first|(cases hC.symm.trans (PySem.W.mg_of X G w_NoHall);exact⟨o_NoHall_HallError,v_NoHall⟩)|(cases hC.symm.trans (PySem.W.mg_of X G w_NoText);exact⟨o_NoText_HallError,v_NoText⟩))),Gu (PySem.W.mg_of X G w_NoHall) (by intro n C hn hC;unfold h_NoHall at hn;simp only[Bool.or_eq_true,beq_iff_eq,or_assoc]at hn;first|(rcases hn with rfl<;>first|(cases hC.symm.trans (PySem.W.mg_of X G w_NoHall);exact⟨o_NoHall_NoHall,v_NoHall⟩))),Gu (PySem.W.mg_of X G w_NoText) (by intro n C hn hC;unfold h_NoText at hn;simp only[Bool.or_eq_true,beq_iff_eq,or_assoc]at hn;first|(rcases hn with rfl|rfl<;>first|(cases hC.symm.trans (PySem.W.mg_of X G w_NoText);exact⟨o_NoText_NoText,v_NoText⟩)))⟩,fun s u => .of_eq (b24 [u] rfl)⟩
 obtain⟨A,FF,hb⟩:=key
 have e:=hfa.symm.trans FF.f_law.mg
 cases e
 exact⟨A.Jj,hb,fun base _ _=>ok_law FF⟩
namespace H
noncomputable section
open PySem PySem.W PySem.Calls PyProof.Rows
abbrev pw:Program:=PySem.Challenge.pw_changehall_k37_texts_refused
abbrev vs(s:String)(t:Nat):Value := .str (Str.ofString s) t
abbrev de(P:Params)(s:String)(t:Nat)(v:Value):DictEntry:=⟨PyData.keyHash P (Str.ofString s),.str (Str.ofString s) t,v⟩
abbrev N:=BT.node
abbrev E:=BT.nil
abbrev ins(t:BT)(l:List (Nat×Obj)):BT:=l.foldl (fun t x=>t.ins x.1 x.2) t
def fdT(s:Stmt)(g:Addr)(md cd:Value):FuncData:=match s with
 | .FunctionDef name args body _ _ _ scope _ _ _=>{ name:=name,qualname:=name,params:=args,body := .stmts body,scope:=scope,globals:=g,closure:=[],defaults := .none,kwdefaults := .none,pyModule:=md,code:=cd }
 | _=>default
abbrev tu(l:List Value):Obj:=⟨.type "tuple",none,.seq l.toArray 0,#[]⟩
abbrev fi(l:List Value):Obj:=⟨.none,none,.fields l.toArray,#[]⟩
abbrev fo(c:Value)(i:Nat)(g:Addr)(md cd:Value):Obj:=⟨c,none,.func (fdT (top i) g md cd),#[]⟩
abbrev co(a f:String)(t0 t1 t2:Nat)(l n z:Int)(r:Addr)(u:Bool)(v:Int)(s:Addr)(p q1 q2 q3:Value)(w:Int)(t3:Nat):Obj:=⟨.type "code",none,.fields #[vs a t0,vs a t1,vs f t2,.int l 0,.int n 0,.int 0 0,.int 0 0,.int z 0,.ref r,.bool u,.int v 0,.ref s,p,q1,q2,q3,.int w 0,.int l 0,vs f t3],#[]⟩
theorem te_go:@topGo=Fast.tw15667345088766844465:=Fast.te15667345088766844465
theorem te_sr:@segRun=Fast.tw14374325043358763698:=Fast.te14374325043358763698
theorem te_sT:@segRunT=Fast.tw10110043849684766642:=Fast.te10110043849684766642
theorem te_tr:@topRun=Fast.tw14082659384304107361:=Fast.te14082659384304107361
theorem te_tb:treeTable=Fast.tw14364793385576792824:=Fast.te14364793385576792824
theorem te_im:@importedModules=Fast.tw5923862056798008813:=Fast.te5923862056798008813
theorem te_seen:@seen=Fast.tw5160383126252970620:=Fast.te5160383126252970620
theorem te_recs:@recsOf=Fast.tw3399658132070893891:=Fast.te3399658132070893891
theorem te_owns:@ownsOf=Fast.tw5991557255702980513:=Fast.te5991557255702980513
theorem te_keys:@Heap.keysOk=Fast.tw10880121769531294198:=Fast.te10880121769531294198
theorem te_loose:@looseW=Fast.tw821141287760084731:=Fast.te821141287760084731
theorem te_lits:@litsOf=Fast.tw7409074990110511671:=Fast.te7409074990110511671
theorem te_clss:@clssOf=Fast.tw13664370479719496447:=Fast.te13664370479719496447
theorem te_acc:@Heap.accountedOkI=Fast.tw14722251495701143533:=Fast.te14722251495701143533
theorem te_tabl:@tablesOk=Fast.tw10994771534591457954:=Fast.te10994771534591457954
theorem te_tabs:@tabsOk=Fast.tw479339242167458305:=Fast.te479339242167458305
theorem te_pin:@pinSeenD=Fast.tw16090120013241838585:=Fast.te16090120013241838585
theorem te_drecs:@drecsOf=Fast.tw3247288618530077131:=Fast.te3247288618530077131
theorem te_pE:@plainSeenE=Fast.tw2386780881361962483:=Fast.te2386780881361962483
theorem te_pD:@plainSeenD=Fast.tw11698064438423848299:=Fast.te11698064438423848299
theorem te_wide:@wideSeen=Fast.tw7317090234206586261:=Fast.te7317090234206586261
theorem te_cls:@clsSeenW=Fast.tw7369524293546568484:=Fast.te7369524293546568484
theorem te_den:@denote=Fast.tw11892475500146522536:=Fast.te11892475500146522536
theorem te_ns:@Heap.nsMap=Fast.tw8920871248978507458:=Fast.te8920871248978507458
abbrev env:Env:={ scope:=pw.main.scope,locals:=mainNs,globals:=mainNs,cells:=[],code := .ref 13,frame:=some 14 }
abbrev cE:Code := .body (behindTheImports pw) env
abbrev fB:List Frame:=[topFrame ⟨0,0,0,0⟩]
abbrev ann:Option Value:=some (.ref 6)
abbrev o11a:=tu []
abbrev o12aL:List Value:=[]
abbrev o12a:=fi o12aL
abbrev o13a:=co "<module>" "/claim/cut.py" 182 183 184 1 0 0 11 false 181 12 .none .none .none .none 185 186
abbrev o14a:Obj:=⟨.type "frame",none,.plain,#[Option.some (PySem.Value.ref 13),Option.some (PySem.Value.ref 3),Option.some (PySem.Value.ref 3),Option.none,Option.some (PySem.Value.str (PySem.Str.ofString "__main__") 164),Option.none,Option.some (PySem.Value.ref 0)]⟩
abbrev ha(P:Params):Heap:=⟨⟨[boot_o_0 P,boot_o_1 P,boot_o_2 P,boot_o_3 P,boot_o_4 P,boot_o_5 P,boot_o_6 P,boot_o_7 P,boot_o_8 P,boot_o_9 P,boot_o_10 P,o11a,o12a,o13a,o14a]⟩,{ }⟩
theorem run_a(w:World)(os:OsState):topGo treeTable pw w 11 ann 12 ⟨boot_heap w.params,#[],boot_drawn,boot_toks,os⟩ (topStub pw)=some (⟨ha w.params,#[],{ },187,os⟩,⟨denote treeTable cE,cE,⟨0,0,0,0⟩,fB⟩):=by
 rewrite[te_go,te_den,te_tb];kernel_rfl
abbrev t0(P:Params):BT:=(N (boot_o_0 P) (N (boot_o_1 P) (N (boot_o_3 P) (N (boot_o_7 P) E E) (N (o11a) E E)) (N (boot_o_5 P) (N (boot_o_9 P) E E) (N (o13a) E E))) (N (boot_o_2 P) (N (boot_o_4 P) (N (boot_o_8 P) E E) (N (o12a) E E)) (N (boot_o_6 P) (N (boot_o_10 P) E E) (N (o14a) E E))))
abbrev s0(w:World)(os:OsState):SharedT:=⟨t0 w.params,15,{ },#[],{ },187,os⟩
theorem run_b(w:World)(os:OsState):segRun treeTable pw w 11 ann 1 1 ⟨ha w.params,#[],{ },187,os⟩ (blockOf (behindTheImports pw) env cE ⟨0,0,0,0⟩ fB)=some (.next,(s0 w os).abs,cE,⟨0,0,0,0⟩):=by
 rewrite[te_sr,te_tb];kernel_rfl
abbrev o3_1L(P:Params):List DictEntry:=[de P "__name__" 165 (vs "changehall.errors" 187),de P "__doc__" 166 .none,de P "__package__" 167 .none,de P "__loader__" 168 (.builtin "__main__.__loader__#opaque"),de P "__spec__" 169 .none,de P "__annotations__" 170 (.ref 6),de P "__builtins__" 171 (.ref 4),de P "__file__" 173 (vs "/claim/cut.py" 172),de P "__cached__" 174 .none,de P "HallError" 206 (.ref 24)]
abbrev o3_1(P:Params):Obj:=⟨.type "dict",none,.dict (o3_1L P).toArray 10,#[]⟩
abbrev LM:List Value:=o12aL++[.int 2 0,.int 0 0,.ref 20]
abbrev o12_1:=fi LM
abbrev LN:=tu [.type "ValueError"]
abbrev o16_1:Obj:=⟨.type "builtin_function_or_method",none,.fields #[.builtin "type.__prepare__",.type "type"],#[]⟩
abbrev o17_1L(P:Params):List DictEntry:=[de P "__module__" 196 (vs "changehall.errors" 187),de P "__qualname__" 198 (vs "HallError" 197),de P "__firstlineno__" 200 (.int 2 199),de P "__static_attributes__" 201 (.ref 22)]
abbrev o17_1(P:Params):Obj:=⟨.type "dict",none,.dict (o17_1L P).toArray 4,#[]⟩
abbrev o18_1:=tu []
abbrev o19_1:=fi []
abbrev o20_1:=co "HallError" "/claim/cut.py" 191 192 193 2 0 0 18 false 181 19 .none .none .none .none 194 195
abbrev o21_1:Obj:=⟨.type "frame",none,.plain,#[Option.some (PySem.Value.ref 20),Option.some (PySem.Value.ref 3),Option.some (PySem.Value.ref 17),Option.none,Option.some (PySem.Value.str (PySem.Str.ofString "changehall.errors") 187),Option.none,Option.some (PySem.Value.ref 0)]⟩
abbrev LO:=tu []
abbrev o23_1L(P:Params):List DictEntry:=[de P "__module__" 196 (vs "changehall.errors" 187),de P "__firstlineno__" 200 (.int 2 199),de P "__static_attributes__" 201 (.ref 22),de P "__weakref__" 203 (.ref 25),de P "__doc__" 204 .none]
abbrev LP(P:Params):Obj:=⟨.type "dict",none,.dict (o23_1L P).toArray 3,#[]⟩
abbrev o24_1:Obj:=⟨.type "type",none,.cls ({ name:=PySem.Str.ofString "HallError",bases:=[PySem.Value.type "ValueError"],mro:=[PySem.Value.ref 24,PySem.Value.type "ValueError",PySem.Value.type "Exception",PySem.Value.type "BaseException",PySem.Value.type "object"],ns:=23,qualname:=PySem.Str.ofString "HallError" }),#[Option.some (PySem.Value.ref 15),Option.none,Option.some (PySem.Value.str (PySem.Str.ofString "HallError") 189),Option.some (PySem.Value.str (PySem.Str.ofString "HallError") 197),Option.some (PySem.Value.builtin "ValueError.__new__"),Option.some (PySem.Value.bool Bool.true)]⟩
abbrev LQ:Obj:=⟨.type "getset_descriptor",none,.fields #[vs "__weakref__" 202,.ref 24,.builtin "ExceptionGroup.__weakref__",.none],#[]⟩
abbrev o26_1:Obj:=⟨.type "super",none,.fields #[.ref 24,.ref 24,.ref 24],#[]⟩
abbrev o27_1:Obj:=⟨.type "builtin_function_or_method",none,.fields #[.builtin "object.__init_subclass__",.ref 24],#[]⟩
abbrev t1(P:Params):BT:=ins (t0 P) [(3,o3_1 P),(12,o12_1),(15,LN),(16,o16_1),(17,o17_1 P),(18,o18_1),(19,o19_1),(20,o20_1),(21,o21_1),(22,LO),(23,LP P),(24,o24_1),(25,LQ),(26,o26_1),(27,o27_1)]
abbrev s1(w:World)(os:OsState):SharedT:=⟨t1 w.params,28,{ },#[],{ },207,os⟩
abbrev l0:List Stmt:=[top 0,top 1]
theorem run_0(w:World)(os:OsState):segRunT treeTable pw w 11 ann 1 196 (s0 w os) (piecesOf l0 env cE ⟨0,0,0,0⟩ fB)=some (.next,s1 w os,cE,⟨2,0,3,8⟩):=by
 rewrite[te_sT,te_tb];kernel_rfl
abbrev o3_2L(P:Params):List DictEntry:=de P "__name__" 165 (vs "changehall.errors" 187)::(o3_1L P).tail++[de P "NoHall" 222 (.ref 37)]
abbrev o3_2(P:Params):Obj:=⟨.type "dict",none,.dict (o3_2L P).toArray 11,#[]⟩
abbrev LR:List Value:=LM++[.int 4 0,.int 0 0,.ref 33]
abbrev o12_2:=fi LR
abbrev o24_2:Obj:=⟨.type "type",none,.cls ({ name:=PySem.Str.ofString "HallError",bases:=[PySem.Value.type "ValueError"],mro:=[PySem.Value.ref 24,PySem.Value.type "ValueError",PySem.Value.type "Exception",PySem.Value.type "BaseException",PySem.Value.type "object"],ns:=23,qualname:=PySem.Str.ofString "HallError",subclasses:=[PySem.Value.ref 37] }),#[Option.some (PySem.Value.ref 15),Option.none,Option.some (PySem.Value.str (PySem.Str.ofString "HallError") 189),Option.some (PySem.Value.str (PySem.Str.ofString "HallError") 197),Option.some (PySem.Value.builtin "ValueError.__new__"),Option.some (PySem.Value.bool Bool.true)]⟩
abbrev LS:=tu [.ref 24]
abbrev o29_2:Obj:=⟨.type "builtin_function_or_method",none,.fields #[.builtin "type.__prepare__",.type "type"],#[]⟩
abbrev o30_2L(P:Params):List DictEntry:=[de P "__module__" 214 (vs "changehall.errors" 187),de P "__qualname__" 216 (vs "NoHall" 215),de P "__firstlineno__" 218 (.int 4 217),de P "__static_attributes__" 219 (.ref 35)]
abbrev o30_2(P:Params):Obj:=⟨.type "dict",none,.dict (o30_2L P).toArray 4,#[]⟩
abbrev o31_2:=tu []
abbrev o32_2:=fi []
abbrev o33_2:=co "NoHall" "/claim/cut.py" 209 210 211 4 0 0 31 false 181 32 .none .none .none .none 212 213
abbrev o34_2:Obj:=⟨.type "frame",none,.plain,#[Option.some (PySem.Value.ref 33),Option.some (PySem.Value.ref 3),Option.some (PySem.Value.ref 30),Option.none,Option.some (PySem.Value.str (PySem.Str.ofString "changehall.errors") 187),Option.none,Option.some (PySem.Value.ref 0)]⟩
abbrev LU:=tu []
abbrev o36_2L(P:Params):List DictEntry:=[de P "__module__" 214 (vs "changehall.errors" 187),de P "__firstlineno__" 218 (.int 4 217),de P "__static_attributes__" 219 (.ref 35),de P "__doc__" 220 .none]
abbrev LV(P:Params):Obj:=⟨.type "dict",none,.dict (o36_2L P).toArray 2,#[]⟩
abbrev LW:Obj:=⟨.type "type",none,.cls ({ name:=PySem.Str.ofString "NoHall",bases:=[PySem.Value.ref 24],mro:=[PySem.Value.ref 37,PySem.Value.ref 24,PySem.Value.type "ValueError",PySem.Value.type "Exception",PySem.Value.type "BaseException",PySem.Value.type "object"],ns:=36,qualname:=PySem.Str.ofString "NoHall" }),#[Option.some (PySem.Value.ref 28),Option.none,Option.some (PySem.Value.str (PySem.Str.ofString "NoHall") 207),Option.some (PySem.Value.str (PySem.Str.ofString "NoHall") 215),Option.some (PySem.Value.builtin "ValueError.__new__"),Option.some (PySem.Value.bool Bool.true)]⟩
abbrev o38_2:Obj:=⟨.type "super",none,.fields #[.ref 37,.ref 37,.ref 37],#[]⟩
abbrev o39_2:Obj:=⟨.type "builtin_function_or_method",none,.fields #[.builtin "object.__init_subclass__",.ref 37],#[]⟩
abbrev t2(P:Params):BT:=ins (t1 P) [(3,o3_2 P),(12,o12_2),(24,o24_2),(28,LS),(29,o29_2),(30,o30_2 P),(31,o31_2),(32,o32_2),(33,o33_2),(34,o34_2),(35,LU),(36,LV P),(37,LW),(38,o38_2),(39,o39_2)]
abbrev s2(w:World)(os:OsState):SharedT:=⟨t2 w.params,40,{ },#[],{ },223,os⟩
abbrev l1:List Stmt:=[top 2]
theorem run_1(w:World)(os:OsState):segRunT treeTable pw w 11 ann 1 214 (s1 w os) (piecesOf l1 env cE ⟨2,0,3,8⟩ fB)=some (.next,s2 w os,cE,⟨4,0,5,8⟩):=by
 rewrite[te_sT,te_tb];kernel_rfl
abbrev o3_3L(P:Params):List DictEntry:=de P "__name__" 165 (vs "changehall.halls" 254)::(o3_2L P).tail++[de P "NoText" 238 (.ref 49),de P "is_whole" 247 (.ref 58),de P "is_row" 253 (.ref 63),de P "MOST_KINDS" 257 (.int 6 256),de P "MOST_BILLS" 259 (.int 8 258),de P "are_kinds" 266 (.ref 70),de P "is_bill" 272 (.ref 75),de P "need_kinds" 279 (.ref 82)]
abbrev o3_3(P:Params):Obj:=⟨.type "dict",none,.dict (o3_3L P).toArray 19,#[]⟩
abbrev LX:List Value:=LR++[.int 6 0,.int 0 0,.ref 45,.int 9 0,.int 0 0,.ref 57,.int 11 0,.int 0 0,.ref 62,.int 18 0,.int 0 0,.ref 69,.int 20 0,.int 0 0,.ref 74,.int 22 0,.int 0 0,.ref 81]
abbrev o12_3:=fi LX
abbrev LY:Obj:=⟨.type "type",none,.cls ({ name:=PySem.Str.ofString "HallError",bases:=[PySem.Value.type "ValueError"],mro:=[PySem.Value.ref 24,PySem.Value.type "ValueError",PySem.Value.type "Exception",PySem.Value.type "BaseException",PySem.Value.type "object"],ns:=23,qualname:=PySem.Str.ofString "HallError",subclasses:=[PySem.Value.ref 37,PySem.Value.ref 49] }),#[Option.some (PySem.Value.ref 15),Option.none,Option.some (PySem.Value.str (PySem.Str.ofString "HallError") 189),Option.some (PySem.Value.str (PySem.Str.ofString "HallError") 197),Option.some (PySem.Value.builtin "ValueError.__new__"),Option.some (PySem.Value.bool Bool.true)]⟩
abbrev LZ:=tu [.ref 24]
abbrev o41_3:Obj:=⟨.type "builtin_function_or_method",none,.fields #[.builtin "type.__prepare__",.type "type"],#[]⟩
abbrev o42_3L(P:Params):List DictEntry:=[de P "__module__" 230 (vs "changehall.errors" 187),de P "__qualname__" 232 (vs "NoText" 231),de P "__firstlineno__" 234 (.int 6 233),de P "__static_attributes__" 235 (.ref 47)]
abbrev o42_3(P:Params):Obj:=⟨.type "dict",none,.dict (o42_3L P).toArray 4,#[]⟩
abbrev o43_3:=tu []
abbrev o44_3:=fi []
abbrev o45_3:=co "NoText" "/claim/cut.py" 225 226 227 6 0 0 43 false 181 44 .none .none .none .none 228 229
abbrev o46_3:Obj:=⟨.type "frame",none,.plain,#[Option.some (PySem.Value.ref 45),Option.some (PySem.Value.ref 3),Option.some (PySem.Value.ref 42),Option.none,Option.some (PySem.Value.str (PySem.Str.ofString "changehall.errors") 187),Option.none,Option.some (PySem.Value.ref 0)]⟩
abbrev Ma:=tu []
abbrev o48_3L(P:Params):List DictEntry:=[de P "__module__" 230 (vs "changehall.errors" 187),de P "__firstlineno__" 234 (.int 6 233),de P "__static_attributes__" 235 (.ref 47),de P "__doc__" 236 .none]
abbrev Mb(P:Params):Obj:=⟨.type "dict",none,.dict (o48_3L P).toArray 2,#[]⟩
abbrev Mc:Obj:=⟨.type "type",none,.cls ({ name:=PySem.Str.ofString "NoText",bases:=[PySem.Value.ref 24],mro:=[PySem.Value.ref 49,PySem.Value.ref 24,PySem.Value.type "ValueError",PySem.Value.type "Exception",PySem.Value.type "BaseException",PySem.Value.type "object"],ns:=48,qualname:=PySem.Str.ofString "NoText" }),#[Option.some (PySem.Value.ref 40),Option.none,Option.some (PySem.Value.str (PySem.Str.ofString "NoText") 223),Option.some (PySem.Value.str (PySem.Str.ofString "NoText") 231),Option.some (PySem.Value.builtin "ValueError.__new__"),Option.some (PySem.Value.bool Bool.true)]⟩
abbrev o50_3:Obj:=⟨.type "super",none,.fields #[.ref 49,.ref 49,.ref 49],#[]⟩
abbrev o51_3:Obj:=⟨.type "builtin_function_or_method",none,.fields #[.builtin "object.__init_subclass__",.ref 49],#[]⟩
abbrev Md:=tu []
abbrev o53_3:=fi []
abbrev Me:=tu [vs "value" 244]
abbrev Mf:=tu []
abbrev o56_3:=fo .none 5 0 .none .none
abbrev Mg:=co "is_whole" "/claim/cut.py" 241 242 243 9 1 3 52 true 181 53 .none (.ref 54) (.ref 55) (.ref 56) 245 246
abbrev Mh:=fo (.type "function") 5 3 (vs "changehall.rows" 239) (.ref 57)
abbrev Mi:=tu []
abbrev o60_3:=fi []
abbrev o61_3:=fo .none 6 0 .none .none
abbrev Mj:=co "is_row" "/claim/cut.py" 248 249 250 11 2 3 59 true 181 60 .none .none .none (.ref 61) 251 252
abbrev Mk:=fo (.type "function") 6 3 (vs "changehall.rows" 239) (.ref 62)
abbrev Ml:=tu []
abbrev o65_3:=fi []
abbrev Mm:=tu [vs "value" 263]
abbrev Mn:=tu []
abbrev o68_3:=fo .none 10 0 .none .none
abbrev Mo:=co "are_kinds" "/claim/cut.py" 260 261 262 18 1 3 64 true 181 65 .none (.ref 66) (.ref 67) (.ref 68) 264 265
abbrev Mp:=fo (.type "function") 10 3 (vs "changehall.halls" 254) (.ref 69)
abbrev Mq:=tu []
abbrev o72_3:=fi []
abbrev o73_3:=fo .none 11 0 .none .none
abbrev Mr:=co "is_bill" "/claim/cut.py" 267 268 269 20 2 3 71 true 181 72 .none .none .none (.ref 73) 270 271
abbrev Ms:=fo (.type "function") 11 3 (vs "changehall.halls" 254) (.ref 74)
abbrev Mt:=tu []
abbrev o77_3:=fi []
abbrev Mu:=tu [vs "kinds" 276]
abbrev Mv:=tu []
abbrev o80_3:=fo .none 12 0 .none .none
abbrev Mw:=co "need_kinds" "/claim/cut.py" 273 274 275 22 1 3 76 true 181 77 .none (.ref 78) (.ref 79) (.ref 80) 277 278
abbrev Mx:=fo (.type "function") 12 3 (vs "changehall.halls" 254) (.ref 81)
abbrev t3(P:Params):BT:=ins (t2 P) [(3,o3_3 P),(12,o12_3),(24,LY),(40,LZ),(41,o41_3),(42,o42_3 P),(43,o43_3),(44,o44_3),(45,o45_3),(46,o46_3),(47,Ma),(48,Mb P),(49,Mc),(50,o50_3),(51,o51_3),(52,Md),(53,o53_3),(54,Me),(55,Mf),(56,o56_3),(57,Mg),(58,Mh),(59,Mi),(60,o60_3),(61,o61_3),(62,Mj),(63,Mk),(64,Ml),(65,o65_3),(66,Mm),(67,Mn),(68,o68_3),(69,Mo),(70,Mp),(71,Mq),(72,o72_3),(73,o73_3),(74,Mr),(75,Ms),(76,Mt),(77,o77_3),(78,Mu),(79,Mv),(80,o80_3),(81,Mw),(82,Mx)]
abbrev s3(w:World)(os:OsState):SharedT:=⟨t3 w.params,83,{ },#[],{ },280,os⟩
abbrev l2:List Stmt:=[top 3,top 4,top 5,top 6,top 7,top 8,top 9,top 10,top 11,top 12]
theorem run_2(w:World)(os:OsState):segRunT treeTable pw w 11 ann 1 389 (s2 w os) (piecesOf l2 env cE ⟨4,0,5,8⟩ fB)=some (.next,s3 w os,cE,⟨22,0,24,60⟩):=by
 rewrite[te_sT,te_tb];kernel_rfl
abbrev o3_4L(P:Params):List DictEntry:=de P "__name__" 165 (vs "law_changehall_k37_texts_refused" 340)::(o3_3L P).tail++[de P "need_bill" 287 (.ref 89),de P "hall_of" 296 (.ref 96),de P "hall_by" 302 (.ref 101),de P "MOST_FIGURES" 306 (.int 30 305),de P "are_figures" 312 (.ref 106),de P "read_number" 320 (.ref 113),de P "need_text" 327 (.ref 120),de P "read_row" 333 (.ref 125),de P "read" 339 (.ref 130),de P "_law_cell_at" 349 (.ref 137),de P "_law_number" 359 (.ref 144),de P "_law_row" 365 (.ref 149),de P "_law_bills" 371 (.ref 154),de P "_law_copied" 377 (.ref 159)]
abbrev o3_4(P:Params):Obj:=⟨.type "dict",none,.dict (o3_4L P).toArray 33,#[]⟩
abbrev My:List Value:=LX++[.int 25 0,.int 0 0,.ref 88,.int 28 0,.int 0 0,.ref 95,.int 35 0,.int 0 0,.ref 100,.int 39 0,.int 0 0,.ref 105,.int 43 0,.int 0 0,.ref 112,.int 50 0,.int 0 0,.ref 119,.int 53 0,.int 0 0,.ref 124,.int 55 0,.int 0 0,.ref 129,.int 65 0,.int 0 0,.ref 136,.int 71 0,.int 0 0,.ref 143,.int 82 0,.int 0 0,.ref 148,.int 84 0,.int 0 0,.ref 153,.int 96 0,.int 0 0,.ref 158]
abbrev o12_4:=fi My
abbrev Mz:=tu []
abbrev o84_4:=fi []
abbrev MA:=tu [vs "bill" 283,vs "kinds" 284]
abbrev MB:=tu []
abbrev o87_4:=fo .none 13 0 .none .none
abbrev MC:=co "need_bill" "/claim/cut.py" 280 281 282 25 2 3 83 true 181 84 .none (.ref 85) (.ref 86) (.ref 87) 285 286
abbrev MD:=fo (.type "function") 13 3 (vs "changehall.halls" 254) (.ref 88)
abbrev ME:=tu []
abbrev o91_4:=fi []
abbrev MF:=tu [vs "kinds" 291,vs "bills" 292,vs "bill" 293]
abbrev MG:=tu []
abbrev o94_4:=fo .none 14 0 .none .none
abbrev MH:=co "hall_of" "/claim/cut.py" 288 289 290 28 2 3 90 true 181 91 .none (.ref 92) (.ref 93) (.ref 94) 294 295
abbrev MI:=fo (.type "function") 14 3 (vs "changehall.halls" 254) (.ref 95)
abbrev MJ:=tu []
abbrev o98_4:=fi []
abbrev o99_4:=fo .none 15 0 .none .none
abbrev GP:=co "hall_by" "/claim/cut.py" 297 298 299 35 2 3 97 true 181 98 .none .none .none (.ref 99) 300 301
abbrev GQ:=fo (.type "function") 15 3 (vs "changehall.halls" 254) (.ref 100)
abbrev GR:=tu []
abbrev MK:=fi []
abbrev ML:=fo .none 18 0 .none .none
abbrev GS:=co "are_figures" "/claim/cut.py" 307 308 309 39 1 3 102 true 181 103 .none .none .none (.ref 104) 310 311
abbrev GT:=fo (.type "function") 18 3 (vs "changehall.texts" 303) (.ref 105)
abbrev GU:=tu []
abbrev MM:=fi []
abbrev GV:=tu [vs "text" 316,vs "size" 317]
abbrev GW:=tu []
abbrev MN:=fo .none 19 0 .none .none
abbrev GX:=co "read_number" "/claim/cut.py" 313 314 315 43 1 3 107 true 181 108 .none (.ref 109) (.ref 110) (.ref 111) 318 319
abbrev GY:=fo (.type "function") 19 3 (vs "changehall.texts" 303) (.ref 112)
abbrev GZ:=tu []
abbrev MO:=fi []
abbrev Ha:=tu [vs "line" 324]
abbrev Hb:=tu []
abbrev MP:=fo .none 20 0 .none .none
abbrev Hc:=co "need_text" "/claim/cut.py" 321 322 323 50 1 3 114 true 181 115 .none (.ref 116) (.ref 117) (.ref 118) 325 326
abbrev Hd:=fo (.type "function") 20 3 (vs "changehall.texts" 303) (.ref 119)
abbrev He:=tu []
abbrev MQ:=fi []
abbrev MR:=fo .none 21 0 .none .none
abbrev Hf:=co "read_row" "/claim/cut.py" 328 329 330 53 1 3 121 true 181 122 .none .none .none (.ref 123) 331 332
abbrev Hg:=fo (.type "function") 21 3 (vs "changehall.texts" 303) (.ref 124)
abbrev Hi:=tu []
abbrev MS:=fi []
abbrev MT:=fo .none 22 0 .none .none
abbrev Hj:=co "read" "/claim/cut.py" 334 335 336 55 1 3 126 true 181 127 .none .none .none (.ref 128) 337 338
abbrev Hk:=fo (.type "function") 22 3 (vs "changehall.texts" 303) (.ref 129)
abbrev Hl:=tu []
abbrev MU:=fi []
abbrev Hm:=tu [vs "_law_script" 345,vs "_law_k" 346]
abbrev Hn:=tu []
abbrev MV:=fo .none 24 0 .none .none
abbrev Ho:=co "_law_cell_at" "/claim/cut.py" 342 343 344 65 2 3 131 true 181 132 .none (.ref 133) (.ref 134) (.ref 135) 347 348
abbrev Hq:=fo (.type "function") 24 3 (vs "law_changehall_k37_texts_refused" 340) (.ref 136)
abbrev Hr:=tu []
abbrev MW:=fi []
abbrev Hs:=tu [vs "_law_cell" 353,vs "_law_mode" 354,vs "_law_number_here" 355,vs "_law_wide" 356]
abbrev Ht:=tu []
abbrev MX:=fo .none 25 0 .none .none
abbrev Hu:=co "_law_number" "/claim/cut.py" 350 351 352 71 2 3 138 true 181 139 .none (.ref 140) (.ref 141) (.ref 142) 357 358
abbrev Hv:=fo (.type "function") 25 3 (vs "law_changehall_k37_texts_refused" 340) (.ref 143)
abbrev Hw:=tu []
abbrev MY:=fi []
abbrev MZ:=fo .none 26 0 .none .none
abbrev Hx:=co "_law_row" "/claim/cut.py" 360 361 362 82 4 3 145 true 181 146 .none .none .none (.ref 147) 363 364
abbrev Hy:=fo (.type "function") 26 3 (vs "law_changehall_k37_texts_refused" 340) (.ref 148)
abbrev Hz:=tu []
abbrev Na:=fi []
abbrev Nb:=fo .none 27 0 .none .none
abbrev HA:=co "_law_bills" "/claim/cut.py" 366 367 368 84 1 3 150 true 181 151 .none .none .none (.ref 152) 369 370
abbrev HB:=fo (.type "function") 27 3 (vs "law_changehall_k37_texts_refused" 340) (.ref 153)
abbrev Nc:=tu []
abbrev Nd:=fi []
abbrev Nf:=fo .none 28 0 .none .none
abbrev Ng:=co "_law_copied" "/claim/cut.py" 372 373 374 96 1 3 155 true 181 156 .none .none .none (.ref 157) 375 376
abbrev Nh:=fo (.type "function") 28 3 (vs "law_changehall_k37_texts_refused" 340) (.ref 158)
abbrev t4(P:Params):BT:=ins (t3 P) [(3,o3_4 P),(12,o12_4),(83,Mz),(84,o84_4),(85,MA),(86,MB),(87,o87_4),(88,MC),(89,MD),(90,ME),(91,o91_4),(92,MF),(93,MG),(94,o94_4),(95,MH),(96,MI),(97,MJ),(98,o98_4),(99,o99_4),(100,GP),(101,GQ),(102,GR),(103,MK),(104,ML),(105,GS),(106,GT),(107,GU),(108,MM),(109,GV),(110,GW),(111,MN),(112,GX),(113,GY),(114,GZ),(115,MO),(116,Ha),(117,Hb),(118,MP),(119,Hc),(120,Hd),(121,He),(122,MQ),(123,MR),(124,Hf),(125,Hg),(126,Hi),(127,MS),(128,MT),(129,Hj),(130,Hk),(131,Hl),(132,MU),(133,Hm),(134,Hn),(135,MV),(136,Ho),(137,Hq),(138,Hr),(139,MW),(140,Hs),(141,Ht),(142,MX),(143,Hu),(144,Hv),(145,Hw),(146,MY),(147,MZ),(148,Hx),(149,Hy),(150,Hz),(151,Na),(152,Nb),(153,HA),(154,HB),(155,Nc),(156,Nd),(157,Nf),(158,Ng),(159,Nh)]
abbrev s4(w:World)(os:OsState):SharedT:=⟨t4 w.params,160,{ },#[],{ },378,os⟩
abbrev l3:List Stmt:=[top 13,top 14,top 15,top 16,top 17,top 18,top 19,top 20,top 21,top 22,top 23,top 24,top 25,top 26,top 27,top 28]
theorem run_3(w:World)(os:OsState):segRunT treeTable pw w 11 ann 1 392 (s3 w os) (piecesOf l3 env cE ⟨22,0,24,60⟩ fB)=some (.next,s4 w os,cE,⟨96,0,97,63⟩):=by
 rewrite[te_sT,te_tb];kernel_rfl
abbrev o3_5L(P:Params):List DictEntry:=de P "__name__" 165 (vs "law_changehall_k37_texts_refused" 340)::(o3_4L P).tail++[de P "_law_number_of" 388 (.ref 166),de P "_law_hall_of" 394 (.ref 171),de P "_law_word" 402 (.ref 178),de P "_law_spoilt_words" 414 (.ref 185),de P "_law_spoilt" 424 (.ref 192),de P "_law_refused" 433 (.ref 199),de P "_law_line" 443 (.ref 206),de P "law" 454 (.ref 213)]
abbrev o3_5(P:Params):Obj:=⟨.type "dict",none,.dict (o3_5L P).toArray 41,#[]⟩
abbrev o12_5L:List Value:=My++[.int 98 0,.int 0 0,.ref 165,.int 113 0,.int 0 0,.ref 170,.int 125 0,.int 0 0,.ref 177,.int 129 0,.int 0 0,.ref 184,.int 145 0,.int 0 0,.ref 191,.int 158 0,.int 0 0,.ref 198,.int 169 0,.int 0 0,.ref 205,.int 176 0,.int 0 0,.ref 212]
abbrev o12_5:=fi o12_5L
abbrev HC:=tu []
abbrev Ni:=fi []
abbrev HD:=tu [vs "_law_word_here" 381,vs "_law_figures" 382,vs "_law_made" 383,vs "_law_sign" 384,vs "_law_at" 385]
abbrev HE:=tu []
abbrev Nj:=fo .none 29 0 .none .none
abbrev HF:=co "_law_number_of" "/claim/cut.py" 378 379 380 98 1 3 160 true 181 161 .none (.ref 162) (.ref 163) (.ref 164) 386 387
abbrev HG:=fo (.type "function") 29 3 (vs "law_changehall_k37_texts_refused" 340) (.ref 165)
abbrev HH:=tu []
abbrev Nk:=fi []
abbrev Nl:=fo .none 30 0 .none .none
abbrev HI:=co "_law_hall_of" "/claim/cut.py" 389 390 391 113 1 3 167 true 181 168 .none .none .none (.ref 169) 392 393
abbrev HJ:=fo (.type "function") 30 3 (vs "law_changehall_k37_texts_refused" 340) (.ref 170)
abbrev HK:=tu []
abbrev Nm:=fi []
abbrev HL:=tu [vs "_law_way" 398,vs "_law_cell" 399]
abbrev HM:=tu []
abbrev Nn:=fo .none 31 0 .none .none
abbrev HN:=co "_law_word" "/claim/cut.py" 395 396 397 125 2 3 172 true 181 173 .none (.ref 174) (.ref 175) (.ref 176) 400 401
abbrev HP:=fo (.type "function") 31 3 (vs "law_changehall_k37_texts_refused" 340) (.ref 177)
abbrev HQ:=tu []
abbrev Np:=fi []
abbrev HR:=tu [vs "_law_words" 406,vs "_law_way" 407,vs "_law_cell" 408,vs "_law_at" 409,vs "_law_made" 410,vs "_law_k" 411]
abbrev HS:=tu []
abbrev Nq:=fo .none 32 0 .none .none
abbrev HU:=co "_law_spoilt_words" "/claim/cut.py" 403 404 405 129 3 3 179 true 181 180 .none (.ref 181) (.ref 182) (.ref 183) 412 413
abbrev HV:=fo (.type "function") 32 3 (vs "law_changehall_k37_texts_refused" 340) (.ref 184)
abbrev HW:=tu []
abbrev Nr:=fi []
abbrev HX:=tu [vs "_law_line_here" 418,vs "_law_way" 419,vs "_law_cell" 420,vs "_law_at" 421]
abbrev HY:=tu []
abbrev Nt:=fo .none 33 0 .none .none
abbrev HZ:=co "_law_spoilt" "/claim/cut.py" 415 416 417 145 3 3 186 true 181 187 .none (.ref 188) (.ref 189) (.ref 190) 422 423
abbrev Ia:=fo (.type "function") 33 3 (vs "law_changehall_k37_texts_refused" 340) (.ref 191)
abbrev Ib:=tu []
abbrev Nu:=fi []
abbrev Ic:=tu [vs "_law_line_here" 428,vs "_law_refused_here" 429,vs "e" 430]
abbrev Ie:=tu []
abbrev Nv:=fo .none 34 0 .none .none
abbrev Ig:=co "_law_refused" "/claim/cut.py" 425 426 427 158 1 3 193 true 181 194 .none (.ref 195) (.ref 196) (.ref 197) 431 432
abbrev Ih:=fo (.type "function") 34 3 (vs "law_changehall_k37_texts_refused" 340) (.ref 198)
abbrev Ii:=tu []
abbrev Nw:=fi []
abbrev Ij:=tu [vs "_law_drawn" 437,vs "_law_made" 438,vs "_law_bill" 439,vs "_law_number_here" 440]
abbrev Ik:=tu []
abbrev Nx:=fo .none 35 0 .none .none
abbrev Il:=co "_law_line" "/claim/cut.py" 434 435 436 169 1 3 200 true 181 201 .none (.ref 202) (.ref 203) (.ref 204) 441 442
abbrev Im:=fo (.type "function") 35 3 (vs "law_changehall_k37_texts_refused" 340) (.ref 205)
abbrev Io:=tu []
abbrev Ny:=fi []
abbrev Ip:=tu [vs "_law_script" 447,vs "_law_way" 448,vs "_law_cell" 449,vs "_law_line_here" 450,vs "_law_due" 451]
abbrev Iq:=tu []
abbrev Nz:=fo .none 36 0 .none .none
abbrev Ir:=co "law" "/claim/cut.py" 444 445 446 176 1 3 207 true 181 208 .none (.ref 209) (.ref 210) (.ref 211) 452 453
abbrev Iu:=fo (.type "function") 36 3 (vs "law_changehall_k37_texts_refused" 340) (.ref 212)
abbrev t5(P:Params):BT:=ins (t4 P) [(3,o3_5 P),(12,o12_5),(160,HC),(161,Ni),(162,HD),(163,HE),(164,Nj),(165,HF),(166,HG),(167,HH),(168,Nk),(169,Nl),(170,HI),(171,HJ),(172,HK),(173,Nm),(174,HL),(175,HM),(176,Nn),(177,HN),(178,HP),(179,HQ),(180,Np),(181,HR),(182,HS),(183,Nq),(184,HU),(185,HV),(186,HW),(187,Nr),(188,HX),(189,HY),(190,Nt),(191,HZ),(192,Ia),(193,Ib),(194,Nu),(195,Ic),(196,Ie),(197,Nv),(198,Ig),(199,Ih),(200,Ii),(201,Nw),(202,Ij),(203,Ik),(204,Nx),(205,Il),(206,Im),(207,Io),(208,Ny),(209,Ip),(210,Iq),(211,Nz),(212,Ir),(213,Iu)]
abbrev s5(w:World)(os:OsState):SharedT:=⟨t5 w.params,214,{ },#[],{ },455,os⟩
abbrev l4:List Stmt:=[top 29,top 30,top 31,top 32,top 33,top 34,top 35,top 36]
theorem run_4(w:World)(os:OsState):segRunT treeTable pw w 11 ann 1 252 (s4 w os) (piecesOf l4 env cE ⟨96,0,97,63⟩ fB)=some (.next,s5 w os,cE,⟨176,0,185,43⟩):=by
 rewrite[te_sT,te_tb];kernel_rfl
def h1(P:Params):Heap:=⟨⟨[boot_o_0 P,boot_o_1 P,boot_o_2 P,o3_5 P,boot_o_4 P,boot_o_5 P,boot_o_6 P,boot_o_7 P,boot_o_8 P,boot_o_9 P,boot_o_10 P,o11a,o12_5,o13a,o14a,LN,o16_1,o17_1 P,o18_1,o19_1,o20_1,o21_1,LO,LP P,LY,LQ,o26_1,o27_1,LS,o29_2,o30_2 P,o31_2,o32_2,o33_2,o34_2,LU,LV P,LW,o38_2,o39_2,LZ,o41_3,o42_3 P,o43_3,o44_3,o45_3,o46_3,Ma,Mb P,Mc,o50_3,o51_3,Md,o53_3,Me,Mf,o56_3,Mg,Mh,Mi,o60_3,o61_3,Mj,Mk,Ml,o65_3,Mm,Mn,o68_3,Mo,Mp,Mq,o72_3,o73_3,Mr,Ms,Mt,o77_3,Mu,Mv,o80_3,Mw,Mx,Mz,o84_4,MA,MB,o87_4,MC,MD,ME,o91_4,MF,MG,o94_4,MH,MI,MJ,o98_4,o99_4,GP,GQ,GR,MK,ML,GS,GT,GU,MM,GV,GW,MN,GX,GY,GZ,MO,Ha,Hb,MP,Hc,Hd,He,MQ,MR,Hf,Hg,Hi,MS,MT,Hj,Hk,Hl,MU,Hm,Hn,MV,Ho,Hq,Hr,MW,Hs,Ht,MX,Hu,Hv,Hw,MY,MZ,Hx,Hy,Hz,Na,Nb,HA,HB,Nc,Nd,Nf,Ng,Nh,HC,Ni,HD,HE,Nj,HF,HG,HH,Nk,Nl,HI,HJ,HK,Nm,HL,HM,Nn,HN,HP,HQ,Np,HR,HS,Nq,HU,HV,HW,Nr,HX,HY,Nt,HZ,Ia,Ib,Nu,Ic,Ie,Nv,Ig,Ih,Ii,Nw,Ij,Ik,Nx,Il,Im,Io,Ny,Ip,Iq,Nz,Ir,Iu]⟩,{ }⟩
abbrev m7:Drawn:={ }
theorem run_z(w:World)(os:OsState):topRun treeTable pw w 11 ann 2 (s5 w os).abs ⟨doneF .next,cE,⟨176,0,185,43⟩,fB⟩=some ⟨h1 w.params,#[],m7,455,os⟩:=by
 rewrite[te_tr,te_tb];kernel_rfl
theorem Oy:behindTheImports pw=(l0++(l1++(l2++(l3++(l4++[]))))):=by kernel_rfl
theorem run_all(w:World)(os:OsState):topRun treeTable pw w 11 ann (12+(1+(196+(214+(389+(392+(252+2))))))) ⟨boot_heap w.params,#[],boot_drawn,boot_toks,os⟩ (topStub pw)=some ⟨h1 w.params,#[],m7,455,os⟩ :=
 go_top (run_a w os) (piece_block (env:=env) (run_b w os) (by rw[Oy];exact(piece_app (segRun_of (run_0 w os)) (piece_app (segRun_of (run_1 w os)) (piece_app (segRun_of (run_2 w os)) (piece_app (segRun_of (run_3 w os)) (piece_app (segRun_of (run_4 w os)) (run_z w os))))))))
abbrev keep:List Nat:=[1,2,3,5,6,8,9,10,11,12,13,14,15,17,18,19,20,21,22,24,25,26,27,28,29,30,31,32,33,34,35,36]
def K:Params→PySem.W.Frag:=fun P=>(nat_lit 2,boot_o_2 P)::(nat_lit 3,o3_5 P)::(nat_lit 15,LN)::(nat_lit 22,LO)::(nat_lit 23,LP P)::(nat_lit 24,LY)::(nat_lit 25,LQ)::(nat_lit 28,LS)::(nat_lit 35,LU)::(nat_lit 36,LV P)::(nat_lit 37,LW)::(nat_lit 40,LZ)::(nat_lit 47,Ma)::(nat_lit 48,Mb P)::(nat_lit 49,Mc)::(nat_lit 52,Md)::(nat_lit 54,Me)::(nat_lit 55,Mf)::(nat_lit 57,Mg)::(nat_lit 58,Mh)::(nat_lit 59,Mi)::(nat_lit 62,Mj)::(nat_lit 63,Mk)::(nat_lit 64,Ml)::(nat_lit 66,Mm)::(nat_lit 67,Mn)::(nat_lit 69,Mo)::(nat_lit 70,Mp)::(nat_lit 71,Mq)::(nat_lit 74,Mr)::(nat_lit 75,Ms)::(nat_lit 76,Mt)::(nat_lit 78,Mu)::(nat_lit 79,Mv)::(nat_lit 81,Mw)::(nat_lit 82,Mx)::(nat_lit 83,Mz)::(nat_lit 85,MA)::(nat_lit 86,MB)::(nat_lit 88,MC)::(nat_lit 89,MD)::(nat_lit 90,ME)::(nat_lit 92,MF)::(nat_lit 93,MG)::(nat_lit 95,MH)::(nat_lit 96,MI)::(nat_lit 97,MJ)::(nat_lit 100,GP)::(nat_lit 101,GQ)::(nat_lit 102,GR)::(nat_lit 105,GS)::(nat_lit 106,GT)::(nat_lit 107,GU)::(nat_lit 109,GV)::(nat_lit 110,GW)::(nat_lit 112,GX)::(nat_lit 113,GY)::(nat_lit 114,GZ)::(nat_lit 116,Ha)::(nat_lit 117,Hb)::(nat_lit 119,Hc)::(nat_lit 120,Hd)::(nat_lit 121,He)::(nat_lit 124,Hf)::(nat_lit 125,Hg)::(nat_lit 126,Hi)::(nat_lit 129,Hj)::(nat_lit 130,Hk)::(nat_lit 131,Hl)::(nat_lit 133,Hm)::(nat_lit 134,Hn)::(nat_lit 136,Ho)::(nat_lit 137,Hq)::(nat_lit 138,Hr)::(nat_lit 140,Hs)::(nat_lit 141,Ht)::(nat_lit 143,Hu)::(nat_lit 144,Hv)::(nat_lit 145,Hw)::(nat_lit 148,Hx)::(nat_lit 149,Hy)::(nat_lit 150,Hz)::(nat_lit 153,HA)::(nat_lit 154,HB)::(nat_lit 160,HC)::(nat_lit 162,HD)::(nat_lit 163,HE)::(nat_lit 165,HF)::(nat_lit 166,HG)::(nat_lit 167,HH)::(nat_lit 170,HI)::(nat_lit 171,HJ)::(nat_lit 172,HK)::(nat_lit 174,HL)::(nat_lit 175,HM)::(nat_lit 177,HN)::(nat_lit 178,HP)::(nat_lit 179,HQ)::(nat_lit 181,HR)::(nat_lit 182,HS)::(nat_lit 184,HU)::(nat_lit 185,HV)::(nat_lit 186,HW)::(nat_lit 188,HX)::(nat_lit 189,HY)::(nat_lit 191,HZ)::(nat_lit 192,Ia)::(nat_lit 193,Ib)::(nat_lit 195,Ic)::(nat_lit 196,Ie)::(nat_lit 198,Ig)::(nat_lit 199,Ih)::(nat_lit 200,Ii)::(nat_lit 202,Ij)::(nat_lit 203,Ik)::(nat_lit 205,Il)::(nat_lit 206,Im)::(nat_lit 207,Io)::(nat_lit 209,Ip)::(nat_lit 210,Iq)::(nat_lit 212,Ir)::(nat_lit 213,Iu)::[]
abbrev Ka:List Addr:=[2,3,15,22,23,24,25,28,35,36,37,40,47,48,49,52,54,55,57,58,59,62,63,64,66,67,69,70,71,74,75,76,78,79,81,82,83,85,86,88,89,90,92,93,95,96,97,100,101,102,105,106,107,109,110,112,113,114,116,117,119,120,121,124,125,126,129,130,131,133,134,136,137,138,140,141,143,144,145,148,149,150,153,154,160,162,163,165,166,167,170,171,172,174,175,177,178,179,181,182,184,185,186,188,189,191,192,193,195,196,198,199,200,202,203,205,206,207,209,210,212,213]
theorem Ke(P:Params):Ka=(K P).map (·.1):=by kernel_rfl
abbrev qv:Program:=view pw keep
abbrev Xt:Shared→Bool:=fun s=>xlAt qv [] s&&recOk [] s
theorem opened:∀ w:World,(fencedOpening treeTable pw w 3002).map (fun s=>(s.heap,s.gens,s.drawn,s.toks))=some (boot_heap w.params,Array.mk [],boot_drawn,boot_toks):=boot_open (by kernel_rfl) (by kernel_rfl) (fun s=>by kernel_rfl)
theorem sized(w:World):((boot_heap w.params).isNs mainGlobals&&(Array.mk []:Array GenState).size==0,(boot_heap w.params).objs.size,(boot_heap w.params).nsMap mainGlobals "__annotations__")=(true,11,ann):=by
 rewrite[te_ns];kernel_rfl
theorem lk0(w:World)(os:OsState):(staticsOk (importedModules pw.main.body) (boot_heap w.params) (h1 w.params)&&namesBound pw (h1 w.params)&&gensDone ⟨h1 w.params,#[],m7,455,os⟩&&laidKept (boot_heap w.params) (h1 w.params))=true:=by
 rewrite[te_im];kernel_rfl
theorem lk1(w:World)(os:OsState):seen ((recsOf qv).map (·.name)) (ownsOf qv) [] { (⟨h1 w.params,#[],m7,455,os⟩:Shared)with gens:=#[] }=expectedOf qv:=by
 rewrite[te_seen,te_recs,te_owns];kernel_rfl
theorem lk2(w:World)(os:OsState):(⟨h1 w.params,#[],m7,455,os⟩:Shared).heap.bltView=bltViewBooted:=by
 kernel_rfl
theorem lk3(w:World)(os:OsState):((⟨h1 w.params,#[],m7,455,os⟩:Shared).heap.keysOk (looseW qv []) ((recsOf qv).map (·.name)) ((litsOf qv).map (·.1)) ((clssOf qv (looseW qv [])).map (·.name))&&(⟨h1 w.params,#[],m7,455,os⟩:Shared).heap.accountedOkI (importedModules pw.main.body)&&(⟨h1 w.params,#[],m7,455,os⟩:Shared).heap.isNs mainGlobals&&(⟨h1 w.params,#[],m7,455,os⟩:Shared).heap.isNs builtinsNs&&tablesOk qv (⟨h1 w.params,#[],m7,455,os⟩:Shared).heap&&Xt ⟨h1 w.params,#[],m7,455,os⟩&&(if true=true then(⟨h1 w.params,#[],m7,455,os⟩:Shared).gens.size==0 else !leftWithCleanup (⟨h1 w.params,#[],m7,455,os⟩:Shared).gens))=true:=by
 rewrite[te_keys,te_loose,te_recs,te_lits,te_clss,te_acc,te_im,te_tabl];kernel_rfl
theorem lk4(w:World)(os:OsState):tabsOk qv ⟨h1 w.params,#[],m7,455,os⟩=true:=by
 rewrite[te_tabs];kernel_rfl
theorem lk5(w:World)(os:OsState):pinSeenD qv (drecsOf qv) ⟨h1 w.params,#[],m7,455,os⟩=pinGoodD (drecsOf qv):=by
 rewrite[te_pin,te_drecs];kernel_rfl
theorem lk6(w:World)(os:OsState):plainSeenE qv (looseW qv []) ⟨h1 w.params,#[],m7,455,os⟩=plainGoodE qv (looseW qv []):=by
 rewrite[te_pE,te_loose];kernel_rfl
theorem lk7(w:World)(os:OsState):plainSeenD qv [] ⟨h1 w.params,#[],m7,455,os⟩=plainGoodD qv []:=by
 rewrite[te_pD];kernel_rfl
theorem lk8(w:World)(os:OsState):wideSeen qv ⟨h1 w.params,#[],m7,455,os⟩=wideGood qv:=by
 rewrite[te_wide];kernel_rfl
theorem lk9(w:World)(os:OsState):clsSeenW qv [] ⟨h1 w.params,#[],m7,455,os⟩=clsGoodW qv []:=by
 rewrite[te_cls];kernel_rfl
theorem lk10(w:World)(os:OsState):Hook.obs (kHook K Ka Ke) ⟨h1 w.params,#[],m7,455,os⟩=Hook.val (kHook K Ka Ke) w:=by
 kernel_rfl
theorem sn(w:World)(os:OsState):openSeen qv [] (importedModules pw.main.body) Xt true ⟨h1 w.params,#[],m7,455,os⟩=(seen ((recsOf qv).map (·.name)) (ownsOf qv) [] { (⟨h1 w.params,#[],m7,455,os⟩:Shared)with gens:=#[] },(⟨h1 w.params,#[],m7,455,os⟩:Shared).heap.bltView,((⟨h1 w.params,#[],m7,455,os⟩:Shared).heap.keysOk (looseW qv []) ((recsOf qv).map (·.name)) ((litsOf qv).map (·.1)) ((clssOf qv (looseW qv [])).map (·.name))&&(⟨h1 w.params,#[],m7,455,os⟩:Shared).heap.accountedOkI (importedModules pw.main.body)&&(⟨h1 w.params,#[],m7,455,os⟩:Shared).heap.isNs mainGlobals&&(⟨h1 w.params,#[],m7,455,os⟩:Shared).heap.isNs builtinsNs&&tablesOk qv (⟨h1 w.params,#[],m7,455,os⟩:Shared).heap&&Xt ⟨h1 w.params,#[],m7,455,os⟩&&(if true=true then(⟨h1 w.params,#[],m7,455,os⟩:Shared).gens.size==0 else !leftWithCleanup (⟨h1 w.params,#[],m7,455,os⟩:Shared).gens)),tabsOk qv ⟨h1 w.params,#[],m7,455,os⟩,pinSeenD qv (drecsOf qv) ⟨h1 w.params,#[],m7,455,os⟩,plainSeenE qv (looseW qv []) ⟨h1 w.params,#[],m7,455,os⟩,plainSeenD qv [] ⟨h1 w.params,#[],m7,455,os⟩,wideSeen qv ⟨h1 w.params,#[],m7,455,os⟩,clsSeenW qv [] ⟨h1 w.params,#[],m7,455,os⟩):=by kernel_rfl
theorem gd:openGood qv []=(expectedOf qv,bltViewBooted,true,true,pinGoodD (drecsOf qv),plainGoodE qv (looseW qv []),plainGoodD qv [],wideGood qv,clsGoodW qv []):=by kernel_rfl
theorem lkS(w:World)(os:OsState):openSeen qv [] (importedModules pw.main.body) Xt true ⟨h1 w.params,#[],m7,455,os⟩=openGood qv []:=(sn w os).trans (Eq.trans (looks_pair (lk1 w os) (looks_pair (lk2 w os) (looks_pair (lk3 w os) (looks_pair (lk4 w os) (looks_pair (lk5 w os) (looks_pair (lk6 w os) (looks_pair (lk7 w os) (looks_pair (lk8 w os) (lk9 w os))))))))) gd.symm)
theorem left:LeftO pw qv [] Xt (Hook.obs (kHook K Ka Ke)) (Hook.val (kHook K Ka Ke)) 3002 :=
 LeftO.of_pieces (H₀:=boot_heap) (H₁:=h1) (gs₀:=Array.mk []) (gs₁:=#[]) (d₀:=boot_drawn) (d₁:=m7) (k₀:=boot_toks) (k₁:=455) (m₀:=11) (ann:=ann) (M:=(12+(1+(196+(214+(389+(392+(252+2)))))))) opened sized run_all (by kernel_rfl) (fun w=>funext fun os =>
  looks_pair (lk0 w os) (looks_pair (lkS w os) (lk10 w os)))
end
end H
end K37
open PySem PySem.W PyProof.Rows
set_option maxRecDepth 100000 in
set_option maxHeartbeats 0 in
theorem PySem.Challenge.cw_changehall_k37_texts_refused_holds : PySem.Challenge.rw_changehall_k37_texts_refused.Holds := by
 w_on;o_law
 refine PySem.W.holds_open (q:=K37.H.qv) (loose:=[]) (Xt:=K37.H.Xt) (XP:=XL K37.H.qv []) (Yf:=Hook.obs (kHook K37.H.K K37.H.Ka K37.H.Ke)) (Ya:=Hook.val (kHook K37.H.K K37.H.Ka K37.H.Ke)) (YP:=Hook.says (kHook K37.H.K K37.H.Ka K37.H.Ke)) (N:=3002) K37.H.left (Hook.of _) (Hook.keeps _) (fun s e=>xl_of s (Bool.and_eq_true_iff.mp e).1) XL.keeps (by rfl) (by rfl) (by rfl) (fun s e=>recFacts_of (Bool.and_eq_true_iff.mp e).2) (by rfl) (by first|assumption|decide +kernel) (by decide +kernel) ⟨rfl,rfl,rfl,rfl,rfl,by decide +kernel⟩ ?hw ?hc
 (case hw=>w_witness2)
 k_fill
 refine L2.JA (x := "_law_script") (k:=8) (fr:=true) (c:=K37.IW) (l:=PySem.Challenge.rw_changehall_k37_texts_refused) rfl rfl (fun w h Y=>PySem.W.kIn_of Y) ?F (fun ns hl=>K37.LG ns hl) ⟨rfl,by decide,by decide⟩
 case F =>
  intro w mg fa h KX G hmg
  refine' K37.LK KX G hmg (L2.dh ?e0 ?l0 ?c0 ?k0) (L2.dh ?e1 ?l1 ?c1 ?k1) (L2.dh ?e2 ?l2 ?c2 ?k2) (L2.dh ?e3 ?l3 ?c3 ?k3) (L2.dh ?e4 ?l4 ?c4 ?k4) (L2.dh ?e5 ?l5 ?c5 ?k5) (L2.dh ?e6 ?l6 ?c6 ?k6) (L2.dh ?e7 ?l7 ?c7 ?k7) (L2.dh ?e8 ?l8 ?c8 ?k8) (L2.dh ?e9 ?l9 ?c9 ?k9) (L2.dh ?e10 ?l10 ?c10 ?k10) (L2.dh ?e11 ?l11 ?c11 ?k11) (L2.dh ?e12 ?l12 ?c12 ?k12) (L2.dh ?e13 ?l13 ?c13 ?k13) (L2.dh ?e14 ?l14 ?c14 ?k14) (L2.dh ?e15 ?l15 ?c15 ?k15) (L2.dh ?e16 ?l16 ?c16 ?k16) (L2.dh ?e17 ?l17 ?c17 ?k17) (L2.dh ?e18 ?l18 ?c18 ?k18) (L2.dh ?e19 ?l19 ?c19 ?k19) (L2.dh ?e20 ?l20 ?c20 ?k20) (L2.dh ?e21 ?l21 ?c21 ?k21) (L2.dh ?e22 ?l22 ?c22 ?k22) (L2.dh ?e23 ?l23 ?c23 ?k23) (L2.dh ?e24 ?l24 ?c24 ?k24) ?z_ValueError ?z_abs ?z_all ?z_bool ?z_int ?z_isinstance ?z_len ?z_list ?z_range ?z_str ?z_tuple ?y_MOST_BILLS ?y_MOST_FIGURES ?y_MOST_KINDS ?w_HallError ?w_NoHall ?w_NoText ?u_NoHall ?v_NoHall ?u_NoText ?v_NoText ?o_NoHall_HallError ?o_NoText_HallError ?o_NoHall_NoHall ?o_NoText_NoText
  all_goals try k_is
  all_goals kernel_rfl

end
