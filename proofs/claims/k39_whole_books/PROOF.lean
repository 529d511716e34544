import PyProof.Rows.All
import Wide.All
import OpenK.AllK
import Wide.FinOn
import Lean
import PyProof.EqAt
import PyProof.EqKinds
import PyProof.TupleCall
import PyProof.CompFree
import PyProof.Cells
import PySem.Challenge.RW_changehall_k39_whole_books
set_option Elab.async false
set_option linter.all false
set_option maxRecDepth 100000
set_option exponentiation.threshold 20000
section
local macro_rules|`(tactic| omega)=>`(tactic| first|lia|omega +splitDisjunctions)
set_option Elab.async false
set_option linter.all false
set_option maxRecDepth 100000
namespace L2
open PySem PySem.Spec PyProof.Rows
abbrev Key:=Sum Int Str
def keyIs:Key→Value→Bool
 | .inl k,v=>Value.isInt k v
 | .inr x,v=>Value.isStrOf x v
def keyH(w:World):Key→Int
 | .inl k=>hashInt k
 | .inr x=>hashStr w x
theorem o7:∀{k:Key} {v:Value},keyIs k v=true→(∃ i t,k=Sum.inl i∧v=Value.int i t)∨(∃ x t,k=Sum.inr x∧v=Value.str x t)
 | .inl i,v,h=>by
  obtain⟨t,e⟩:=Value.isInt_shape (k:=i) (v:=v) h
  exact .inl ⟨i,t,rfl,e⟩
 | .inr x,v,h=>by
  obtain⟨t,e⟩:=Value.isStrOf_shape (x:=x) (v:=v) h
  exact .inr ⟨x,t,rfl,e⟩
theorem key_ll(a b:Int):decide ((Sum.inl a:Key)=Sum.inl b)=(a==b):=by
 by_cases e:a=b
 · subst e;simp
 · have h:¬(Sum.inl a:Key)=Sum.inl b:=fun q=>e (Sum.inl.inj q)
   rw[decide_eq_false h]
   exact(beq_eq_false_iff_ne.mpr e).symm
theorem key_rr(a b:Str):decide ((Sum.inr a:Key)=Sum.inr b)=decide (a=b):=by
 by_cases e:a=b
 · subst e;simp
 · have h:¬(Sum.inr a:Key)=Sum.inr b:=fun q=>e (Sum.inr.inj q)
   rw[decide_eq_false h,decide_eq_false e]
theorem key_lr(a:Int)(b:Str):decide ((Sum.inl a:Key)=Sum.inr b)=false:=decide_eq_false (fun q=>nomatch q)
theorem key_rl(a:Str)(b:Int):decide ((Sum.inr a:Key)=Sum.inl b)=false:=decide_eq_false (fun q=>nomatch q)
def Bp(prog:Program)(w:World):PySem.KeyKind prog w Key where
 is:=keyIs
 hash:=keyH w
 inj:=fun v a b ha hb=>by
  rcases o7 ha with⟨i,t,rfl,rfl⟩|⟨x,t,rfl,rfl⟩
  · rcases o7 hb with⟨j,u,rfl,e⟩|⟨y,u,rfl,e⟩
    · injection e with e1 _;rw[e1]
    · exact nomatch e
  · rcases o7 hb with⟨j,u,rfl,e⟩|⟨y,u,rfl,e⟩
    · exact nomatch e
    · injection e with e1 _;rw[e1]
 byValue:=fun k v h=>by
  rcases o7 h with⟨i,t,rfl,rfl⟩|⟨x,t,rfl,rfl⟩<;>rfl
 pyHash:=fun hv h=>by
  rcases o7 hv with⟨i,t,rfl,rfl⟩|⟨x,t,rfl,rfl⟩
  · exact wpAny_pyHash_int h
  · exact wpAny_pyHash_str h
 eqBool:=fun hu hv h=>by
  rcases o7 hu with⟨i,t,rfl,rfl⟩|⟨x,t,rfl,rfl⟩
  · rcases o7 hv with⟨j,u,rfl,rfl⟩|⟨y,u,rfl,rfl⟩
    · rw[key_ll]at h;exact wpAny_eqBool_int h
    · rw[key_lr]at h;exact SeqAt.EqAt.int_str i t y u _ _ _ _ h
  · rcases o7 hv with⟨j,u,rfl,rfl⟩|⟨y,u,rfl,rfl⟩
    · rw[key_rl]at h;exact SeqAt.EqAt.str_int x t j u _ _ _ _ h
    · rw[key_rr]at h;exact wpAny_eqBool_str h
 «strs»:=fun k x t v h=>by
  rcases o7 h with⟨i,u,rfl,e⟩|⟨y,u,rfl,e⟩
  · exact nomatch e
  · injection e with e1 _
    subst e1
    cases v<;>rfl
end L2
namespace L2
open PySem PySem.Spec PyProof.Rows
inductive V where
 | non|bl (b:Bool)|int (i:Int)|str (x:Str)|byt (b:Array UInt8)|flt (b:UInt64)|ref (a:Addr)|ty (n:String)
 deriving DecidableEq
def RelV:V→Value→Prop
 | .non,u=>u=Value.none
 | .bl b,u=>u=Value.bool b
 | .int i,u=>∃ t,u=Value.int i t
 | .str x,u=>∃ t,u=Value.str x t
 | .byt b,u=>∃ t,u=Value.bytes b t
 | .flt b,u=>∃ t,u=Value.float b t
 | .ref a,u=>u=Value.ref a
 | .ty n,u=>u=Value.type n
abbrev Vals:List V→List Value→Prop:=Paired RelV
theorem Vals.length{xs:List V}{us:List Value}(r:Vals xs us):xs.length=us.length:=Paired.length r
theorem Vals.get:∀{xs:List V} {us:List Value} {i:Nat} {x:V},Vals xs us→xs[i]?=some x→∃ u,us[i]?=some u∧RelV x u
 | _,_,_,_,.nil,e=>by simp at e
 | _,_,0,_,.cons r _,e=>by simp at e;subst e;exact⟨_,rfl,r⟩
 | _,_,i+1,x,.cons _ t,e=>by
  obtain⟨u,h1,h2⟩:=Vals.get (i:=i) (x:=x) t (by simpa using e)
  exact⟨u,by simpa using h1,h2⟩
theorem Vals.set{x:V}{u:Value}(r:RelV x u):∀{xs:List V} {us:List Value} (i:Nat),Vals xs us→Vals (xs.set i x) (us.set i u)
 | _,_,_,.nil => .nil
 | _,_,0,.cons _ t => .cons r t
 | _,_,i+1,.cons q t => .cons q (Vals.set r i t)
theorem Vals.append:∀{xs ys:List V} {us ws:List Value},Vals xs us→Vals ys ws→Vals (xs++ys) (us++ws)
 | _,_,_,_,.nil,s=>s
 | _,_,_,_,.cons r t,s => .cons r (Vals.append t s)
theorem Vals.take:∀{xs:List V} {us:List Value} (n:Nat),Vals xs us→Vals (xs.take n) (us.take n)
 | _,_,0,_ => .nil
 | _,_,_+1,.nil => .nil
 | _,_,n+1,.cons r t => .cons r (Vals.take n t)
theorem Vals.drop:∀{xs:List V} {us:List Value} (n:Nat),Vals xs us→Vals (xs.drop n) (us.drop n)
 | _,_,0,r=>r
 | _,_,_+1,.nil => .nil
 | _,_,n+1,.cons _ t=>Vals.drop n t
theorem Vals.none_of:∀{xs:List V} {us:List Value} {i:Nat},Vals xs us→xs[i]?=none→us[i]?=none:=fun{xs us i} r e=>by
 have h1:=r.length
 have h2:xs.length≤i:=List.getElem?_eq_none_iff.mp e
 exact List.getElem?_eq_none_iff.mpr (by omega)
def RelO:Option V→Option Value→Prop
 | some v,some u=>RelV v u
 | none,none=>True
 | _,_=>False
def KV{κ:Type}:List (κ×V)→List (κ×Value)→Prop:=Paired fun(p:κ×V) (q:κ×Value)=>p.1=q.1∧RelV p.2 q.2
def kV:Key→V
 | .inl i => .int i
 | .inr x => .str x
inductive HO where
 | lst (xs:List V)
 | tup (xs:List V)
 | dK (kvs:List (Key×V))|dT (kvs:List (List Key×V))
 | set (S:Int→Bool) (n:Nat)
 | ins (C dx:Addr) (fs:List (Str×V))
 | own (x:Addr)
 | xd (fs:List (Str×V))
 | met (f x:Addr)
 | rng (lo hi:Int)
 | frz (o:Obj) (u:HO)
 | tbl (ps:Array Value)
 | ext (φ:Heap→Prop)
abbrev Hp:=Addr→Option HO
def upd(H:Hp)(a:Addr)(o:HO):Hp:=fun b=>if b=a then some o else H b
theorem j0{H:Hp}{a:Addr}{o:HO}:upd H a o a=some o:=by unfold upd;rw[if_pos rfl]
theorem i0{H:Hp}{a b:Addr}{o:HO}(h:b≠a):upd H a o b=H b:=by unfold upd;rw[if_neg h]
theorem z8{H:Hp}{a b:Addr}{o:HO}(h:H a=some o)(h':H b=none):a≠b:=by
 intro e;subst e;rw[h]at h';cases h'
section
variable (P:Program)(w:World)
def ObjOk(H:Hp)(h:Heap)(a:Addr):HO→Prop
 | .lst xs=>xs.length≤sizeLine∧∃(its:List Value) (n:Nat),Vals xs its∧h.get? a=some { cls := .type "list",data := .seq its.toArray n }
 | .tup xs=>xs.length≤sizeLine∧∃ its:List Value,Vals xs its∧IsTup h a its.toArray
 | .dK kvs=>kvs.length≤sizeLine∧(a==sysModules)=false∧∃ vs,KV kvs vs∧h.DictOf (Bp P w) a vs
 | .dT kvs=>kvs.length≤sizeLine∧(a==sysModules)=false∧∃ xs:List (List Key×Addr×Value),
  Paired (fun(p:List Key×V) (q:List Key×Addr×Value)=>p.1=q.1∧H q.2.1=some (.tup (p.1.map kV))∧RelV p.2 q.2.2) kvs xs ∧
  ∃ o es ep,h.get? a=some o∧o.ExactDict∧o.data = .dict es ep∧es.toList=xs.map (entryOfKey (tupleKind (Bp P w)))∧(xs.map (·.1)).Nodup
 | .set S n=>h.SetOf (intKind P w) a S n
 | .ins C dx fs=>H dx=some (.own a)∧fs.length≤1000∧dx≠a∧h.get? a=some (PySem.W.instObj C dx) ∧
  ∃ mA,h.Ns1 dx mA∧(∀ f,RelO (fs.lookup f) (mA f))∧PySem.Within mA (fs.map (·.1))
 | .own _=>∃ o,h.get? a=some o
 | .xd fs=>∃ mA,h.Ns1 a mA∧∀ f,RelO (fs.lookup f) (mA f)
 | .rng lo hi=>∃ t u v,h.get? a=some { cls := .type "range",data := .fields #[.int lo t,.int hi u,.int 1 v] }
 | .frz o u=>h.get? a=some o∧ObjOk H h a u
 | .tbl ps=>h.get? a=some { cls := .none,data := .fields ps }
 | .met f x=>h.get? a=some (PySem.W.methodObj (.ref f) (.ref x))
 | .ext φ=>φ h∧(∃ o,h.get? a=some o)∧∀ h1 h2:Heap,φ h1→(∀ o,h1.get? a=some o→h2.get? a=some o)→φ h2
def HOk(H:Hp)(h:Heap):Prop:=∀ a o,H a=some o→ObjOk P w H h a o
end
section
variable {P:Program}{w:World}{H H':Hp}{h h':Heap}{a:Addr}{o:HO}
theorem ObjOk.lt(x:ObjOk P w H h a o):a<h.objs.size:=by
 cases o with
 | lst xs=>obtain⟨_,_,_,_,e⟩:=x;exact Heap.lt_size e
 | tup xs=>obtain⟨_,_,_,p⟩:=x;exact p.lt
 | dK kvs=>obtain⟨_,_,_,_,o,_,_,e,_⟩:=x;exact Heap.lt_size e
 | dT kvs=>obtain⟨_,_,_,_,o,_,_,e,_⟩:=x;exact Heap.lt_size e
 | set S n=>obtain⟨o,_,_,_,e,_⟩:=x;exact Heap.lt_size e
 | ins C dx fs=>obtain⟨_,_,_,e,_⟩:=x;exact Heap.lt_size e
 | own y=>obtain⟨_,e⟩:=x;exact Heap.lt_size e
 | xd fs=>obtain⟨_,⟨_,_,_,e,_⟩,_⟩:=x;exact Heap.lt_size e
 | rng lo hi=>obtain⟨_,_,_,e⟩:=x;exact Heap.lt_size e
 | frz ob u=>obtain⟨e,_⟩:=x;exact Heap.lt_size e
 | tbl ps=>exact Heap.lt_size (show h.get? a=some _ from x)
 | met f y=>exact Heap.lt_size (show h.get? a=some _ from x)
 | ext φ=>obtain⟨_,⟨_,e⟩,_⟩:=x;exact Heap.lt_size e
theorem Paired.mapP{α β:Type}{F G:α→β→Prop}:∀{l₁:List α} {l₂:List β},Paired F l₁ l₂→(∀ a b,F a b→G a b)→Paired G l₁ l₂
 | _,_,.nil,_ => .nil
 | _,_,.cons r t,f => .cons (f _ _ r) (Paired.mapP t f)
theorem ObjOk.stay(x:ObjOk P w H h a o)(k:∀ b u,(b=a∨H b=some (.own a))→h.get? b=some u→h'.get? b=some u)
  (ho:∀ b,H b=some (.own a)→H' b=some (.own a)) (ht:∀ b xs,H b=some (.tup xs)→H' b=some (.tup xs)):ObjOk P w H' h' a o:=by
 induction o with
 | lst xs=>obtain⟨z,its,n,r,e⟩:=x;exact⟨z,its,n,r,k _ _ (.inl rfl) e⟩
 | tup xs=>obtain⟨z,its,r,ob,e,c⟩:=x;exact⟨z,its,r,ob,k _ _ (.inl rfl) e,c⟩
 | dK kvs=>obtain⟨z,y,vs,r,ob,es,ep,e,c⟩:=x;exact⟨z,y,vs,r,ob,es,ep,k _ _ (.inl rfl) e,c⟩
 | dT kvs =>
  obtain⟨z,y,xs,r,ob,es,ep,e,c⟩:=x
  exact⟨z,y,xs,Paired.mapP r fun p q z=>⟨z.1,ht _ _ z.2.1,z.2.2⟩,ob,es,ep,k _ _ (.inl rfl) e,c⟩
 | set S n=>obtain⟨ob,es,ep,t,e,c⟩:=x;exact⟨ob,es,ep,t,k _ _ (.inl rfl) e,c⟩
 | ins C dx fs =>
  obtain⟨d,z,ne,e,mA,⟨od,es,ep,e2,c⟩,r⟩:=x
  exact⟨ho _ d,z,ne,k _ _ (.inl rfl) e,mA,⟨od,es,ep,k _ _ (.inr d) e2,c⟩,r⟩
 | own y=>obtain⟨ob,e⟩:=x;exact⟨ob,k _ _ (.inl rfl) e⟩
 | xd fs=>obtain⟨mA,⟨od,es,ep,e,c⟩,r⟩:=x;exact⟨mA,⟨od,es,ep,k _ _ (.inl rfl) e,c⟩,r⟩
 | rng lo hi=>obtain⟨t,u,v,e⟩:=x;exact⟨t,u,v,k _ _ (.inl rfl) e⟩
 | frz ob u ih=>obtain⟨e,q⟩:=x;exact⟨k _ _ (.inl rfl) e,ih q⟩
 | tbl ps =>
  have e:h.get? a=some { cls := .none,data := .fields ps }:=x
  show h'.get? a=some { cls := .none,data := .fields ps }
  exact k a _ (.inl rfl) e
 | met f y =>
  have e:h.get? a=some (PySem.W.methodObj (.ref f) (.ref y)):=x
  show h'.get? a=some (PySem.W.methodObj (.ref f) (.ref y))
  exact k a _ (.inl rfl) e
 | ext φ=>obtain⟨p,⟨o,e⟩,st⟩:=x;exact⟨st _ _ p fun o q=>k _ _ (.inl rfl) q,⟨o,k _ _ (.inl rfl) e⟩,st⟩
theorem HOk.lt(x:HOk P w H h)(e:H a=some o):a<h.objs.size:=(x a o e).lt
theorem HOk.fresh(x:HOk P w H h)(e:h.objs.size≤a):H a=none:=by
 cases q:H a with
 | none=>rfl
 | some u=>exact absurd (Nat.lt_of_lt_of_le (x.lt q) e) (Nat.lt_irrefl _)
theorem HOk.kept(x:HOk P w H h)(k:∀ b u,h.get? b=some u→h'.get? b=some u):HOk P w H h':=fun a o e =>
 (x a o e).stay (fun b u _ q=>k b u q) (fun _ q=>q) fun _ _ q=>q
theorem HOk.laid(x:HOk P w H h)(k:∀ b u,h.get? b=some u→h'.get? b=some u)(hp:h.objs.size≤a)(new:ObjOk P w (upd H a o) h' a o):HOk P w (upd H a o) h':=fun b u e=>by
 have hn:=x.fresh hp
 by_cases hb:b=a
 · subst hb;rw[j0]at e;cases e;exact new
 · rw[i0 hb]at e
   exact(x b u e).stay (fun c v _ q=>k c v q) (fun c q=>by rw[i0 (z8 q hn)];exact q) fun c xs q=>by rw[i0 (z8 q hn)];exact q
end
def Rd(H:Hp)(a:Addr)(u:HO):Prop:=H a=some u∨∃ o,H a=some (.frz o u)
theorem Rd.of{H:Hp}{a:Addr}{u:HO}(h:H a=some u):Rd H a u := .inl h
theorem Rd.ok{P:Program}{w:World}{H:Hp}{h:Heap}{a:Addr}{u:HO}(r:Rd H a u)(x:HOk P w H h):ObjOk P w H h a u:=by
 rcases r with r|⟨o,r⟩
 · exact x a u r
 · obtain⟨_,q⟩:=x a _ r
   exact q
def Mut:Option HO→Prop
 | some (.lst _)=>True
 | some (.dK _)=>True
 | some (.dT _)=>True
 | some (.set _ _)=>True
 | some (.ins _ _ _)=>True
 | some (.ext _)=>True
 | _=>False
section
variable {P:Program}{w:World}{H:Hp}{h h':Heap}{x e:Addr}{o':HO}
theorem HOk.write(ok:HOk P w H h)(mu:Mut (H x))(he:e=x∨H e=some (.own x))(k:∀ b u,b≠e→h.get? b=some u→h'.get? b=some u)(heo:∃ u,h'.get? e=some u)
   (new:ObjOk P w (upd H x o') h' x o'):HOk P w (upd H x o') h':=fun b u q=>by
 have nown:∀ c y,H c=some (.own y)→c≠x:=fun c y r z=>by subst z;rw[r]at mu;exact mu
 have ntup:∀ c xs,H c=some (.tup xs)→c≠x:=fun c xs r z=>by subst z;rw[r]at mu;exact mu
 by_cases hb:b=x
 · subst hb;rw[j0]at q;cases q;exact new
 · rw[i0 hb]at q
   by_cases hbe:b=e
   · have q':H b=some (.own x):=by
       rcases he with z|z
       · exact absurd (hbe.trans z) hb
       · rw[hbe];exact z
     rw[q]at q';cases q'
     obtain⟨v,hv⟩:=heo
     exact⟨v,by rw[hbe];exact hv⟩
   · refine(ok b u q).stay (fun c v hc r=>k c v ?_ r) (fun c r=>by rw[i0 (nown c b r)];exact r) fun c xs r=>by rw[i0 (ntup c xs r)];exact r
     rcases hc with rfl|hc
     · exact hbe
     · rintro rfl
       rcases he with z|z
       · exact nown c b hc z
       · rw[hc]at z;cases z;exact hb rfl
end
structure Un(fs ex:List Addr)(H H':Hp)(h h':Heap):Prop where
 keep:∀ b o,h.get? b=some o→H b=none→b ∉ fs→b ∉ ex→h'.get? b=some o
 slot:∀ b o,h.get? b=some o→H b=none→b∈fs→b ∉ ex→∃ sl,h'.get? b=some { o with slots:=sl }
 free:∀ b o,h.get? b=some o→H b=none→b ∉ ex→H' b=none
 there:∀ b o,h.get? b=some o→b ∉ ex→∃ o',h'.get? b=some o'
 tups:∀ b xs,H b=some (.tup xs)→H' b=some (.tup xs)
 frzs:∀ b o u,H b=some (.frz o u)→H' b=some (.frz o u)
 tbls:∀ b ps,H b=some (.tbl ps)→∃ more,H' b=some (.tbl (ps++more))
section
variable {fs fs' ex ex':List Addr}{H H1 H2:Hp}{h h1 h2 h':Heap}{a x e:Addr}{o:HO}
theorem Un.any(u:Un fs ex H H1 h h1){b:Addr}{ob:Obj}(q:h.get? b=some ob)(n:H b=none)(hx:b ∉ ex):∃ sl,h1.get? b=some { ob with slots:=sl }:=by
 by_cases hb:b∈fs
 · exact u.slot b ob q n hb hx
 · exact⟨ob.slots,u.keep b ob q n hb hx⟩
theorem Un.trans(a:Un fs ex H H1 h h1)(b:Un fs ex H1 H2 h1 h2):Un fs ex H H2 h h2 where
 keep:=fun c ob q n hc hx=>b.keep c ob (a.keep c ob q n hc hx) (a.free c ob q n hx) hc hx
 slot:=fun c ob q n hc hx=>by
  obtain⟨sl,e1⟩:=a.slot c ob q n hc hx
  obtain⟨sl',e2⟩:=b.slot c _ e1 (a.free c ob q n hx) hc hx
  exact⟨sl',e2⟩
 free:=fun c ob q n hx=>by
  obtain⟨o',e1⟩:=a.there c ob q hx
  exact b.free c o' e1 (a.free c ob q n hx) hx
 there:=fun c ob q hx=>by
  obtain⟨o',e1⟩:=a.there c ob q hx
  exact b.there c o' e1 hx
 tups:=fun c xs q=>b.tups c xs (a.tups c xs q)
 frzs:=fun c ob xs q=>b.frzs c ob xs (a.frzs c ob xs q)
 tbls:=fun c ps q=>by
  obtain⟨m1,e1⟩:=a.tbls c ps q
  obtain⟨m2,e2⟩:=b.tbls c _ e1
  exact⟨m1++m2,by rw[e2,Array.append_assoc]⟩
theorem Un.kept(k:∀ b u,h.get? b=some u→h'.get? b=some u):Un fs ex H H h h' :=
 ⟨fun b ob q _ _ _=>k b ob q,fun b ob q _ _ _=>⟨ob.slots,k b ob q⟩,fun _ _ _ n _=>n,fun b ob q _=>⟨ob,k b ob q⟩,fun _ _ q=>q,fun _ _ _ q=>q,fun _ ps q=>⟨#[],by rw[q];simp⟩⟩
theorem Un.refl:Un fs ex H H h h:=Un.kept fun _ _ q=>q
theorem Un.laid(k:∀ b u,h.get? b=some u→h'.get? b=some u)(hp:h.objs.size≤a)(hn:H a=none):Un fs ex H (upd H a o) h h' where
 keep:=fun b u q _ _ _=>k b u q
 slot:=fun b u q _ _ _=>⟨u.slots,k b u q⟩
 free:=fun b u q n _=>by rw[i0 (Nat.ne_of_lt (Nat.lt_of_lt_of_le (Heap.lt_size q) hp))];exact n
 there:=fun b u q _=>⟨u,k b u q⟩
 tups:=fun b xs q=>by rw[i0 (z8 q hn)];exact q
 frzs:=fun b u xs q=>by rw[i0 (z8 q hn)];exact q
 tbls:=fun b ps q=>⟨#[],by rw[i0 (z8 q hn),q];simp⟩
theorem Un.write(mu:Mut (H x))(he:e=x∨H e=some (.own x))(k:∀ b u,b≠e→h.get? b=some u→h'.get? b=some u)(heo:∃ u,h'.get? e=some u):Un fs ex H (upd H x o) h h':=by
 have hx:∀ b,H b=none→b≠x:=fun b n z=>by subst z;rw[n]at mu;exact mu
 have hb:∀ b,H b=none→b≠e:=fun b n z=>by
   subst z
   rcases he with r|r
   · exact hx b n r
   · rw[n]at r;cases r
 have hm:∀ b u,H b=some u→¬Mut (some u)→b≠x:=fun b u q nm z=>by subst z;rw[q]at mu;exact nm mu
 refine⟨fun b u q n _ _=>k b u (hb b n) q,fun b u q n _ _=>⟨u.slots,k b u (hb b n) q⟩,fun b u q n _=>by rw[i0 (hx b n)];exact n,fun b u q _=>?_,
   fun b xs q=>by rw[i0 (hm b _ q fun z=>z)];exact q,fun b u xs q=>by rw[i0 (hm b _ q fun z=>z)];exact q,fun b ps q=>⟨#[],by rw[i0 (hm b _ q fun z=>z),q];simp⟩⟩
 by_cases hbe:b=e
 · subst hbe;exact heo
 · exact⟨u,k b u hbe q⟩
theorem Un.mono(u:Un fs ex H H1 h h1)(hs:∀ b∈fs,b∈fs')(hx:∀ b∈ex,b∈ex'):Un fs' ex' H H1 h h1 :=
 ⟨fun b ob q n hb he=>u.keep b ob q n (fun z=>hb (hs b z)) fun z=>he (hx b z),fun _ _ q n _ he=>u.any q n fun z=>he (hx _ z),fun b ob q n he=>u.free b ob q n fun z=>he (hx b z),fun b ob q he=>u.there b ob q fun z=>he (hx b z),u.tups,u.frzs,u.tbls⟩
end
def trk(h:Heap)(H:Hp):List Addr:=(List.range h.objs.size).filter fun a=>(H a).isSome
def hidT(h:Heap)(H:Hp):Heap:=PySem.W.hideAll h (trk h H)
theorem GA(h:Heap)(H:Hp):(hidT h H).objs.size=h.objs.size:=PySem.W.hideAll_size _ _
theorem Hb{h:Heap}{H:Hp}{b:Addr}{o:Obj}(e:h.get? b=some o)(n:H b=none):(hidT h H).get? b=some o :=
 PySem.W.hideAll_get _ e fun hm=>by
  have q:(H b).isSome=true:=(List.mem_filter.mp hm).2
  rw[n]at q;simp at q
theorem Kq{h:Heap}{H:Hp}{b:Addr}{o:Obj}(e:(hidT h H).get? b=some o):h.get? b=some o∧H b=none:=by
 have e':h.get? b=some o:=PySem.W.of_hideAll (trk h H) e
 refine⟨e',?_⟩
 cases q:H b with
 | none=>rfl
 | some x =>
  have hm:b∈trk h H:=List.mem_filter.mpr ⟨List.mem_range.mpr (Heap.lt_size e'),by simp[q]⟩
  have z:(hidT h H).get? b=none:=PySem.W.hideAll_none (trk h H) hm
  rw[z]at e;cases e
def Kr(g h:Heap)(L:Addr):List (Addr×Obj):=(List.range h.objs.size).filterMap fun a=>if a=L∨(g.get? a).isSome=true then none else(h.get? a).map fun o=>(a,o)
def rest(g h:Heap)(L d:Addr):List (Addr×Obj):=(Kr g h L).filter fun p=>decide (p.1≠d)
end L2
namespace L2
open PySem PySem.Spec PyProof.Rows
structure Mod(K:PySem.W.Frag)(mg:Str→Option Value)(base:Heap):Prop where
 kin:K.In base
 glob:base.Ns mainGlobals mg
 blt:∃ mb,base.Ns builtinsNs mb∧∀ x:Str,x ≠ "__name__" → mb x=bootBuiltins x
 nolimit:base.NoLimit
structure Cx where
 prog:Program
 w:World
 K:PySem.W.Frag
 mg:Str→Option Value
 base:Heap
 A:Around
 N:List Str
 s₀:Shared
 H₀:Hp
 env:Env
 outer:List Env
 stack:List Env
 ex:List Addr
 fn:Str→Bool
 calm:Bool
 pn:List (Addr×Obj)
 xe:Value→Shared→Prop
def frs(l:List Env):List Addr:=l.filterMap (·.frame)
abbrev Cx.fs(X:Cx):List Addr:=frs X.outer
def Vis(sc:Scope)(x:Str):Prop:=sc.names.lookup x=some .local∨sc.names.lookup x=some .cell∨sc.names.lookup x=some .free
def Loc(sc:Scope)(x:Str):Prop:=sc.names.lookup x=some .local∨sc.names.lookup x=some .cell
def Look(env:Env)(h:Heap)(m:Str→Option Value)(x:Str)(u:Value):Prop :=
 (env.kindOf x=some .local∧m x=some u)∨((env.kindOf x=some .cell∨env.kindOf x=some .free)∧∃ c,env.cells.lookup x=some c∧h.IsCell c (some u))
structure Cx.Ok(X:Cx):Prop where
 mod:Mod X.K X.mg X.base
 kind:X.env.scope.kind = .function
 glob:X.env.globals=mainGlobals
 blt:X.env.builtins=builtinsNs
 above:X.s₀.heap.objs.size≤X.env.locals
 inj:∀ x y c,X.env.cells.lookup x=some c→X.env.cells.lookup y=some c→x=y
 has:∀ x,(X.env.kindOf x=some .cell∨X.env.kindOf x=some .free)→∃ c,X.env.cells.lookup x=some c
 cab:∀ x c,X.fn x=true→X.env.cells.lookup x=some c→X.s₀.heap.objs.size≤c
 hd:X.calm=true→X.A.handled=none
 frames:X.A.frames=some X.stack
 stk:X.stack=X.outer∨(X.stack=X.env::X.outer∧X.env.frame=some X.env.locals)
 exf:∀ b∈X.ex,b≠X.env.locals∧∀ x c,X.env.cells.lookup x=some c→c≠b
 bs:∀ b o,X.base.get? b=some o→X.s₀.heap.get? b=some o∧X.H₀ b=none
 bsz:X.base.objs.size≤X.s₀.heap.objs.size
 noex:∀ b o,X.base.get? b=some o→b ∉ X.ex
 exfs:∀ b∈X.ex,b ∉ X.fs
 funs:X.s₀.heap.FunFrames X.base X.outer
 frf:∀ b∈X.fs,X.H₀ b=none
structure Inv(X:Cx)(pins:List (Addr×Obj))(σ:List (Option V))(H:Hp)(s:Shared):Prop where
 ok:X.Ok
 os:s.os=X.s₀.os
 bare:AllBare s.gens
 base:Un X.fs X.ex X.H₀ H X.s₀.heap s.heap
 loc:∃ m,s.heap.Ns X.env.locals m∧∀(i:Nat) (x:Str) (v:V),X.N[i]?=some x→σ[i]?=some (some v)→Vis X.env.scope x→∃ u,RelV v u∧Look X.env s.heap m x u
 cell:∀ x c,X.env.cells.lookup x=some c→∃ v,s.heap.IsCell c v
 free:H X.env.locals=none
 freeC:∀ x c,X.env.cells.lookup x=some c→H c=none
 pin:∀ p∈X.pn++pins,s.heap.get? p.1=some p.2∧H p.1=none∧p.1≠X.env.locals∧p.1 ∉ X.fs∧∀ v,p.2.data ≠ .cell v
 hok:HOk X.prog X.w H s.heap
 len:σ.length=X.N.length
section
variable {X:Cx}{pins:List (Addr×Obj)}{σ:List (Option V)}{H H':Hp}{s:Shared}{h':Heap}
theorem Cx.Ok.nofr(ok:X.Ok){b:Addr}{o:Obj}(e:X.base.get? b=some o):b ∉ X.fs:=fun hb=>by
 have:=(ok.funs.mem hb).1
 rw[e]at this;cases this
theorem Inv.bs(I:Inv X pins σ H s):∀ b o,X.base.get? b=some o→s.heap.get? b=some o∧H b=none:=fun b o e =>
 ⟨I.base.keep b o (I.ok.bs b o e).1 (I.ok.bs b o e).2 (I.ok.nofr e) (I.ok.noex b o e),I.base.free b o (I.ok.bs b o e).1 (I.ok.bs b o e).2 (I.ok.noex b o e)⟩
theorem Inv.bk(I:Inv X pins σ H s):∀ b o,X.base.get? b=some o→s.heap.get? b=some o:=fun b o e=>(I.bs b o e).1
theorem Inv.mod(I:Inv X pins σ H s):Mod X.K X.mg X.base:=I.ok.mod
theorem Inv.kIn(I:Inv X pins σ H s):X.K.In s.heap:=I.ok.mod.kin.keeps I.bk
theorem Inv.nolimit(I:Inv X pins σ H s):s.heap.NoLimit:=I.ok.mod.nolimit.keeps I.bk
theorem Inv.fr(I:Inv X pins σ H s):∃ m,Fr X.base X.env.locals s.heap m :=
 let ⟨m,hn,_⟩:=I.loc
 ⟨m,hn,I.bk,Nat.le_trans I.ok.bsz I.ok.above⟩
theorem Inv.lt(I:Inv X pins σ H s):X.env.locals<s.heap.objs.size:=let ⟨_,hn,_⟩:=I.loc;hn.lt
theorem Inv.sz(I:Inv X pins σ H s):X.s₀.heap.objs.size≤s.heap.objs.size:=Nat.le_trans I.ok.above (Nat.le_of_lt I.lt)
theorem Inv.nofs(I:Inv X pins σ H s){a:Addr}(h:s.heap.objs.size≤a):a ∉ X.fs:=fun hb=>by
 obtain⟨_,o,ho,_⟩:=I.ok.funs.mem hb
 exact absurd (Nat.lt_of_lt_of_le (Heap.lt_size ho) (Nat.le_trans I.sz h)) (Nat.lt_irrefl _)
theorem Inv.cne(I:Inv X pins σ H s):∀ x c,X.env.cells.lookup x=some c→c≠X.env.locals:=fun x c e z=>by
 obtain⟨v,o,ho,hd⟩:=I.cell x c e
 obtain⟨m,⟨o',es,ep,ho',hd',_⟩,_⟩:=I.loc
 rw[z,ho']at ho;cases ho;rw[hd']at hd;cases hd
theorem Inv.funs(I:Inv X pins σ H s):s.heap.FunFrames X.base X.outer:=by
 have all:∀(l:List Env),(∀ b∈frs l,b∈X.fs)→X.s₀.heap.FunFrames X.base l→s.heap.FunFrames X.base l:=by
  intro l
  induction l with
  | nil=>intro _ _;trivial
  | cons env r ih =>
   intro hs hl
   obtain⟨hk,⟨L,o,hf,hn,ho,hd⟩,hr⟩:=hl
   have hL:L∈X.fs:=hs L (by unfold frs;rw[List.filterMap_cons,hf];exact List.mem_cons_self)
   obtain⟨sl,e⟩:=I.base.slot L o ho (I.ok.frf L hL) hL fun z=>I.ok.exfs L z hL
   exact⟨hk,⟨L,_,hf,hn,e,hd⟩,ih (fun b hb=>hs b (by unfold frs;rw[List.filterMap_cons,hf];exact List.mem_cons_of_mem _ hb)) hr⟩
 exact all X.outer (fun _ hb=>hb) I.ok.funs
theorem Inv.stack(I:Inv X pins σ H s):s.heap.FunFrames X.base X.stack:=by
 rcases I.ok.stk with e|⟨e,hf⟩
 · rw[e];exact I.funs
 · rw[e]
   obtain⟨m,hn,_⟩:=I.loc
   refine .cons (by rw[I.ok.kind];decide) hf hn ?_ I.funs
   exact Heap.get?_none_of_le (Nat.le_trans I.ok.bsz I.ok.above)
theorem Inv.stkSub(I:Inv X pins σ H s):∀ b∈frs X.stack,b∈X.env.locals::X.fs:=fun b hb=>by
 rcases I.ok.stk with e|⟨e,hf⟩
 · rw[e]at hb;exact List.mem_cons_of_mem _ hb
 · rw[e]at hb
   unfold frs at hb
   rw[List.filterMap_cons,hf]at hb
   exact hb
theorem Inv.stkFree(I:Inv X pins σ H s):∀ b∈frs X.stack,H b=none:=fun b hb=>by
 rcases List.mem_cons.mp (I.stkSub b hb)with e|hb
 · rw[e];exact I.free
 · obtain⟨_,o,ho,_⟩:=I.ok.funs.mem hb
   exact I.base.free b o ho (I.ok.frf b hb) fun z=>I.ok.exfs b z hb
theorem Inv.step{g':Array GenState}{t':Nat}{d':Drawn}{ch:List Addr}(I:Inv X pins σ H s)
   (hch:∀ b∈ch,(b∈X.ex∨X.s₀.heap.objs.size≤b)∧b≠X.env.locals∧(∀ x c,X.env.cells.lookup x=some c→c≠b)∧∀ p∈X.pn++pins,p.1≠b)
   (keep:∀ b o,b≠X.env.locals→b ∉ X.fs→b ∉ ch→s.heap.get? b=some o→H b=none→h'.get? b=some o)
   (slot:∀ b o,b≠X.env.locals→b∈X.fs→b ∉ ch→s.heap.get? b=some o→H b=none→∃ sl,h'.get? b=some { o with slots:=sl }) (free:∀ b o,b ∉ ch→s.heap.get? b=some o→H b=none→H' b=none)
   (there:∀ b o,b ∉ ch→s.heap.get? b=some o→∃ o',h'.get? b=some o')
   (tups:∀ b xs,H b=some (.tup xs)→H' b=some (.tup xs)) (frzs:∀ b o u,H b=some (.frz o u)→H' b=some (.frz o u)) (tbls:∀ b ps,H b=some (.tbl ps)→∃ more,H' b=some (.tbl (ps++more)))
   (ns:∀ m,s.heap.Ns X.env.locals m→h'.Ns X.env.locals m) (hok:HOk X.prog X.w H' h') (hg:AllBare g') :
   Inv X pins σ H' { s with heap:=h',gens:=g',drawn:=d',toks:=t' }:=by
 have neL:∀ b o,X.s₀.heap.get? b=some o→b≠X.env.locals:=fun b o e=>Nat.ne_of_lt (Nat.lt_of_lt_of_le (Heap.lt_size e) I.ok.above)
 have neC:∀ b o,X.s₀.heap.get? b=some o→b ∉ X.ex→b ∉ ch:=fun b o e hx hb=>by
   rcases(hch b hb).1 with z|z
   · exact hx z
   · exact absurd (Nat.lt_of_lt_of_le (Heap.lt_size e) z) (Nat.lt_irrefl _)
 have cellK:∀ x c,X.env.cells.lookup x=some c→∀ v,s.heap.IsCell c v→h'.IsCell c v:=fun x c e v hZ=>hZ.elim fun o hZ=>hZ.elim fun ho hd=>by
   have nch:c ∉ ch:=fun z=>(hch c z).2.2.1 x c e rfl
   by_cases hc:c∈X.fs
   · obtain⟨sl,q⟩:=slot c o (I.cne x c e) hc nch ho (I.freeC x c e)
     exact⟨_,q,hd⟩
   · exact⟨o,keep c o (I.cne x c e) hc nch ho (I.freeC x c e),hd⟩
 refine⟨I.ok,I.os,hg,⟨fun b o e n hb hx=>?_,fun b o e n hb hx=>?_,fun b o e n hx=>?_,fun b o e hx=>?_,fun b xs e=>tups b xs (I.base.tups b xs e),fun b o xs e=>frzs b o xs (I.base.frzs b o xs e),fun b ps e=>?_⟩,?_,fun x c e=>?_,?_,fun x c e=>?_,fun p hp=>?_,hok,I.len⟩
 · exact keep b o (neL b o e) hb (neC b o e hx) (I.base.keep b o e n hb hx) (I.base.free b o e n hx)
 · obtain⟨sl,e1⟩:=I.base.slot b o e n hb hx
   obtain⟨sl',e2⟩:=slot b _ (neL b o e) hb (neC b o e hx) e1 (I.base.free b o e n hx)
   exact⟨sl',e2⟩
 · obtain⟨o',e1⟩:=I.base.there b o e hx
   exact free b o' (neC b o e hx) e1 (I.base.free b o e n hx)
 · obtain⟨o',e1⟩:=I.base.there b o e hx
   exact there b o' (neC b o e hx) e1
 · obtain⟨m1,e1⟩:=I.base.tbls b ps e
   obtain⟨m2,e2⟩:=tbls b _ e1
   exact⟨m1++m2,by rw[e2,Array.append_assoc]⟩
 · obtain⟨m,hn,hl⟩:=I.loc
   refine⟨m,ns m hn,fun i x v e1 e2 e3=>?_⟩
   obtain⟨u,r,l⟩:=hl i x v e1 e2 e3
   refine⟨u,r,?_⟩
   rcases l with l|⟨k,c,e,z⟩
   · exact .inl l
   · exact .inr ⟨k,c,e,cellK x c e _ z⟩
 · obtain⟨v,z⟩:=I.cell x c e
   exact⟨v,cellK x c e v z⟩
 · obtain⟨m,⟨o,_,_,ho,_⟩,_⟩:=I.loc
   exact free _ o (fun z=>(hch _ z).2.1 rfl) ho I.free
 · obtain⟨v,o,ho,hd⟩:=I.cell x c e
   exact free c o (fun z=>(hch c z).2.2.1 x c e rfl) ho (I.freeC x c e)
 · obtain⟨e,n,ne,nf,d⟩:=I.pin p hp
   have nch:p.1 ∉ ch:=fun z=>(hch p.1 z).2.2.2 p hp rfl
   exact⟨keep p.1 p.2 ne nf nch e n,free p.1 p.2 nch e n,ne,nf,d⟩
theorem Inv.un{t':Nat}(I:Inv X pins σ H s)(u:Un X.fs [] H H' s.heap h')(hok:HOk X.prog X.w H' h'):Inv X pins σ H' { s with heap:=h',toks:=t' }:=by
 obtain⟨m,⟨o,es,ep,ho,r⟩,_⟩:=id I.loc
 obtain⟨sl,hL⟩:=u.any ho I.free (by simp)
 exact I.step (g':=s.gens) (d':=s.drawn) (ch:=[]) (fun _ z=>nomatch z) (fun b o _ hb _ e n=>u.keep b o e n hb (by simp)) (fun b o _ hb _ e n=>u.slot b o e n hb (by simp)) (fun b o _ e n=>u.free b o e n (by simp)) (fun b o _ e=>u.there b o e (by simp)) u.tups u.frzs u.tbls (fun m' hm=>by
  obtain⟨o',es',ep',ho',r'⟩:=hm
  rw[ho]at ho';cases ho'
  exact⟨_,es',ep',hL,r'⟩) hok I.bare
theorem Inv.call{g':Array GenState}{t':Nat}{d':Drawn}{ch:List Addr}(I:Inv X pins σ H s)(u:Un (frs X.stack) ch H H' s.heap h')(hok:HOk X.prog X.w H' h')(hg:AllBare g')
  (hch:∀ b∈ch,(b∈X.ex∨X.s₀.heap.objs.size≤b)∧b≠X.env.locals∧(∀ x c,X.env.cells.lookup x=some c→c≠b)∧∀ p∈X.pn++pins,p.1≠b) :
  Inv X pins σ H' { s with heap:=h',gens:=g',drawn:=d',toks:=t' }:=by
 obtain⟨m,⟨o,es,ep,ho,r⟩,_⟩:=id I.loc
 obtain⟨sl,hL⟩:=u.any ho I.free fun z=>(hch _ z).2.1 rfl
 exact I.step (ch:=ch) hch (fun b o hL hb hc e n=>u.keep b o e n (fun z=>(List.mem_cons.mp (I.stkSub b z)).elim hL hb) hc) (fun b o _ _ hc e n=>u.any e n hc) (fun b o hc e n=>u.free b o e n hc) (fun b o hc e=>u.there b o e hc) u.tups u.frzs u.tbls (fun m' hm=>by
  obtain⟨o',es',ep',ho',r'⟩:=hm
  rw[ho]at ho';cases ho'
  exact⟨_,es',ep',hL,r'⟩) hok hg
theorem Inv.turned{t':Nat}{it:Addr}(I:Inv X pins σ H s)(k:∀ b o,b≠it→s.heap.get? b=some o→h'.get? b=some o)(hn:H it=none)(hL:it≠X.env.locals)
   (h1:it∈X.ex∨X.s₀.heap.objs.size≤it) (h2:∀ x c,X.env.cells.lookup x=some c→c≠it) (h3:∀ p∈X.pn++pins,p.1≠it):Inv X pins σ H { s with heap:=h',toks:=t' }:=by
 have nit:∀ b u,H b=some u→b≠it:=fun b u e z=>by rw[z,hn]at e;cases e
 refine I.step (g':=s.gens) (d':=s.drawn) (ch:=[it]) (fun b hb=>?_) (fun b o _ _ hc e _=>k b o (fun z=>hc (by simp[z])) e) (fun b o _ _ hc e _=>⟨o.slots,k b o (fun z=>hc (by simp[z])) e⟩) (fun _ _ _ _ n=>n)
   (fun b o hc e=>⟨o,k b o (fun z=>hc (by simp[z])) e⟩) (fun _ _ e=>e) (fun _ _ _ e=>e) (fun b ps e=>⟨#[],by rw[e];simp⟩) (fun m hm=>?_) (fun b u e=>?_) I.bare
 · have e:b=it:=by simpa using hb
   subst e
   exact⟨h1,hL,h2,h3⟩
 · obtain⟨o,es,ep,ho,r⟩:=hm
   exact⟨o,es,ep,k _ o (Ne.symm hL) ho,r⟩
 · refine(I.hok b u e).stay (fun c v hc q=>k c v ?_ q) (fun _ q=>q) fun _ _ q=>q
   rcases hc with z|z
   · rw[z];exact nit b u e
   · exact nit c _ z
theorem Inv.tok(I:Inv X pins σ H s)(t:Nat):Inv X pins σ H { s with toks:=t }:=I.un (h':=s.heap) (t':=t) Un.refl I.hok
theorem Inv.kept{t':Nat}(I:Inv X pins σ H s)(k:∀ b u,s.heap.get? b=some u→h'.get? b=some u):Inv X pins σ H { s with heap:=h',toks:=t' }:=I.un (Un.kept k) (I.hok.kept k)
theorem Inv.laid{a:Addr}{o:HO}{t':Nat}(I:Inv X pins σ H s)(k:∀ b u,s.heap.get? b=some u→h'.get? b=some u)(hp:s.heap.objs.size≤a)(new:ObjOk X.prog X.w (upd H a o) h' a o):
 Inv X pins σ (upd H a o) { s with heap:=h',toks:=t' }:=I.un (Un.laid k hp (I.hok.fresh hp)) (I.hok.laid k hp new)
theorem Inv.write{x e:Addr}{o:HO}{t':Nat}(I:Inv X pins σ H s)(mu:Mut (H x))(he:e=x∨H e=some (.own x))(k:∀ b u,b≠e→s.heap.get? b=some u→h'.get? b=some u)(heo:∃ u,h'.get? e=some u)
 (new:ObjOk X.prog X.w (upd H x o) h' x o):Inv X pins σ (upd H x o) { s with heap:=h',toks:=t' }:=I.un (Un.write mu he k heo) (I.hok.write mu he k heo new)
theorem Inv.weak{σ':List (Option V)}(I:Inv X pins σ H s)(hl:σ'.length=σ.length)(w:∀(i:Nat) v,σ'[i]?=some (some v)→σ[i]?=some (some v)):Inv X pins σ' H s :=
 ⟨I.ok,I.os,I.bare,I.base,let ⟨m,hn,hl'⟩:=I.loc;⟨m,hn,fun i x v e1 e2 e3=>hl' i x v e1 (w i v e2) e3⟩,I.cell,I.free,I.freeC,I.pin,I.hok,hl.trans I.len⟩
theorem Inv.pins_of{pins':List (Addr×Obj)}(I:Inv X pins σ H s)(h:∀ p∈pins',s.heap.get? p.1=some p.2∧H p.1=none∧p.1≠X.env.locals∧p.1 ∉ X.fs∧∀ v,p.2.data ≠ .cell v):Inv X pins' σ H s :=
 ⟨I.ok,I.os,I.bare,I.base,I.loc,I.cell,I.free,I.freeC,fun p hp=>(List.mem_append.mp hp).elim (fun z=>I.pin p (List.mem_append_left _ z)) (h p),I.hok,I.len⟩
theorem Cm{N:List Str}(hN:N.Nodup){i j:Nat}{x:Str}(a:N[i]?=some x)(b:N[j]?=some x):i=j:=by
 obtain⟨h1,e1⟩:=List.getElem?_eq_some_iff.mp a
 obtain⟨h2,e2⟩:=List.getElem?_eq_some_iff.mp b
 exact(List.getElem_inj hN).mp (e1.trans e2.symm)
theorem GB{M:Model}{A:Around}{E:Value→Shared→Prop}{i:Nat}{x:Str}{v:V}{u:Value}{Q:Unit→Shared→Prop}(I:Inv X pins σ H s)(hN:X.N.Nodup)(hi:X.N[i]?=some x)(hx:Loc X.env.scope x)(r:RelV v u)
   (h:∀ s',Inv X pins (σ.set i (some v)) H s'→(∃ a,Heap.SameBut a s.heap s'.heap∧(a=X.env.locals∨X.env.cells.lookup x=some a))→Q () s') (hf:X.fn x=true∨X.env.scope.names.lookup x=some .local:=by first|exact .inl rfl|exact .inr rfl|assumption):wpAny M A (storeName X.env x u) Q E s:=by
 obtain⟨m,hn,hl⟩:=id I.loc
 have hcls:(X.env.scope.kind == .class||(X.env.scope.kind == .module&&X.env.locals != X.env.globals))=false:=by rw[I.ok.kind];rfl
 have hiσ:i<σ.length:=by rw[I.len];exact(List.getElem?_eq_some_iff.mp hi).1
 have cne:=I.cne
 have tracked:∀{a:Addr} {h':Heap},(∃ o,s.heap.get? a=some o∧H a=none)→Heap.SameBut a s.heap h'→HOk X.prog X.w H h':=fun{a h'} ha hs b ob e=>by
   obtain⟨_,_,hfree⟩:=ha
   refine(I.hok b ob e).stay (fun c w' hc q=>(hs.2 c ?_).trans q) (fun _ q=>q) fun _ _ q=>q
   rintro rfl
   rcases hc with rfl|hc
   · rw[hfree]at e;cases e
   · rw[hfree]at hc;cases hc
 rcases hx with hk|hk
 · refine wpAny_storeName_local hk hn (fun h' hn' hs=>?_) hcls
   obtain⟨oL,_,_,hoL,_⟩:=id hn
   refine h _ ⟨I.ok,I.os,I.bare,⟨fun b o e n hb hx=>?_,fun b o e n hb hx=>?_,I.base.free,fun b o e hx=>?_,I.base.tups,I.base.frzs,I.base.tbls⟩,⟨_,hn',fun j y v' e1 e2 e3=>?_⟩,fun y c e=>?_,I.free,I.freeC,fun p hp=>?_,tracked ⟨oL,hoL,I.free⟩ hs,by simpa using I.len⟩ ⟨_,hs,.inl rfl⟩
   · exact(hs.2 b (Nat.ne_of_lt (Nat.lt_of_lt_of_le (Heap.lt_size e) I.ok.above))).trans (I.base.keep b o e n hb hx)
   · obtain⟨sl,e1⟩:=I.base.slot b o e n hb hx
     exact⟨sl,(hs.2 b (Nat.ne_of_lt (Nat.lt_of_lt_of_le (Heap.lt_size e) I.ok.above))).trans e1⟩
   · obtain⟨o',e1⟩:=I.base.there b o e hx
     exact⟨o',(hs.2 b (Nat.ne_of_lt (Nat.lt_of_lt_of_le (Heap.lt_size e) I.ok.above))).trans e1⟩
   · by_cases hj:j=i
     · subst hj
       rw[hi]at e1;cases e1
       rw[List.getElem?_set_self hiσ]at e2
       cases e2
       exact⟨u,r,.inl ⟨hk,by simp⟩⟩
     · rw[List.getElem?_set_ne (Ne.symm hj)]at e2
       obtain⟨u',r',q⟩:=hl j y v' e1 e2 e3
       refine⟨u',r',?_⟩
       rcases q with⟨k,e⟩|⟨k,c,e,z⟩
       · refine .inl ⟨k,?_⟩
         have:y≠x:=fun e=>hj (Cm hN e1 (e ▸ hi))
         simp[this,e]
       · exact .inr ⟨k,c,e,z.sameBut hs (cne y c e)⟩
   · obtain⟨w',z⟩:=I.cell y c e
     exact⟨w',z.sameBut hs (cne y c e)⟩
   · obtain⟨e,n,ne,nf,d⟩:=I.pin p hp
     exact⟨(hs.2 p.1 ne).trans e,n,ne,nf,d⟩
 · have hfn:X.fn x=true:=by
     rcases hf with z|z
     · exact z
     · rw[z]at hk;cases hk
   obtain⟨c,hc⟩:=I.ok.has x (.inl hk)
   obtain⟨w',z⟩:=I.cell x c hc
   refine wpAny_storeName_cell I.ok.kind hk hc z (fun h' hc' hs=>?_)
   obtain⟨oc,hoc,hocd⟩:=id z
   refine h { s with heap:=h' } ⟨I.ok,I.os,I.bare,⟨fun b o e n hb hx=>?_,fun b o e n hb hx=>?_,I.base.free,fun b o e hx=>?_,I.base.tups,I.base.frzs,I.base.tbls⟩,⟨m,hn.sameBut hs (Ne.symm (cne x c hc)),fun j y v' e1 e2 e3=>?_⟩,fun y c' e=>?_,I.free,I.freeC,fun p hp=>?_,tracked ⟨oc,hoc,I.freeC x c hc⟩ hs,by simpa using I.len⟩ ⟨c,hs,.inr hc⟩
   · exact(hs.2 b (Nat.ne_of_lt (Nat.lt_of_lt_of_le (Heap.lt_size e) (I.ok.cab x c hfn hc)))).trans (I.base.keep b o e n hb hx)
   · obtain⟨sl,e1⟩:=I.base.slot b o e n hb hx
     exact⟨sl,(hs.2 b (Nat.ne_of_lt (Nat.lt_of_lt_of_le (Heap.lt_size e) (I.ok.cab x c hfn hc)))).trans e1⟩
   · obtain⟨o',e1⟩:=I.base.there b o e hx
     exact⟨o',(hs.2 b (Nat.ne_of_lt (Nat.lt_of_lt_of_le (Heap.lt_size e) (I.ok.cab x c hfn hc)))).trans e1⟩
   · by_cases hj:j=i
     · subst hj
       rw[hi]at e1;cases e1
       rw[List.getElem?_set_self hiσ]at e2
       cases e2
       exact⟨u,r,.inr ⟨.inl hk,c,hc,hc'⟩⟩
     · rw[List.getElem?_set_ne (Ne.symm hj)]at e2
       obtain⟨u',r',q⟩:=hl j y v' e1 e2 e3
       refine⟨u',r',?_⟩
       rcases q with q|⟨k,c',e,z'⟩
       · exact .inl q
       · refine .inr ⟨k,c',e,z'.sameBut hs ?_⟩
         rintro rfl
         exact hj (Cm hN e1 (I.ok.inj _ _ _ e hc ▸ hi))
   · by_cases hcc:c'=c
     · subst hcc;exact⟨_,hc'⟩
     · obtain⟨w2,z2⟩:=I.cell y c' e
       exact⟨w2,z2.sameBut hs hcc⟩
   · obtain⟨e,n,ne,nf,d⟩:=I.pin p hp
     refine⟨(hs.2 p.1 ?_).trans e,n,ne,nf,d⟩
     intro q
     rw[q,hoc]at e
     have q':oc=p.2:=Option.some.inj e
     exact d w' (by rw[←q'];exact hocd)
theorem Cn{M:Model}{A:Around}{E:Value→Shared→Prop}{i:Nat}{x:Str}{v:V}{u:Value}{Q:Unit→Shared→Prop}(I:Inv X pins σ H s)(hN:X.N.Nodup)(hi:X.N[i]?=some x)(hx:Loc X.env.scope x)(r:RelV v u)
  (h:∀ s',Inv X pins (σ.set i (some v)) H s'→Q () s') (hf:X.fn x=true∨X.env.scope.names.lookup x=some .local:=by first|exact .inl rfl|exact .inr rfl|assumption):wpAny M A (storeName X.env x u) Q E s :=
 GB I hN hi hx r (fun s' I' _=>h s' I') hf
theorem Inv.call'{s':Shared}{ch:List Addr}(I:Inv X pins σ H s)(ho:s'.os=s.os)(u:Un (frs X.stack) ch H H' s.heap s'.heap)(hok:HOk X.prog X.w H' s'.heap)(hg:AllBare s'.gens)
  (hch:∀ b∈ch,(b∈X.ex∨X.s₀.heap.objs.size≤b)∧b≠X.env.locals∧(∀ x c,X.env.cells.lookup x=some c→c≠b)∧∀ p∈X.pn++pins,p.1≠b):Inv X pins σ H' s':=by
 obtain⟨h',g',d',t',o'⟩:=s'
 have e:o'=s.os:=ho
 subst e
 exact I.call (g':=g') (t':=t') (d':=d') u hok hg hch
end
abbrev XK:=Value→Option Addr→Hp→Prop
abbrev St:=List (Option V)
abbrev VK:=V→Hp→Prop
abbrev TE:=St→Hp→VK→Prop
abbrev TT:=St→Hp→(Bool→Hp→Prop)→Prop
abbrev TA:=St→Hp→(List V→Hp→Prop)→Prop
structure Ends where
 nx:St→Hp→Prop
 rt:VK
 bk:St→Hp→Prop:=fun _ _=>False
 ct:St→Hp→Prop:=fun _ _=>False
abbrev TS:=Ends→St→Hp→Prop
def EP(X:Cx)(pins:List (Addr×Obj))(σ:St)(Q:VK)(u:Value)(s':Shared):Prop:=∃ v H',Inv X pins σ H' s'∧RelV v u∧Q v H'
def TP(X:Cx)(pins:List (Addr×Obj))(σ:St)(Q:Bool→Hp→Prop)(b:Bool)(s':Shared):Prop:=∃ H',Inv X pins σ H' s'∧Q b H'
def AP(X:Cx)(pins:List (Addr×Obj))(σ:St)(Q:List V→Hp→Prop)(us:List Value)(s':Shared):Prop:=∃ vs H',Inv X pins σ H' s'∧Vals vs us∧Q vs H'
def SP(X:Cx)(pins:List (Addr×Obj))(D:Ends)(f:Flow)(s':Shared):Prop :=
 match f with
 | .next=>∃ σ' H',Inv X pins σ' H' s'∧D.nx σ' H'
 | .brk=>∃ σ' H',Inv X pins σ' H' s'∧D.bk σ' H'
 | .cont=>∃ σ' H',Inv X pins σ' H' s'∧D.ct σ' H'
 | .ret u=>∃ v σ' H',Inv X pins σ' H' s'∧RelV v u∧D.rt v H'
def PE(X:Cx)(e:Expr)(t:TE):Prop :=
 ∀(pins:List (Addr×Obj)) (s:Shared) (σ:St) (H:Hp) (Q:VK),Inv X pins σ H s→t σ H Q→wpAny (model X.prog X.w) X.A (eval e X.env) (EP X pins σ Q) X.xe s
def PT(X:Cx)(e:Expr)(t:TT):Prop :=
 ∀(pins:List (Addr×Obj)) (s:Shared) (σ:St) (H:Hp) (Q:Bool→Hp→Prop),Inv X pins σ H s→t σ H Q→wpAny (model X.prog X.w) X.A (isTrue e X.env (eval e X.env)) (TP X pins σ Q) X.xe s
def PW(X:Cx)(e:Expr)(t:TT):Prop :=
 ∀(whole:Sem Value) (pins:List (Addr×Obj)) (s:Shared) (σ:St) (H:Hp) (Q:Bool→Hp→Prop),Inv X pins σ H s→t σ H Q→wpAny (model X.prog X.w) X.A (isTrue e X.env whole) (TP X pins σ Q) X.xe s
theorem PW.pt{X:Cx}{e:Expr}{t:TT}(h:PW X e t):PT X e t:=h _
def PA(X:Cx)(es:List Expr)(t:TA):Prop :=
 ∀(pos:Pos) (pins:List (Addr×Obj)) (s:Shared) (σ:St) (H:Hp) (Q:List V→Hp→Prop),Inv X pins σ H s→t σ H Q→wpAny (model X.prog X.w) X.A (spliced (backTo pos (starEach es X.env))) (AP X pins σ Q) X.xe s
def PS(X:Cx)(st:Stmt)(t:TS):Prop :=
 ∀(pins:List (Addr×Obj)) (s:Shared) (σ:St) (H:Hp) (D:Ends),Inv X pins σ H s→t D σ H→wpAny (model X.prog X.w) X.A (exec st X.env) (SP X pins D) X.xe s
def PSs(X:Cx)(st:List Stmt)(t:TS):Prop :=
 ∀(pins:List (Addr×Obj)) (s:Shared) (σ:St) (H:Hp) (D:Ends),Inv X pins σ H s→t D σ H→wpAny (model X.prog X.w) X.A (execs st X.env) (SP X pins D) X.xe s
theorem thn{α:Type}{t:Sem α}{Q Q':α→Shared→Prop}{M:Model}{A:Around}{E:Value→Shared→Prop}{s:Shared}(h:wpAny M A t Q E s)(hQ:∀ a s,Q a s→Q' a s):wpAny M A t Q' E s:=wpAny_mono h hQ fun _ _ x=>x
end L2
namespace L2
open PySem PySem.Spec PyProof.Rows
section
variable {X:Cx}
def tVar(i:Nat):TE:=fun σ H Q=>∃ v,σ[i]?=some (some v)∧Q v H
def tC(v:V):TE:=fun _ H Q=>Q v H
theorem m3{i:Nat}{x:Str}{pos:Pos}(hN:X.N[i]?=some x)(hv:Vis X.env.scope x)(hd:(x==("__debug__" : Str))=false:=by decide)(hcd:(x==("__classdict__" : Str))=false:=by decide):PE X (.Name x pos) (tVar i):=by
 intro pins s σ H Q I h
 obtain⟨v,e,h⟩:=h
 obtain⟨m,hn,hl⟩:=I.loc
 obtain⟨u,r,l⟩:=hl i x v hN e hv
 have fin:EP X pins σ Q u s:=⟨v,H,I,r,h⟩
 rcases l with⟨hk,hm⟩|⟨hk,c,hc,hcell⟩
 · exact wpAny_Name (wpAny_loadName_local I.ok.kind hk hn hm fin) hd
 · rcases hk with hk|hk
   · exact wpAny_Name (wpAny_loadName_cell I.ok.kind hk hc hcell fin) hd
   · exact wpAny_Name (wpAny_loadName_free I.ok.kind hk hc hcell fin hcd) hd
theorem Bq{i j pos}:PE X (.Constant (.int i) j pos) (tC (.int i)):=fun _ _ _ H _ I h=>wpAny_Constant_int ⟨.int i,H,I.tok _,⟨_,rfl⟩,h⟩
theorem AJ{b j pos}:PE X (.Constant (.bool b) j pos) (tC (.bl b)):=fun _ _ _ H _ I h=>Constant_bool ⟨.bl b,H,I,rfl,h⟩
theorem O8{j pos}:PE X (.Constant .none j pos) (tC .non):=fun _ _ _ H _ I h=>Constant_none ⟨.non,H,I,rfl,h⟩
theorem O9{x j pos}:PE X (.Constant (.str x) j pos) (tC (.str x)):=fun _ _ _ H _ I h=>Calls.Constant_str ⟨.str x,H,I.tok _,⟨_,rfl⟩,h⟩
def Gl(X:Cx)(x:Str):Prop:=X.env.kindOf x=some .globalImplicit
theorem M0{E:Value→Shared→Prop}{pins:List (Addr×Obj)}{s:Shared}{σ:St}{H:Hp}{x:Str}{u:Value}{pos:Pos}{Q:Value→Shared→Prop}(I:Inv X pins σ H s)(hg:Gl X x)(hm:X.mg x=some u)(h:Q u s)
  (hd:(x==("__debug__" : Str))=false:=by decide):wpAny (model X.prog X.w) X.A (eval (.Name x pos) X.env) Q E s :=
 Calls.Name_function_global I.ok.kind hg (Calls.loadGlobal_global (by rw[I.ok.glob];exact I.mod.glob.keeps I.bk) hm h) hd
theorem Bs{E:Value→Shared→Prop}{pins:List (Addr×Obj)}{s:Shared}{σ:St}{H:Hp}{x:Str}{u:Value}{pos:Pos}{Q:Value→Shared→Prop}(I:Inv X pins σ H s)(hg:Gl X x)(hm:X.mg x=none)(hv:bootBuiltins x=some u)(h:Q u s)
  (hn:x ≠ "__name__" := by decide) (hd:(x==("__debug__" : Str))=false:=by decide):wpAny (model X.prog X.w) X.A (eval (.Name x pos) X.env) Q E s:=by
 obtain⟨mb,h1,h2⟩:=I.mod.blt
 exact Calls.Name_function_global I.ok.kind hg (Calls.loadGlobal_builtin (by rw[I.ok.glob];exact I.mod.glob.keeps I.bk) hm (by rw[I.ok.blt];exact h1.keeps I.bk) ((h2 x hn).trans hv) h) hd
theorem Ks{x:Str}{v:V}{u:Value}{pos:Pos}(hg:Gl X x)(hm:X.mg x=some u)(r:RelV v u)(hd:(x==("__debug__" : Str))=false:=by decide):PE X (.Name x pos) (tC v) :=
 fun _ _ _ H _ I h=>M0 I hg hm ⟨v,H,I,r,h⟩ hd
theorem Kt{x:Str}{v:V}{u:Value}{pos:Pos}(hg:Gl X x)(hm:X.mg x=none)(hv:bootBuiltins x=some u)(r:RelV v u)(hn:x ≠ "__name__" := by decide)(hd:(x==("__debug__" : Str))=false:=by decide):PE X (.Name x pos) (tC v) :=
 fun _ _ _ H _ I h=>Bs I hg hm hv ⟨v,H,I,r,h⟩ hn hd
variable {a b:Expr}{ta tb:TE}{pos:Pos}
variable {tA tB':TT}{rest:List Expr}
def tOr(t u:TT):TT:=fun σ H Q=>t σ H fun c H1=>if c=true then Q true H1 else u σ H1 Q
def tNot(t:TT):TT:=fun σ H Q=>t σ H fun c H1=>Q (!c) H1
theorem pw_or1(ha:PT X a tA):PW X (.BoolOp .Or [a] pos) tA:=by
 intro wh pins s σ H Q I h
 refine isTrue_or (thn (ha pins s σ H Q I h) fun c s1 e=>?_)
 cases c with
 | false=>exact isTrue_or_nil e
 | true=>exact e
theorem pw_or(ha:PT X a tA)(hb:PW X (.BoolOp .Or (b::rest) pos) tB'):PW X (.BoolOp .Or (a::b::rest) pos) (tOr tA tB'):=by
 intro wh pins s σ H Q I h
 refine isTrue_or (thn (ha pins s σ H _ I h) ?_)
 rintro c s1 ⟨H1,I1,q1⟩
 cases c with
 | true=>exact⟨H1,I1,q1⟩
 | false=>exact hb wh pins s1 σ H1 Q I1 q1
theorem pt_not(ha:PT X a tA):PT X (.UnaryOp .Not a pos) (tNot tA):=by
 intro pins s σ H Q I h
 exact isTrue_not (ha pins s σ H (fun c H1=>Q (!c) H1) I h)
def tAndV(ta tb:TE):TE:=fun σ H Q=>ta σ H fun x H1=>∃ c,x = .bl c∧if c=true then tb σ H1 Q else Q (.bl false) H1
def tNotV(ta:TE):TE:=fun σ H Q=>ta σ H fun x H1=>∃ c,x = .bl c∧Q (.bl (!c)) H1
theorem pe_one{op}{t:TE}(h:PE X a t):PE X (.BoolOp op [a] pos) t:=fun pins s σ H Q I hw=>BoolOp_one (h pins s σ H Q I hw)
theorem pe_and(ha:PE X a ta)(hb:PE X (.BoolOp .And (b::rest) pos) tb):PE X (.BoolOp .And (a::b::rest) pos) (tAndV ta tb):=by
 intro pins s σ H Q I h
 refine BoolOp_and (thn (ha pins s σ H _ I h) ?_)
 rintro v s1 ⟨x,H1,I1,r1,q1⟩
 obtain⟨c,rfl,q1⟩:=q1
 cases r1
 refine wpAny_truthy_bool ?_
 cases c with
 | true=>exact hb pins s1 σ H1 Q I1 q1
 | false=>exact⟨.bl false,H1,I1,rfl,q1⟩
theorem pe_not(ha:PE X a ta):PE X (.UnaryOp .Not a pos) (tNotV ta):=by
 intro pins s σ H Q I h
 refine UnaryOp_ (thn (ha pins s σ H _ I h) ?_)
 rintro v s1 ⟨x,H1,I1,r1,q1⟩
 obtain⟨c,rfl,q1⟩:=q1
 cases r1
 exact not_of (wpAny_truthy_bool ⟨.bl (!c),H1,I1,rfl,q1⟩)
end
end L2
namespace L2
open PySem PySem.Spec PyProof.Rows
def SqL(K:PySem.W.Frag)(H:Hp)(a:Addr)(xs:List V):Prop :=
 Rd H a (.lst xs) ∨
  ∃(o:Obj) (its:Array Value) (n:Nat),K.lookup a=some o∧o.cls = .type "list" ∧ o.dict=none∧o.data = .seq its n∧its.size≤sizeLine∧Vals xs its.toList
def SqT(K:PySem.W.Frag)(H:Hp)(a:Addr)(xs:List V):Prop :=
 Rd H a (.tup xs) ∨
  ∃(o:Obj) (its:Array Value) (n:Nat),K.lookup a=some o∧o.cls = .type "tuple" ∧ o.data = .seq its n∧its.size≤sizeLine∧Vals xs its.toList
def absV:Value→Option V
 | .none=>some .non
 | .bool b=>some (.bl b)
 | .int i _=>some (.int i)
 | .str x _=>some (.str x)
 | .bytes b _=>some (.byt b)
 | .float b _=>some (.flt b)
 | .ref a=>some (.ref a)
 | .type n=>some (.ty n)
 | _=>none
theorem RelV.abs{x:V}{u:Value}(r:RelV x u):absV u=some x:=by
 cases x with
 | non=>cases r;rfl
 | bl _=>cases r;rfl
 | int _=>obtain⟨t,rfl⟩:=r;rfl
 | str _=>obtain⟨t,rfl⟩:=r;rfl
 | byt _=>obtain⟨t,rfl⟩:=r;rfl
 | flt _=>obtain⟨t,rfl⟩:=r;rfl
 | ref _=>cases r;rfl
 | ty _=>cases r;rfl
theorem RelV.inj{x y:V}{u:Value}(r:RelV x u)(q:RelV y u):x=y:=Option.some.inj (r.abs.symm.trans q.abs)
theorem Vals.inj:∀{xs ys:List V} {us:List Value},Vals xs us→Vals ys us→xs=ys
 | _,_,_,.nil,.nil=>rfl
 | _,_,_,.cons r t,.cons r' t'=>by rw[r.inj r',Vals.inj t t']
section
variable {X:Cx}{pins:List (Addr×Obj)}{σ:St}{H:Hp}{s:Shared}{a:Addr}{xs ys:List V}
theorem SqL.of{K:PySem.W.Frag}(h:H a=some (.lst xs)):SqL K H a xs := .inl (.inl h)
theorem SqT.of{K:PySem.W.Frag}(h:H a=some (.tup xs)):SqT K H a xs := .inl (.inl h)
theorem Inv.list(I:Inv X pins σ H s)(h:SqL X.K H a xs):∃ its:List Value,Vals xs its∧PlainL s.heap a its.toArray∧xs.length≤sizeLine:=by
 rcases h with h|⟨o,its,n,hk,hc,hd,hs,hz,r⟩
 · obtain⟨z,its,n,r,e⟩:=h.ok I.hok
   exact⟨its,r,⟨_,n,e,rfl,rfl,rfl⟩,z⟩
 · refine⟨its.toList,r,⟨o,n,I.kIn a o hk,hc,hd,by simpa using hs⟩,?_⟩
   have e:=r.length
   simp only[Array.length_toList]at e
   omega
theorem Inv.tuple(I:Inv X pins σ H s)(h:SqT X.K H a xs):∃ its:List Value,Vals xs its∧IsTup s.heap a its.toArray∧xs.length≤sizeLine:=by
 rcases h with h|⟨o,its,n,hk,hc,hs,hz,r⟩
 · obtain⟨z,its,r,p⟩:=h.ok I.hok
   exact⟨its,r,p,z⟩
 · refine⟨its.toList,r,⟨o,I.kIn a o hk,hc,n,by simpa using hs⟩,?_⟩
   have e:=r.length
   simp only[Array.length_toList]at e
   omega
theorem Inv.list_inj(I:Inv X pins σ H s)(h:SqL X.K H a xs)(h':SqL X.K H a ys):xs=ys:=by
 obtain⟨its,r,⟨o,n,e,_,_,d⟩,_⟩:=I.list h
 obtain⟨its',r',⟨o',n',e',_,_,d'⟩,_⟩:=I.list h'
 rw[e]at e';cases e'
 rw[d]at d'
 injection d' with d1 _
 have:its=its':=by simpa using congrArg Array.toList d1
 subst this
 exact r.inj r'
theorem Inv.tuple_inj(I:Inv X pins σ H s)(h:SqT X.K H a xs)(h':SqT X.K H a ys):xs=ys:=by
 obtain⟨its,r,⟨o,e,_,n,d⟩,_⟩:=I.tuple h
 obtain⟨its',r',⟨o',e',_,n',d'⟩,_⟩:=I.tuple h'
 rw[e]at e';cases e'
 rw[d]at d'
 injection d' with d1 _
 have:its=its':=by simpa using congrArg Array.toList d1
 subst this
 exact r.inj r'
end
abbrev Cx.wish(X:Cx)(E:Value→Shared→Prop):Cx:={ X with xe:=E }
abbrev Cx.nox(X:Cx):Cx:=X.wish fun _ _=>False
theorem Cx.Ok.wish{X:Cx}(ok:X.Ok)(E:Value→Shared→Prop):(X.wish E).Ok :=
 ⟨ok.mod,ok.kind,ok.glob,ok.blt,ok.above,ok.inj,ok.has,ok.cab,ok.hd,ok.frames,ok.stk,ok.exf,ok.bs,ok.bsz,ok.noex,ok.exfs,ok.funs,ok.frf⟩
theorem Cx.Ok.unwish{X:Cx}{E:Value→Shared→Prop}(ok:(X.wish E).Ok):X.Ok :=
 ⟨ok.mod,ok.kind,ok.glob,ok.blt,ok.above,ok.inj,ok.has,ok.cab,ok.hd,ok.frames,ok.stk,ok.exf,ok.bs,ok.bsz,ok.noex,ok.exfs,ok.funs,ok.frf⟩
section
variable {X:Cx}{pins:List (Addr×Obj)}{σ:St}{H:Hp}{s:Shared}{E:Value→Shared→Prop}
theorem Inv.wish(I:Inv X pins σ H s)(E:Value→Shared→Prop):Inv (X.wish E) pins σ H s:=⟨I.ok.wish E,I.os,I.bare,I.base,I.loc,I.cell,I.free,I.freeC,I.pin,I.hok,I.len⟩
theorem Inv.unwish(I:Inv (X.wish E) pins σ H s):Inv X pins σ H s:=⟨I.ok.unwish,I.os,I.bare,I.base,I.loc,I.cell,I.free,I.freeC,I.pin,I.hok,I.len⟩
theorem SP.unwish{D:Ends}{f:Flow}{s':Shared}(h:SP (X.wish E) pins D f s'):SP X pins D f s':=by
 cases f with
 | next=>obtain⟨σ',H',I,q⟩:=h;exact⟨σ',H',I.unwish,q⟩
 | brk=>obtain⟨σ',H',I,q⟩:=h;exact⟨σ',H',I.unwish,q⟩
 | cont=>obtain⟨σ',H',I,q⟩:=h;exact⟨σ',H',I.unwish,q⟩
 | ret u=>obtain⟨v,σ',H',I,r,q⟩:=h;exact⟨v,σ',H',I.unwish,r,q⟩
theorem PE.nox{e:Expr}{t:TE}(h:PE X.nox e t):PE X e t:=fun pins s σ H Q I hw =>
 wpAny_mono (h pins s σ H Q (I.wish _) hw) (fun _ _ hZ=>hZ.elim fun v hZ=>hZ.elim fun H' hZ=>hZ.elim fun I' hZ=>hZ.elim fun r q=>⟨v,H',I'.unwish,r,q⟩) fun _ _ z=>False.elim z
theorem PT.nox{e:Expr}{t:TT}(h:PT X.nox e t):PT X e t:=fun pins s σ H Q I hw =>
 wpAny_mono (h pins s σ H Q (I.wish _) hw) (fun _ _ hZ=>hZ.elim fun H' hZ=>hZ.elim fun I' q=>⟨H',I'.unwish,q⟩) fun _ _ z=>False.elim z
theorem PSs.nox{st:List Stmt}{t:TS}(h:PSs X.nox st t):PSs X st t:=fun pins s σ H D I hw =>
 wpAny_mono (h pins s σ H D (I.wish _) hw) (fun _ _ q=>q.unwish) fun _ _ z=>False.elim z
end
section
variable {X:Cx}{st:Stmt}{rest:List Stmt}{t u:TS}{e:Expr}{te:TE}{pos:Pos}
def t7:TS:=fun D σ H=>D.nx σ H
def tSeq(t u:TS):TS:=fun D σ H=>t { D with nx:=u D } σ H
theorem o9:PSs X [] t7:=fun _ _ σ H _ I h=>wpAny_execs_nil ⟨σ,H,I,h⟩
theorem j4(h1:PS X st t)(h2:PSs X rest u):PSs X (st::rest) (tSeq t u):=by
 intro pins s σ H D I h
 refine wpAny_execs_cons (thn (h1 pins s σ H { D with nx:=u D } I h) fun f s1 q=>?_)
 cases f with
 | next =>
  obtain⟨σ',H',I',q⟩:=q
  exact h2 pins s1 σ' H' D I' q
 | ret v=>exact q
 | brk=>exact q
 | cont=>exact q
theorem j8(h1:PS X st t):PSs X [st] t:=by
 intro pins s σ H D I h
 refine wpAny_execs_cons (thn (h1 pins s σ H D I h) fun f s1 q=>?_)
 cases f with
 | next=>exact wpAny_execs_nil q
 | ret v=>exact q
 | brk=>exact q
 | cont=>exact q
theorem Inv.quiet{pins:List (Addr×Obj)}{σ:St}{H:Hp}{s:Shared}(I:Inv X pins σ H s):interactive X.env=false:=by simp[interactive,I.ok.kind]
def N7(te:TE):TS:=fun D σ H=>te σ H fun _ H1=>D.nx σ H1
theorem u8(he:PE X e te)(hs:swapsWith e none pos.line X.env=pure false:=by rfl):PS X (.Expr e pos) (N7 te):=by
 intro pins s σ H D I h
 exact wpAny_Expr_any (thn (he pins s σ H _ I h) fun v s1 hZ=>hZ.elim fun x hZ=>hZ.elim fun H1 hZ=>hZ.elim fun I1 hZ=>hZ.elim fun r1 q1=>⟨σ,H1,I1,q1⟩) I.quiet hs
def tRet(te:TE):TS:=fun D σ H=>te σ H D.rt
theorem r0(he:PE X e te):PS X (.Return (some e) pos) (tRet te):=by
 intro pins s σ H D I h
 exact wpAny_Return_some (thn (he pins s σ H _ I h) fun v s1 hZ=>hZ.elim fun x hZ=>hZ.elim fun H1 hZ=>hZ.elim fun I1 hZ=>hZ.elim fun r1 q1=>⟨x,σ,H1,I1,r1,q1⟩)
def tIfS(c:TT)(t u:TS):TS:=fun D σ H=>c σ H fun b H1=>if b=true then t D σ H1 else u D σ H1
theorem A4{c:Expr}{a b:List Stmt}{tc:TT}(hc:PT X c tc)(ha:PSs X a t)(hb:PSs X b u):PS X (.If c a b pos) (tIfS tc t u):=by
 intro pins s σ H D I h
 refine wpAny_If (thn (hc pins s σ H _ I h) ?_)
 rintro d s1 ⟨H1,I1,q1⟩
 cases d with
 | true=>exact ha pins s1 σ H1 D I1 q1
 | false=>exact hb pins s1 σ H1 D I1 q1
end
abbrev TG:=V→St→Hp→(St→Hp→Prop)→Prop
abbrev TGs:=List V→St→Hp→(St→Hp→Prop)→Prop
def PG(X:Cx)(target:Expr)(t:TG):Prop :=
 ∀(pins:List (Addr×Obj)) (s:Shared) (σ:St) (H:Hp) (v:V) (u:Value) (Q:St→Hp→Prop),Inv X pins σ H s→RelV v u→t v σ H Q →
  wpAny (model X.prog X.w) X.A (assign target X.env u) (fun _ s'=>∃ σ' H',Inv X pins σ' H' s'∧Q σ' H') X.xe s
section
variable {X:Cx}{pos:Pos}
def D8(i:Nat):TG:=fun v σ H Q=>Q (σ.set i (some v)) H
theorem Fw{i:Nat}{x:Str}(hN:X.N.Nodup)(hi:X.N[i]?=some x)(hx:Loc X.env.scope x)(hf:X.fn x=true∨X.env.scope.names.lookup x=some .local:=by first|exact .inl rfl|exact .inr rfl|assumption):PG X (.Name x pos) (D8 i):=by
 intro pins s σ H v u Q I r h
 exact wpAny_assign_Name (Cn I hN hi hx r (fun s' I'=>⟨_,H,I',h⟩) hf)
def gNil:TGs:=fun vs σ H Q=>vs=[]∧Q σ H
def gCons(t:TG)(u:TGs):TGs:=fun vs σ H Q=>∃ v r,vs=v::r∧t v σ H fun σ' H'=>u r σ' H' Q
def gTup(K:PySem.W.Frag)(n:Nat)(t:TGs):TG:=fun v σ H Q=>∃ a xs,v = .ref a∧SqT K H a xs∧xs.length=n∧t xs σ H Q
def tAsg(te:TE)(g:TG):TS:=fun D σ H=>te σ H fun x H1=>g x σ H1 D.nx
theorem J7{i:Nat}{x:Str}{e:Expr}{te:TE}{pos':Pos}(hN:X.N.Nodup)(hi:X.N[i]?=some x)(hx:Loc X.env.scope x)(he:PE X e te)(hs:swapsWith e (some (.Name x pos')) pos.line X.env=pure false:=by rfl)(hf:X.fn x=true∨X.env.scope.names.lookup x=some .local:=by first|exact .inl rfl|exact .inr rfl|assumption):
  PS X (.Assign [.Name x pos'] e pos) (tAsg te (D8 i)):=by
 intro pins s σ H D I h
 refine wpAny_Assign_Name (thn (he pins s σ H _ I h) fun v s1 hZ=>hZ.elim fun y hZ=>hZ.elim fun H1 hZ=>hZ.elim fun I1 hZ=>hZ.elim fun r1 q1=>?_) hs
 exact Cn I1 hN hi hx r1 (fun s2 I2=>⟨_,H1,I2,q1⟩) hf
end
section
variable {X:Cx}{pos:Pos}
end
structure It where
 go:Nat→Hp→Prop
 yld:Nat→Hp→V→Hp→Prop
 stop:Nat→Hp→Prop
def FpOk(X:Cx)(pins:List (Addr×Obj))(H:Hp)(b:Addr):Prop :=
 H b=none∧b≠X.env.locals∧b ∉ X.fs∧(b∈X.ex∨X.s₀.heap.objs.size≤b)∧(∀ x c,X.env.cells.lookup x=some c→c≠b)∧∀ p∈X.pn++pins,p.1≠b
theorem Inv.fpOk{X:Cx}{pins:List (Addr×Obj)}{σ:St}{H H':Hp}{s:Shared}{b:Addr}(I:Inv X pins σ H s)(hb:s.heap.objs.size≤b)(hn:H' b=none):FpOk X pins H' b:=by
 refine⟨hn,Nat.ne_of_gt (Nat.lt_of_lt_of_le I.lt hb),I.nofs hb,.inr (Nat.le_trans I.sz hb),fun x c e z=>?_,fun p hp z=>?_⟩
 · obtain⟨v,q⟩:=I.cell x c e
   exact absurd (Nat.lt_of_lt_of_le q.lt (by rw[z];exact hb)) (Nat.lt_irrefl _)
 · exact absurd (Nat.lt_of_lt_of_le (Heap.lt_size (I.pin p hp).1) (by rw[z];exact hb)) (Nat.lt_irrefl _)
structure Turn(P:Program)(w:World)(K:PySem.W.Frag)(tg:Expr)(J:It)(fp:List Addr)(it:Addr)(tn:Nat→Heap→Prop):Prop where
 mem:it∈fp
 obj:∀ i h,tn i h→∀ b∈fp,∃ o,h.get? b=some o∧∀ v,o.data ≠ .cell v
 keep:∀ i h h',tn i h→(∀ b∈fp,∀ o,h.get? b=some o→h'.get? b=some o)→tn i h'
 item:∀(X:Cx),X.prog=P→X.w=w→X.K=K→X.calm=true→∀(i:Nat) (pins:List (Addr×Obj)) (s:Shared) (σ:St) (H:Hp) (E:Value→Shared→Prop),Inv X pins σ H s→(∀ b∈fp,FpOk X pins H b)→tn i s.heap→J.go i H →
  wpAny (model P w) X.A (pyNext (.ref it)) (fun r s1=>∃ u,r=some u ∧
   wpAny (model P w) X.A (letOwnedTupleGo tg (.ref it) u) (fun _ s2=>∃ x H',Inv X pins σ H' s2∧RelV x u∧J.yld i H x H'∧tn (i+1) s2.heap∧∀ b∈fp,H' b=none) E s1) E s
 done:∀(X:Cx),X.prog=P→X.w=w→X.K=K→X.calm=true→∀(i:Nat) (pins:List (Addr×Obj)) (s:Shared) (σ:St) (H:Hp) (E:Value→Shared→Prop),Inv X pins σ H s→(∀ b∈fp,FpOk X pins H b)→tn i s.heap→J.stop i H →
  wpAny (model P w) X.A (pyNext (.ref it)) (fun r s1=>r=none∧Inv X pins σ H s1) E s
 self:∀(A:Around) (i:Nat) (s:Shared) (Q:Value→Shared→Prop) (E:Value→Shared→Prop),tn i s.heap→Q (.ref it) s→wpAny (model P w) A (pyIter (.ref it)) Q E s
abbrev TI:=St→Hp→(It→Hp→Prop)→Prop
def PIE(X:Cx)(pins:List (Addr×Obj))(σ:St)(tg:Expr)(R:It→Hp→Prop)(itv:Value)(s2:Shared):Prop :=
 ∃(it:Addr) (fp:List Addr) (tn:Nat→Heap→Prop) (J:It) (H':Hp),itv = .ref it∧Inv X pins σ H' s2∧Turn X.prog X.w X.K tg J fp it tn∧tn 0 s2.heap∧(∀ b∈fp,FpOk X pins H' b)∧R J H'
def PI(X:Cx)(tg iter:Expr)(wi:TI):Prop :=
 ∀(pins:List (Addr×Obj)) (s:Shared) (σ:St) (H:Hp) (R:It→Hp→Prop),Inv X pins σ H s→wi σ H R →
  wpAny (model X.prog X.w) X.A (eval iter X.env) (fun v s1=>wpAny (model X.prog X.w) X.A (pyIter v) (PIE X pins σ tg R) X.xe s1) X.xe s
theorem Hc{M:Model}{A:Around}{E:Value→Shared→Prop}{s:Shared}{tg:Expr}{it:Addr}{u:Value}{o:Obj}{n:String}{vs:Array Value}{Q:Unit→Shared→Prop}(ho:s.heap.get? it=some o)(hc:o.cls = .type n)(hd:o.data = .fields vs)
    (hn:["enumerate", "zip", "dict_itemiterator", "dict_reverseitemiterator", "odict_iterator", "itertools.zip_longest", "itertools.pairwise"].contains n=false) (hQ:Q () s):wpAny M A (letOwnedTupleGo tg (.ref it) u) Q E s:=by
  unfold letOwnedTupleGo
  cases tg<;>first
    | exact wpAny_pure hQ
    | (cases u<;>first
        | exact wpAny_pure hQ
        | (refine wpAny_bind (wpAny_load ho ?_)
           rw[hc,hd]
           show wpAny M A (if(["enumerate", "zip", "dict_itemiterator", "dict_reverseitemiterator", "odict_iterator", "itertools.zip_longest", "itertools.pairwise"].contains n&&vs[0]?==some (rawInt _))=true then _ else _) Q E s
           rw[if_neg (by intro h;rw[hn,Bool.false_and]at h;cases h)]
           exact wpAny_pure hQ))
def Itl(K:PySem.W.Frag)(a:Addr):It :=
 ⟨fun i H=>∃ xs x,SqL K H a xs∧xs[i]?=some x,fun i H x H'=>H'=H∧∀ xs,SqL K H a xs→xs[i]?=some x,fun i H=>∃ xs,SqL K H a xs∧xs.length≤i⟩
def Itt(K:PySem.W.Frag)(a:Addr):It :=
 ⟨fun i H=>∃ xs x,SqT K H a xs∧xs[i]?=some x,fun i H x H'=>H'=H∧∀ xs,SqT K H a xs→xs[i]?=some x,fun i H=>∃ xs,SqT K H a xs∧xs.length≤i⟩
def Itr(lo:Int)(n:Nat):It:=⟨fun i _=>i<n,fun i H x H'=>H'=H∧x = .int (lo+i),fun i _=>n≤i⟩
theorem GC{P:Program}{w:World}{K:PySem.W.Frag}{tg:Expr}(a it:Addr):Turn P w K tg (Itl K a) [it] it (fun i h=>h.IsListIter it a i) where
 mem:=by simp
 obj:=fun i h st b hb=>by
  have e:b=it:=by simpa using hb
  subst e
  obtain⟨o,e,c,d⟩:=st
  exact⟨o,e,fun v z=>by rw[d]at z;cases z⟩
 keep:=fun i h h' st k=>st.at fun o e=>k it (by simp) o e
 item:=by
  intro X hP hw hK hc i pins s σ H E I hf st hg
  subst hP hw hK
  obtain⟨xs,x,hq,hx⟩:=hg
  obtain⟨its,rv,p,hz⟩:=I.list hq
  obtain⟨u,hu,ru⟩:=rv.get hx
  obtain⟨f0,f1,f2,f3,f4,f5⟩:=hf it (by simp)
  refine wpAny_pyNext_list_item st p.isList (x:=u) (by simpa using hu) fun h' st' sb=>?_
  have I1:Inv X pins σ H { s with heap:=h' }:=I.turned (t':=s.toks) (fun b o hb e=>(sb.2 b hb).trans e) f0 f1 f3 f4 f5
  obtain⟨o,e,c,d⟩:=id st'
  exact⟨u,rfl,Hc (s:={ s with heap:=h' }) e c d (by decide) ⟨x,H,I1,ru,⟨rfl,fun ys hy=>by rw[I.list_inj hy hq];exact hx⟩,st',fun b hb=>(hf b hb).1⟩⟩
 done:=by
  intro X hP hw hK hc i pins s σ H E I hf st hg
  subst hP hw hK
  obtain⟨xs,hq,hx⟩:=hg
  obtain⟨its,rv,p,hz⟩:=I.list hq
  obtain⟨f0,f1,f2,f3,f4,f5⟩:=hf it (by simp)
  have hl:=rv.length
  exact wpAny_pyNext_list_end (I.ok.hd hc) st p.isList (by simp;omega) fun h' eb=>⟨rfl,I.turned (t':=s.toks) (fun b o hb e=>eb b o hb e) f0 f1 f3 f4 f5⟩
 self:=fun _ _ _ _ _ st h=>wpAny_pyIter_listiter st h
theorem CY{P:Program}{w:World}{K:PySem.W.Frag}{tg:Expr}(a it:Addr):Turn P w K tg (Itt K a) [it] it (fun i h=>h.IsTupleIter it a i) where
 mem:=by simp
 obj:=fun i h st b hb=>by
  have e:b=it:=by simpa using hb
  subst e
  obtain⟨o,e,c,d⟩:=st
  exact⟨o,e,fun v z=>by rw[d]at z;cases z⟩
 keep:=fun i h h' st k=>st.at fun o e=>k it (by simp) o e
 item:=by
  intro X hP hw hK hc i pins s σ H E I hf st hg
  subst hP hw hK
  obtain⟨xs,x,hq,hx⟩:=hg
  obtain⟨its,rv,p,hz⟩:=I.tuple hq
  obtain⟨u,hu,ru⟩:=rv.get hx
  obtain⟨f0,f1,f2,f3,f4,f5⟩:=hf it (by simp)
  refine wpAny_pyNext_tuple_item st (show s.heap.IsTuple a its.toArray from p) (x:=u) (by simpa using hu) fun h' st' sb=>?_
  have I1:Inv X pins σ H { s with heap:=h' }:=I.turned (t':=s.toks) (fun b o hb e=>(sb.2 b hb).trans e) f0 f1 f3 f4 f5
  obtain⟨o,e,c,d⟩:=id st'
  exact⟨u,rfl,Hc (s:={ s with heap:=h' }) e c d (by decide) ⟨x,H,I1,ru,⟨rfl,fun ys hy=>by rw[I.tuple_inj hy hq];exact hx⟩,st',fun b hb=>(hf b hb).1⟩⟩
 done:=by
  intro X hP hw hK hc i pins s σ H E I hf st hg
  subst hP hw hK
  obtain⟨xs,hq,hx⟩:=hg
  obtain⟨its,rv,p,hz⟩:=I.tuple hq
  obtain⟨f0,f1,f2,f3,f4,f5⟩:=hf it (by simp)
  have hl:=rv.length
  exact wpAny_pyNext_tuple_end (I.ok.hd hc) st (show s.heap.IsTuple a its.toArray from p) (by simp;omega) fun h' eb=>⟨rfl,I.turned (t':=s.toks) (fun b o hb e=>eb b o hb e) f0 f1 f3 f4 f5⟩
 self:=fun _ _ _ _ _ st h=>wpAny_pyIter_tupleiter st h
theorem CZ{P:Program}{w:World}{K:PySem.W.Frag}{tg:Expr}(it:Addr)(lo:Int)(n:Nat):Turn P w K tg (Itr lo n) [it] it (fun i h=>IsRangeIter h it (lo+(i:Nat)*1) ((n:Int)-(i:Nat)) 1) where
 mem:=by simp
 obj:=fun i h st b hb=>by
  have e:b=it:=by simpa using hb
  subst e
  exact⟨_,st,fun v z=>by
   have z':Data.fields _=Data.cell v:=z
   cases z'⟩
 keep:=fun i h h' st k=>k it (by simp) _ st
 item:=by
  intro X hP hw hK hc i pins s σ H E I hf st hg
  subst hP hw hK
  obtain⟨f0,f1,f2,f3,f4,f5⟩:=hf it (by simp)
  have W:=Walks.range (prog:=X.prog) (w:=X.w) (I.ok.hd hc) it lo 1 n
  refine W.item i s _ _ hg st fun v h' tk hv st' kk=>?_
  obtain⟨t,rfl⟩:=hv
  have I1:Inv X pins σ H { s with heap:=h',toks:=tk }:=I.turned (fun b o hb e=>kk b o (by simpa using hb) e) f0 f1 f3 f4 f5
  refine⟨_,rfl,Hc (s:={ s with heap:=h',toks:=tk }) (n := "range_iterator") st' rfl rfl (by decide) ⟨.int (lo+i),H,I1,⟨t,?_⟩,⟨rfl,rfl⟩,st',fun b hb=>(hf b hb).1⟩⟩
  rw[Int.mul_one]
 done:=by
  intro X hP hw hK hc i pins s σ H E I hf st hg
  subst hP hw hK
  obtain⟨f0,f1,f2,f3,f4,f5⟩:=hf it (by simp)
  exact wpAny_pyNext_range_end (I.ok.hd hc) st (by have:n≤i:=hg;omega) fun h' eb=>⟨rfl,I.turned (t':=s.toks) (fun b o hb e=>eb b o hb e) f0 f1 f3 f4 f5⟩
 self:=fun _ _ _ _ _ st h=>wpAny_pyIter_rangeiter st h
end L2
namespace L2
open PySem PySem.Spec PyProof.Rows
section
variable {X:Cx}{tg:Expr}
theorem Hd{pins:List (Addr×Obj)}{σ:St}{H:Hp}{s:Shared}{R:It→Hp→Prop}{E:Value→Shared→Prop}{lo hi:Int}{t u v:Tok}{tk:Nat}(I:Inv X pins σ H s)(h1 : -(2 ^ 62)≤lo)(h2:lo<2 ^ 62)(h3 : -(2 ^ 62)≤hi)(h4:hi<2 ^ 62)
   (q:R (Itr lo (hi-lo).toNat) H):wpAny (model X.prog X.w) X.A (pyIter (.ref s.heap.objs.size)) (PIE X pins σ tg R) E { s with heap:=s.heap.push { cls := .type "range",data := .fields #[.int lo t,.int hi u,.int 1 v] },toks:=tk }:=by
 refine wpAny_pyIter_range (IsRange.new ..) (small_one h1 h2 h3 h4) ?_
 have I1:Inv X pins σ H { s with heap:=s.heap.push { cls := .type "range",data := .fields #[.int lo t,.int hi u,.int 1 v] },toks:=tk }:=I.kept fun b o e=>Heap.get?_push_of_some _ e
 refine⟨(s.heap.push { cls := .type "range",data := .fields #[.int lo t,.int hi u,.int 1 v] }).objs.size,[(s.heap.push { cls := .type "range",data := .fields #[.int lo t,.int hi u,.int 1 v] }).objs.size],_,_,H,rfl,
   I1.kept (t':=tk) fun b o e=>Heap.get?_push_of_some _ e,CZ _ lo (hi-lo).toNat,?_,fun b hb=>?_,q⟩
 · have e1:lo+((0:Nat):Int)*1=lo:=by simp
   have e2:(((hi-lo).toNat:Nat):Int)-((0:Nat):Int)=Builtin.Range.rangeSize lo hi 1:=by rw[rangeSize_one];split<;>omega
   show IsRangeIter _ _ (lo+((0:Nat):Int)*1) ((((hi-lo).toNat:Nat):Int)-((0:Nat):Int)) 1
   rw[e1,e2]
   exact Heap.get?_push_size _ rfl
 · have e:b=(s.heap.push { cls := .type "range",data := .fields #[.int lo t,.int hi u,.int 1 v] }).objs.size:=by simpa using hb
   subst e
   exact I1.fpOk (Nat.le_refl _) (I1.hok.fresh (Nat.le_refl _))
def iRng1(ta:TA):TI:=fun σ H R=>ta σ H fun vs H1=>∃ j:Int,vs=[.int j] ∧ -(2 ^ 62)≤j∧j<2 ^ 62∧R (Itr 0 j.toNat) H1
theorem AK{a:Expr}{ta:TA}{p pos:Pos}(hg:Gl X "range")(hm:X.mg "range" = none)(ha:PA X [a] ta)(hs:starEach [a] X.env=[(false,eval a X.env)]:=by rfl):PI X tg (.Call (.Name "range" p) [a] [] pos) (iRng1 ta):=by
 intro pins s σ H R I h
 refine Call_ (Bs I hg hm boot_range (PyProof.Rows.callWith_type1 (thn (ha pos pins s σ H _ I h) fun us s1 hZ=>hZ.elim fun vs hZ=>hZ.elim fun H1 hZ=>hZ.elim fun I1 hZ=>hZ.elim fun r1 q1=>?_) hs rfl))
 obtain⟨j,e,q1,q2,q⟩:=q1
 subst e
 cases r1 with
 | cons r rr =>
  cases rr
  obtain⟨t,rfl⟩:=r
  exact call_range_1 (Hd I1 (by omega) (by omega) q1 q2 (by simpa using q))
def tFor(wi:TI)(g:TG)(tb:TS):TS:=fun D σ H=>wi σ H fun J H1=>∃ W:Nat→Nat→St→Hp→Prop,(∃ m,W 0 m σ H1)∧∀ i m σ H,W i m σ H →
 (J.stop i H∧D.nx σ H)∨(J.go i H∧∃ N:St→Hp→Prop,(∀ σ' H',N σ' H'→∃ m',m'<m∧W (i+1) m' σ' H')∧∀ x H',J.yld i H x H'→g x σ H' fun σ2 H2=>tb { D with nx:=N,ct:=N,bk:=D.nx } σ2 H2)
def X9(fp:List Addr)(h:Heap):List (Addr×Obj):=fp.filterMap fun b=>(h.get? b).map fun o=>(b,o)
theorem F8{fp:List Addr}{h:Heap}{b:Addr}{o:Obj}(hb:b∈fp)(e:h.get? b=some o):(b,o)∈X9 fp h:=List.mem_filterMap.mpr ⟨b,hb,by rw[e];rfl⟩
theorem GD{fp:List Addr}{h:Heap}{p:Addr×Obj}(hp:p∈X9 fp h):p.1∈fp∧h.get? p.1=some p.2:=by
 obtain⟨b,hb,e⟩:=List.mem_filterMap.mp hp
 cases q:h.get? b with
 | none=>rw[q]at e;cases e
 | some o =>
  rw[q]at e
  have e':(b,o)=p:=Option.some.inj e
  subst e'
  exact⟨hb,q⟩
theorem Inv.pinned{pins:List (Addr×Obj)}{σ:St}{H:Hp}{s:Shared}{fp:List Addr}(I:Inv X pins σ H s)(hf:∀ b∈fp,FpOk X pins H b)(ho:∀ b∈fp,∃ o,s.heap.get? b=some o∧∀ v,o.data ≠ .cell v):Inv X (pins++X9 fp s.heap) σ H s :=
 I.pins_of fun p hp=>(List.mem_append.mp hp).elim (fun z=>I.pin p (List.mem_append_right _ z)) fun z=>by
  obtain⟨hb,e⟩:=GD z
  obtain⟨f0,f1,f2,_⟩:=hf p.1 hb
  obtain⟨o,e',d⟩:=ho p.1 hb
  rw[e]at e';cases e'
  exact⟨e,f0,f1,f2,d⟩
theorem Inv.unpinned{pins pl:List (Addr×Obj)}{σ:St}{H:Hp}{s:Shared}(I:Inv X (pins++pl) σ H s):Inv X pins σ H s:=I.pins_of fun p hp=>I.pin p (List.mem_append_right _ (List.mem_append_left _ hp))
theorem He{iter:Expr}{body:List Stmt}{wi:TI}{g:TG}{tb:TS}{pos:Pos}(hp:PassesOwn (model X.prog X.w) X.A X.env X.xe)(hc:X.calm=true)(hi:PI X tg iter wi)(hg:PG X tg g)(hb:PSs X body tb)
   (hs:∀ x,foldedSetIterable iter X.env x=pure x:=by intro _;rfl):PS X (.For tg iter body [] pos) (tFor wi g tb):=by
 intro pins s σ H D I h
 refine wpAny_For (thn (hi pins s σ H _ I h) fun v s1 h1=>thn h1 fun itv s2 h2=>?_) hs
 obtain⟨it,fp,tn,J,H2,e,I2,T,st2,f2,W,⟨m0,w0⟩,turn⟩:=h2
 subst e
 have stat:∀{H':Hp},(∀ b∈fp,H' b=none)→∀ b∈fp,FpOk X pins H' b:=fun hn b hb=>⟨hn b hb,(f2 b hb).2⟩
 refine codeAny_forLoop_any (fun n s'=>∃ i σ' H',Inv X pins σ' H' s'∧tn i s'.heap∧(∀ b∈fp,H' b=none)∧W i n σ' H') ?_ m0 ⟨0,σ,H2,I2,st2,fun b hb=>(f2 b hb).1,w0⟩
 rintro n s3 ⟨i,σ3,H3,I3,st3,fr3,w3⟩
 rcases turn i n σ3 H3 w3 with⟨stop,qn⟩|⟨go,N,hN,step⟩
 · refine wpAny_passesOwn hp (thn (T.done X rfl rfl rfl hc i pins s3 σ3 H3 X.xe I3 (stat fr3) st3 stop) ?_)
   rintro r s4 ⟨hr,I4⟩
   subst hr
   exact wpAny_execs_nil ⟨σ3,H3,I4,qn⟩
 · refine wpAny_passesOwn hp (thn (T.item X rfl rfl rfl hc i pins s3 σ3 H3 X.xe I3 (stat fr3) st3 go) ?_)
   rintro r s4 ⟨u,hr,h4⟩
   subst hr
   refine wpAny_passesOwn hp (thn h4 ?_)
   rintro _ s5 ⟨x,H5,I5,r5,y5,st5,fr5⟩
   have I5':=I5.pinned (stat fr5) (T.obj _ _ st5)
   refine wpAny_passesOwn hp (thn (hg _ s5 σ3 H5 x u _ I5' r5 (step x H5 y5)) ?_)
   rintro _ s6 ⟨σ6,H6,I6,q6⟩
   refine wpAny_passesOwn hp (thn (hb _ s6 σ6 H6 _ I6 q6) fun f s7 q7=>?_)
   have again:∀{σ7:St} {H7:Hp},Inv X (pins++X9 fp s5.heap) σ7 H7 s7→N σ7 H7→∃ m,m<n∧∃ i σ' H',Inv X pins σ' H' s7∧tn i s7.heap∧(∀ b∈fp,H' b=none)∧W i m σ' H':=fun{σ7 H7} I7 n7=>by
    obtain⟨m',hm,w7⟩:=hN σ7 H7 n7
    refine⟨m',hm,i+1,σ7,H7,I7.unpinned,T.keep _ _ _ st5 fun b hb o e=>(I7.pin (b,o) (List.mem_append_right _ (List.mem_append_right _ (F8 hb e)))).1,fun b hb=>?_,w7⟩
    obtain⟨o,e,d⟩:=T.obj _ _ st5 b hb
    exact(I7.pin (b,o) (List.mem_append_right _ (List.mem_append_right _ (F8 hb e)))).2.1
   cases f with
   | next=>obtain⟨σ7,H7,I7,n7⟩:=q7;exact again I7 n7
   | cont=>obtain⟨σ7,H7,I7,n7⟩:=q7;exact again I7 n7
   | brk=>obtain⟨σ7,H7,I7,q7⟩:=q7;exact⟨σ7,H7,I7.unpinned,q7⟩
   | ret v=>obtain⟨x7,σ7,H7,I7,r7,q7⟩:=q7;exact⟨x7,σ7,H7,I7.unpinned,r7,q7⟩
end
theorem GE{lo:Int}{n:Nat}{g:TG}{tb:TS}{D:Ends}{σ:St}{H:Hp}(Pv:Nat→St→Hp→Prop)(h0:Pv 0 σ H)
   (hs:∀ i σ H,i<n→Pv i σ H→g (.int (lo+i)) σ H fun σ2 H2=>tb { D with nx:=Pv (i+1),ct:=Pv (i+1),bk:=D.nx } σ2 H2) (hd:∀ σ H,Pv n σ H→D.nx σ H) :
   ∃ W:Nat→Nat→St→Hp→Prop,(∃ m,W 0 m σ H)∧∀ i m σ H,W i m σ H →
    ((Itr lo n).stop i H∧D.nx σ H)∨((Itr lo n).go i H∧∃ N:St→Hp→Prop,(∀ σ' H',N σ' H'→∃ m',m'<m∧W (i+1) m' σ' H')∧∀ x H',(Itr lo n).yld i H x H'→g x σ H' fun σ2 H2=>tb { D with nx:=N,ct:=N,bk:=D.nx } σ2 H2):=by
 refine⟨fun i m σ H=>m=n-i∧i≤n∧Pv i σ H,⟨n,by simp,Nat.zero_le _,h0⟩,?_⟩
 rintro i m σ H ⟨rfl,hi,p⟩
 by_cases hlt:i<n
 · refine .inr ⟨hlt,Pv (i+1),fun σ' H' p'=>⟨n-(i+1),by omega,rfl,hlt,p'⟩,fun x H' y=>?_⟩
   obtain⟨e,y⟩:=y
   subst e y
   exact hs i σ _ hlt p
 · have e:i=n:=by omega
   subst e
   exact .inl ⟨Nat.le_refl _,hd σ H p⟩
end L2
namespace L2
open PySem PySem.Spec PyProof.Rows
abbrev R2:=V→V→Hp→VK→Prop
def OpR(X:Cx)(f:Value→Value→Sem Value)(r:R2):Prop :=
 ∀(pins:List (Addr×Obj)) (s:Shared) (σ:St) (H:Hp) (x y:V) (v u:Value) (Q:VK),Inv X pins σ H s→RelV x v→RelV y u→r x y H Q →
  wpAny (model X.prog X.w) X.A (f v u) (EP X pins σ Q) X.xe s
def UnR(X:Cx)(f:Value→Sem Value)(r:V→Hp→VK→Prop):Prop :=
 ∀(pins:List (Addr×Obj)) (s:Shared) (σ:St) (H:Hp) (x:V) (v:Value) (Q:VK),Inv X pins σ H s→RelV x v→r x H Q →
  wpAny (model X.prog X.w) X.A (f v) (EP X pins σ Q) X.xe s
def CallR(X:Cx)(f:Value)(r:List V→Hp→VK→Prop):Prop :=
 ∀(pins:List (Addr×Obj)) (s:Shared) (σ:St) (H:Hp) (xs:List V) (us:List Value) (Q:VK),Inv X pins σ H s→Vals xs us→r xs H Q →
  wpAny (model X.prog X.w) X.A (call f us) (EP X pins σ Q) X.xe s
def TruR(X:Cx)(r:V→Hp→(Bool→Hp→Prop)→Prop):Prop :=
 ∀(pins:List (Addr×Obj)) (s:Shared) (σ:St) (H:Hp) (x:V) (v:Value) (Q:Bool→Hp→Prop),Inv X pins σ H s→RelV x v→r x H Q →
  wpAny (model X.prog X.w) X.A (truthy v) (TP X pins σ Q) X.xe s
def tOp(r:R2)(ta tb:TE):TE:=fun σ H Q=>ta σ H fun x H1=>tb σ H1 fun y H2=>r x y H2 Q
def tUn(r:V→Hp→VK→Prop)(ta:TE):TE:=fun σ H Q=>ta σ H fun x H1=>r x H1 Q
def rI(C:Int→Int→Prop)(g:Int→Int→V):R2:=fun x y H Q=>∃ i j,x = .int i∧y = .int j∧C i j∧Q (g i j) H
def rI0(g:Int→Int→V):R2:=fun x y H Q=>∃ i j,x = .int i∧y = .int j∧Q (g i j) H
def rU(g:Int→V):V→Hp→VK→Prop:=fun x H Q=>∃ i,x = .int i∧Q (g i) H
section
variable {X:Cx}{a b c:Expr}{ta tb tc:TE}{pos:Pos}
theorem binT(ha:PE X a ta)(hb:PE X b tb){pins:List (Addr×Obj)}{s:Shared}{σ:St}{H:Hp}{R:V→V→Hp→Prop}(I:Inv X pins σ H s)
  (h:ta σ H fun x H1=>tb σ H1 fun y H2=>R x y H2) {Q:Value→Shared→Prop} {f:Value→Value→Sem Value}
  (hf:∀ v u s2 x y H2,Inv X pins σ H2 s2→RelV x v→RelV y u→R x y H2→wpAny (model X.prog X.w) X.A (f v u) Q X.xe s2) :
  wpAny (model X.prog X.w) X.A (eval a X.env) (fun v s₁=>wpAny (model X.prog X.w) X.A (eval b X.env) (fun u s₂=>wpAny (model X.prog X.w) X.A (f v u) Q X.xe s₂) X.xe s₁) X.xe s:=by
 refine thn (ha pins s σ H _ I h) ?_
 rintro v s1 ⟨x,H1,I1,r1,q1⟩
 refine thn (hb pins s1 σ H1 _ I1 q1) ?_
 rintro u s2 ⟨y,H2,I2,r2,q2⟩
 exact hf v u s2 x y H2 I2 r1 r2 q2
theorem Hf{op:Operator}{r:R2}(ho:OpR X (binaryOp op) r)(ha:PE X a ta)(hb:PE X b tb):PE X (.BinOp a op b pos) (tOp r ta tb):=by
 intro pins s σ H Q I h
 exact wpAny_BinOp (binT ha hb I h fun v u s2 x y H2 I2 rx ry q=>ho pins s2 σ H2 x y v u Q I2 rx ry q)
theorem pe_un{op:UnaryOp}{r:V→Hp→VK→Prop}(ho:UnR X (unaryOp op) r)(ha:PE X a ta):PE X (.UnaryOp op a pos) (tUn r ta):=by
 intro pins s σ H Q I h
 exact UnaryOp_ (thn (ha pins s σ H _ I h) fun v s1 hZ=>hZ.elim fun x hZ=>hZ.elim fun H1 hZ=>hZ.elim fun I1 hZ=>hZ.elim fun r1 q1=>ho pins s1 σ H1 x v Q I1 r1 q1)
theorem opI{f:Value→Value→Sem Value}{C:Int→Int→Prop}{g:Int→Int→Int}
  (rule:∀(i j:Int) (t u:Tok) (s:Shared) (Q:Value→Shared→Prop) (E:Value→Shared→Prop),C i j→Q (.int (g i j) s.toks) { s with toks:=s.toks+1 }→wpAny (model X.prog X.w) X.A (f (.int i t) (.int j u)) Q E s) :
  OpR X f (rI C fun i j => .int (g i j)):=by
 intro pins s σ H x y v u Q I rx ry h
 obtain⟨i,j,rfl,rfl,hc,q⟩:=h
 obtain⟨t,rfl⟩:=rx
 obtain⟨t',rfl⟩:=ry
 exact rule i j t t' s _ _ hc ⟨.int (g i j),H,I.tok _,⟨_,rfl⟩,q⟩
theorem opI0{f:Value→Value→Sem Value}{g:Int→Int→Int}
  (rule:∀(i j:Int) (t u:Tok) (s:Shared) (Q:Value→Shared→Prop) (E:Value→Shared→Prop),Q (.int (g i j) s.toks) { s with toks:=s.toks+1 }→wpAny (model X.prog X.w) X.A (f (.int i t) (.int j u)) Q E s) :
  OpR X f (rI0 fun i j => .int (g i j)):=by
 intro pins s σ H x y v u Q I rx ry h
 obtain⟨i,j,rfl,rfl,q⟩:=h
 obtain⟨t,rfl⟩:=rx
 obtain⟨t',rfl⟩:=ry
 exact rule i j t t' s _ _ ⟨.int (g i j),H,I.tok _,⟨_,rfl⟩,q⟩
theorem opB0{f:Value→Value→Sem Value}{g:Int→Int→Bool}
  (rule:∀(i j:Int) (t u:Tok) (s:Shared) (Q:Value→Shared→Prop) (E:Value→Shared→Prop),Q (.bool (g i j)) s→wpAny (model X.prog X.w) X.A (f (.int i t) (.int j u)) Q E s) :
  OpR X f (rI0 fun i j => .bl (g i j)):=by
 intro pins s σ H x y v u Q I rx ry h
 obtain⟨i,j,rfl,rfl,q⟩:=h
 obtain⟨t,rfl⟩:=rx
 obtain⟨t',rfl⟩:=ry
 exact rule i j t t' s _ _ ⟨.bl (g i j),H,I,rfl,q⟩
def CPow(i j:Int):Prop:=0≤j∧j≤1000000∧i.natAbs<2 ^ 64
def CMul(i j:Int):Prop:=(-(2 ^ 64)<i∧i<2 ^ 64)∨(-(2 ^ 64)<j∧j<2 ^ 64)
theorem CMul.ok{i j:Int}(h:CMul i j):IntMulOk i j:=by
 rcases h with⟨h1,h2⟩|⟨h1,h2⟩
 · exact .of_left (intBits_le_64 h1 h2)
 · exact .of_right (intBits_le_64 h1 h2)
theorem op_add:OpR X (binaryOp .Add) (rI0 fun i j => .int (i+j)):=opI0 fun _ _ _ _ _ _ _ q=>add_int q
theorem op_sub:OpR X (binaryOp .Sub) (rI0 fun i j => .int (i-j)):=opI0 fun _ _ _ _ _ _ _ q=>sub_int q
theorem Ku:OpR X (binaryOp .Mod) (rI (fun _ j=>j≠0) fun i j => .int (i.fmod j)):=opI fun _ _ _ _ _ _ _ hc q=>mod_int' hc q
theorem op_pow:OpR X (binaryOp .Pow) (rI CPow fun i j => .int (i ^ j.toNat)):=opI fun _ _ _ _ _ _ _ hc q=>pow_int_small hc.1 hc.2.1 hc.2.2 q
theorem unI{f:Value→Sem Value}{g:Int→Int}
  (rule:∀(i:Int) (t:Tok) (s:Shared) (Q:Value→Shared→Prop) (E:Value→Shared→Prop),Q (.int (g i) s.toks) { s with toks:=s.toks+1 }→wpAny (model X.prog X.w) X.A (f (.int i t)) Q E s) :
  UnR X f (rU fun i => .int (g i)):=by
 intro pins s σ H x v Q I rx h
 obtain⟨i,rfl,q⟩:=h
 obtain⟨t,rfl⟩:=rx
 exact rule i t s _ _ ⟨.int (g i),H,I.tok _,⟨_,rfl⟩,q⟩
theorem un_neg:UnR X (unaryOp .USub) (rU fun i => .int (-i)):=unI fun _ _ _ _ _ q=>neg_int q
end
def scal:V→V→Bool
 | .non,.non=>true|.non,.int _=>true|.int _,.non=>true|.non,.bl _=>true|.bl _,.non=>true|.non,.str _=>true|.str _,.non=>true
 | .int _,.int _=>true|.bl _,.bl _=>true|.str _,.str _=>true|.byt _,.byt _=>true
 | .int _,.str _=>true|.str _,.int _=>true|.bl _,.str _=>true|.str _,.bl _=>true
 | _,_=>false
section
variable {X:Cx}{a b c:Expr}{ta tb tc:TE}{pos:Pos}
theorem fin_bl{pins:List (Addr×Obj)}{σ:St}{H:Hp}{s:Shared}{Q:VK}{k k':Bool}(I:Inv X pins σ H s)(q:Q (.bl k) H)(e:k=k'):EP X pins σ Q (.bool k') s:=by
 subst e
 exact⟨.bl k,H,I,rfl,q⟩
theorem op_lt:OpR X (compareOp .Lt) (rI0 fun i j => .bl (decide (i<j))):=opB0 fun _ _ _ _ _ _ _ q=>lt_int q
theorem op_le:OpR X (compareOp .LtE) (rI0 fun i j => .bl (decide (i≤j))):=opB0 fun _ _ _ _ _ _ _ q=>le_int q
theorem op_gt:OpR X (compareOp .Gt) (rI0 fun i j => .bl (decide (j<i))):=opB0 fun _ _ _ _ _ _ _ q=>gt_int q
theorem op_ge:OpR X (compareOp .GtE) (rI0 fun i j => .bl (decide (j≤i))):=opB0 fun _ _ _ _ _ _ _ q=>ge_int q
theorem T6:OpR X (compareOp .Is) (fun x y H Q=>y = .non∧Q (.bl (decide (x = .non))) H):=by
 intro pins s σ H x y v u Q I rx ry h
 obtain⟨rfl,q⟩:=h
 cases ry
 refine is_none_gen (fin_bl I q ?_)
 cases x<;>first
  | (cases rx;rfl)
  | (obtain⟨t,rfl⟩:=rx;rfl)
theorem OpR.or{f:Value→Value→Sem Value}{r r':R2}(h:OpR X f r)(h':OpR X f r'):OpR X f (fun x y H Q=>r x y H Q∨r' x y H Q):=by
 intro pins s σ H x y v u Q I rx ry q
 rcases q with q|q
 · exact h pins s σ H x y v u Q I rx ry q
 · exact h' pins s σ H x y v u Q I rx ry q
theorem Hg(b:Expr){op:CmpOp}(h:op ≠ .In:=by decide)(h2:op ≠ .NotIn:=by decide):behindInMarks op b=false:=by
 have e1:(op==CmpOp.In)=false:=by cases op<;>first|rfl|exact absurd rfl h
 have e2:(op==CmpOp.NotIn)=false:=by cases op<;>first|rfl|exact absurd rfl h2
 cases b<;>simp[behindInMarks,e1,e2]
theorem F9{op:CmpOp}{r:R2}(ho:OpR X (compareOp op) r)(ha:PE X a ta)(hb:PE X b tb)(hm:behindInMarks op b=false):PE X (.Compare a [op] [b] pos) (tOp r ta tb):=by
 intro pins s σ H Q I h
 exact wpAny_Compare1 (binT ha hb I h fun v u s2 x y H2 I2 rx ry q=>ho pins s2 σ H2 x y v u Q I2 rx ry q) hm
def Co(t:TE):TT:=fun σ H Q=>t σ H fun x H'=>∃ k,x = .bl k∧Q k H'
theorem Bt{op:CmpOp}{r:R2}(ho:OpR X (compareOp op) r)(ha:PE X a ta)(hb:PE X b tb)(hm:behindInMarks op b=false):PT X (.Compare a [op] [b] pos) (Co (tOp r ta tb)):=by
 intro pins s σ H Q I h
 refine wpAny_isTrue_Compare1 (thn (ha pins s σ H _ I h) fun v s1 hZ=>hZ.elim fun x hZ=>hZ.elim fun H1 hZ=>hZ.elim fun I1 hZ=>hZ.elim fun r1 q1=>thn (hb pins s1 σ H1 _ I1 q1) fun u s2 ⟨y,H2,I2,r2,q2⟩ =>
  thn (ho pins s2 σ H2 x y v u _ I2 r1 r2 q2) fun c s3 hZ=>hZ.elim fun z hZ=>hZ.elim fun H3 hZ=>hZ.elim fun I3 hZ=>hZ.elim fun r3 hZ=>hZ.elim fun k hZ=>hZ.elim fun e q3=>?_) hm
 subst e
 cases r3
 exact wpAny_truthy_bool ⟨H3,I3,q3⟩
def Da(r r':R2)(ta tb tc:TE):TE:=fun σ H Q=>ta σ H fun x H1=>tb σ H1 fun y H2=>r x y H2 fun z H3=>∃ k,z = .bl k ∧
 (if k=true then tc σ H3 fun w' H4=>r' y w' H4 Q else Q (.bl false) H3)
theorem Hi{op op':CmpOp}{r r':R2}(ho:OpR X (compareOp op) r)(ho':OpR X (compareOp op') r')(ha:PE X a ta)(hb:PE X b tb)(hc:PE X c tc)
  (hm:lastMarks [op,op'] [b,c]=false:=by with_unfolding_all rfl):PE X (.Compare a [op,op'] [b,c] pos) (Da r r' ta tb tc):=by
 intro pins s σ H Q I h
 refine Compare_chain (thn (ha pins s σ H _ I h) fun v s1 hZ=>hZ.elim fun x hZ=>hZ.elim fun H1 hZ=>hZ.elim fun I1 hZ=>hZ.elim fun r1 q1=>chain_link (thn (hb pins s1 σ H1 _ I1 q1) fun u s2 ⟨y,H2,I2,r2,q2⟩ =>
  thn (ho pins s2 σ H2 x y v u _ I2 r1 r2 q2) fun d s3 hZ=>hZ.elim fun z hZ=>hZ.elim fun H3 hZ=>hZ.elim fun I3 hZ=>hZ.elim fun r3 hZ=>hZ.elim fun k hZ=>hZ.elim fun e q3=>?_)) hm
 subst e
 cases r3
 refine wpAny_truthy_bool ?_
 cases k with
 | false=>exact ite_ff ⟨.bl false,H3,I3,rfl,q3⟩
 | true=>exact ite_tt (chain_last (thn (hc pins s3 σ H3 _ I3 q3) fun w' s4 hZ=>hZ.elim fun z' hZ=>hZ.elim fun H4 hZ=>hZ.elim fun I4 hZ=>hZ.elim fun r4 q4=>ho' pins s4 σ H4 y z' u w' Q I4 r2 r4 q4))
theorem Hj{op op':CmpOp}{r r':R2}(ho:OpR X (compareOp op) r)(ho':OpR X (compareOp op') r')(ha:PE X a ta)(hb:PE X b tb)(hc:PE X c tc)
  (hm:lastMarks [op,op'] [b,c]=false:=by with_unfolding_all rfl):PT X (.Compare a [op,op'] [b,c] pos) (Co (Da r r' ta tb tc)):=by
 intro pins s σ H Q I h
 refine isTrue_chain (thn (ha pins s σ H _ I h) fun v s1 hZ=>hZ.elim fun x hZ=>hZ.elim fun H1 hZ=>hZ.elim fun I1 hZ=>hZ.elim fun r1 q1=>test_link (thn (hb pins s1 σ H1 _ I1 q1) fun u s2 ⟨y,H2,I2,r2,q2⟩ =>
  thn (ho pins s2 σ H2 x y v u _ I2 r1 r2 q2) fun d s3 hZ=>hZ.elim fun z hZ=>hZ.elim fun H3 hZ=>hZ.elim fun I3 hZ=>hZ.elim fun r3 hZ=>hZ.elim fun k hZ=>hZ.elim fun e q3=>?_)) hm
 subst e
 cases r3
 refine wpAny_truthy_bool ?_
 cases k with
 | false =>
  obtain⟨k',e',q'⟩:=q3
  cases e'
  exact ite_ff ⟨H3,I3,q'⟩
 | true =>
  refine ite_tt (test_last (thn (hc pins s3 σ H3 _ I3 q3) fun w' s4 hZ=>hZ.elim fun z' hZ=>hZ.elim fun H4 hZ=>hZ.elim fun I4 hZ=>hZ.elim fun r4 q4=>thn (ho' pins s4 σ H4 y z' u w' _ I4 r2 r4 q4) ?_))
  rintro d' s5 ⟨z2,H5,I5,r5,k2,e2,q5⟩
  subst e2
  cases r5
  exact wpAny_truthy_bool ⟨H5,I5,q5⟩
def TruV(K:PySem.W.Frag)(x:V)(H:Hp)(k:Bool):Prop :=
 match x with
 | .non=>k=false
 | .bl b=>k=b
 | .int i=>k=(i != 0)
 | .str y=>y.length≤sizeLine∧k=((y.length:Int) != 0)
 | .byt y=>y.size≤sizeLine∧k=((y.size:Int) != 0)
 | .ref p=>(∃ xs,SqL K H p xs∧k=!xs.isEmpty)∨(∃ xs,SqT K H p xs∧k=!xs.isEmpty)∨∃ kvs,H p=some (.dK kvs)∧k=!kvs.isEmpty
 | _=>False
theorem Db{κ:Type}{kvs:List (κ×V)}{vs:List (κ×Value)}(r:KV kvs vs):(!vs.isEmpty)=!kvs.isEmpty:=by
 cases r<;>rfl
theorem Y0{xs:List V}{its:List Value}(r:Vals xs its):(!its.toArray.isEmpty)=!xs.isEmpty:=by
 cases r<;>simp
theorem Y1:(sizeLine:Nat)<2 ^ 63:=by rw[sizeLine_eq];decide
theorem tru_ok:TruR X (fun x H Q=>∃ k,TruV X.K x H k∧Q k H):=by
 intro pins s σ H x v Q I rx h
 obtain⟨k,e,q⟩:=h
 have hl:=Y1
 have hs:sizeLine=16777216:=sizeLine_eq
 cases x with
 | non =>
  cases rx
  have e':k=false:=e
  subst e'
  exact truthy_none ⟨H,I,q⟩
 | bl b =>
  cases rx
  have e':k=b:=e
  subst e'
  exact wpAny_truthy_bool ⟨H,I,q⟩
 | int i =>
  obtain⟨t,rfl⟩:=rx
  have e':k=(i != 0):=e
  subst e'
  exact PySem.P.truthy_int ⟨H,I,q⟩
 | str y =>
  obtain⟨t,rfl⟩:=rx
  obtain⟨hy,e'⟩:y.length≤sizeLine∧k=((y.length:Int) != 0):=e
  subst e'
  exact PySem.P.truthy_str (by omega) ⟨H,I.tok _,q⟩
 | byt y =>
  obtain⟨t,rfl⟩:=rx
  obtain⟨hy,e'⟩:y.size≤sizeLine∧k=((y.size:Int) != 0):=e
  subst e'
  exact PySem.W.truthy_bytes (by omega) ⟨H,I.tok _,q⟩
 | ref p =>
  cases rx
  have e':(∃ xs,SqL X.K H p xs∧k=!xs.isEmpty)∨(∃ xs,SqT X.K H p xs∧k=!xs.isEmpty)∨∃ kvs,H p=some (.dK kvs)∧k=!kvs.isEmpty:=e
  rcases e' with⟨xs,hx,e'⟩|⟨xs,hx,e'⟩|⟨kvs,hx,e'⟩
  · subst e'
    obtain⟨its,r,pl,hz⟩:=I.list hx
    have hlen:=r.length
    exact wpAny_truthy_list pl.isList (by simp only[List.size_toArray];omega) ⟨H,I.tok _,by rw[Y0 r];exact q⟩
  · subst e'
    obtain⟨its,r,pl,hz⟩:=I.tuple hx
    have hlen:=r.length
    exact truthy_tuple pl (by simp only[List.size_toArray];omega) ⟨H,I.tok _,by rw[Y0 r];exact q⟩
  · subst e'
    obtain⟨hz,hS,vs,r,m⟩:kvs.length≤sizeLine∧(p==sysModules)=false∧∃ vs,KV kvs vs∧s.heap.DictOf (Bp X.prog X.w) p vs:=I.hok p _ hx
    have hlen:kvs.length=vs.length:=Paired.length r
    exact wpAny_truthy_dict hS m (by omega) ⟨H,I.tok _,by rw[Db r];exact q⟩
 | _=>exact(show False from e).elim
theorem Hk(ha:PE X a ta)(he:∀ whole,isTrue a X.env whole=(do let v ←whole;standAt a.pos;holding [v] (truthy v))):
  PT X a (fun σ H Q=>ta σ H fun x H'=>∃ k,TruV X.K x H' k∧Q k H'):=by
 intro pins s σ H Q I h
 exact isTrue_plain (thn (ha pins s σ H _ I h) fun v s1 hZ=>hZ.elim fun x hZ=>hZ.elim fun H1 hZ=>hZ.elim fun I1 hZ=>hZ.elim fun r1 q1=>tru_ok pins s1 σ H1 x v Q I1 r1 q1) (he _)
theorem Fx{x:V}{us:List Value}(r:Vals [x] us):∃ u,us=[u]∧RelV x u:=by
 cases r with
 | cons r1 r2=>cases r2;exact⟨_,rfl,r1⟩
theorem vals2{x y:V}{us:List Value}(r:Vals [x,y] us):∃ u w',us=[u,w']∧RelV x u∧RelV y w':=by
 cases r with
 | cons r1 r2 =>
  cases r2 with
  | cons r3 r4=>cases r4;exact⟨_,_,rfl,r1,r3⟩
theorem Hl:CallR X (.builtin "abs") (fun xs H Q=>∃ i,xs=[.int i]∧Q (.int (if i<0 then -i else i)) H):=by
 intro pins s σ H xs us Q I r h
 obtain⟨i,rfl,q⟩:=h
 obtain⟨u,rfl,t,rfl⟩:=Fx r
 exact call_abs_int fun u tk=>⟨.int (if i<0 then -i else i),H,I.tok _,⟨_,rfl⟩,q⟩
end
end L2
namespace L2
open PySem PySem.Spec PyProof.Rows
structure ObjM(h:Heap)(x dx C:Addr)(mA:Str→Option Value):Prop where
 obj:h.get? x=some (PySem.W.instObj C dx)
 ns:h.Ns1 dx mA
 ne:dx≠x
theorem GF{h:Heap}{dx:Addr}{mA:Str→Option Value}(n:h.Ns1 dx mA):∃ od,h.get? dx=some od∧∀ name,PySem.W.lookIn name od=some (mA name):=by
 obtain⟨o,es,ep,ho,hd,hk,_,hm⟩:=n
 refine⟨o,ho,fun name=>?_⟩
 have e:=hm name
 unfold nsFind findBy at e
 rw[←Array.find?_toList]at e
 unfold PySem.W.lookIn
 rw[hd]
 dsimp only
 split
 · rename_i y q
   rw[q]at e
   exact congrArg some e
 · rename_i q
   rw[q]at e
   have a:es.toList.any (·.refKey)=false:=by
    rw[List.any_eq_false]
    intro y hy
    obtain⟨z,t,hkey⟩:=hk y (Array.mem_toList_iff.mp hy)
    simp[DictEntry.refKey,hkey]
   have a':¬es.toList.any (·.refKey)=true:=by rw[a];exact Bool.false_ne_true
   rw[if_neg a']
   exact congrArg some e
theorem ObjM.look{h:Heap}{x dx C:Addr}{mA:Str→Option Value}(I:ObjM h x dx C mA):∃ od,PySem.W.InstAt h x (PySem.W.instObj C dx) C (some od)∧∀ name,PySem.W.lookIn name od=some (mA name) :=
 let ⟨od,ho,hl⟩:=GF I.ns
 ⟨od,⟨I.obj,rfl,rfl,ho⟩,hl⟩
section
variable {prog:Program}{w:World}{A:Around}{E:Value→Shared→Prop}{s:Shared}{K:PySem.W.Frag}{x dx C f:Addr}{mA:Str→Option Value}{name:Str}{v:Value}
theorem Kv{expr:Bool}{Q:Value→Shared→Prop}(X:K.In s.heap)(I:ObjM s.heap x dx C mA)(hg:PySem.W.plainGet K C name=true)(hh:PySem.W.hasDictIn K C=true)
  (ha:PySem.W.findIn K (.ref C) name=some none) (hv:mA name=some v) (hv':PySem.W.handedIn v=true) (h:Q v { s with toks:=s.toks+1 }) :
  wpAny (model prog w) A (getAttr (.ref x) name expr) Q E s:=by
 obtain⟨od,J,hl⟩:=I.look
 exact PySem.W.get_value X J (PySem.W.plainGet_of hg).1 (PySem.W.findObj_own hh ha rfl (by rw[hl,hv])) hv' h
theorem Hm{pl:Sem Bool}{Q:Value×List Value→Shared→Prop}(X:K.In s.heap)(I:ObjM s.heap x dx C mA)(hg:PySem.W.plainGet K C name=true)
  (hf:PySem.W.findIn K (.ref C) name=some (some (.ref f))) (ht:PySem.W.isFn K (.ref f)=true) (hv:mA name=none) (h:Q (.ref f,[.ref x]) s) :
  wpAny (model prog w) A (getMethod (.ref x) name pl) Q E s:=by
 obtain⟨od,J,hl⟩:=I.look
 exact PySem.W.method_fn X J (PySem.W.plainGet_of hg).1 (PySem.W.plainGet_of hg).2 hf (beq_iff_eq.mp ht) (by show(PySem.W.lookIn name od).map (·.isSome)=some false;rw[hl,hv];rfl) h
theorem Kw{ns:List Str}{Q:Unit→Shared→Prop}(X:K.In s.heap)(I:ObjM s.heap x dx C mA)
  (hs:PySem.W.findIn K (.ref C) "__setattr__" = some (some (.builtin "object.__setattr__"))) (hp:PySem.W.plainOver K C=true) (ht:PySem.W.takerIn K C name=some none) (hh:PySem.W.hasDictIn K C=true)
  (hw:PySem.Within mA ns) (hsz:ns.length≤sizeLine)
  (h:∀ h',ObjM h' x dx C (fun y=>if y=name then some v else mA y)→Heap.SameBut dx s.heap h'→Q () { s with heap:=h',toks:=s.toks+2 }) :
  wpAny (model prog w) A (setAttr (.ref x) name v) Q E s:=by
 obtain⟨od,J,hl⟩:=I.look
 refine PySem.W.set_plain X J hs (PySem.W.osa_open (s:={ s with toks:=s.toks+1 }) (r:=none) X J hp ht fun b=>?_)
 obtain⟨cd,hc,hd'⟩:=PySem.W.any_some hh
 have hx:s.heap.get? x=some ⟨.ref C,some dx,.plain,#[]⟩:=I.obj
 refine wpAny_bind (wpAny_pure (wpAny_bind (wpAny_bind (wpAny_loadPart hx (wpAny_bind (PySem.W.Looks.here (s:={ s with toks:=s.toks+1 }) (PySem.W.looks_clsIn X hc) ?_))))))
 rw[hd']
 refine wpAny_pure (a:=some dx) (wpAny_bind (wpAny_pure (wpAny_bind ?_)))
 refine wpAny_nsSet1 (s:={ s with toks:=s.toks+1 }) I.ns fun h' hn2 hs2=>?_
 obtain⟨oD,esD,epD,hoD,hdD,hcD⟩:=hn2.count (PySem.Within.cons name v hw)
 refine wpAny_bind (wpAny_lookBehind hoD (by rw[hdD];exact pastItsLine_dict (Nat.le_trans hcD (by rw[List.length_cons];omega))) ?_)
 exact wpAny_pure (h _ ⟨(hs2.2 _ (Ne.symm I.ne)).trans I.obj,hn2,I.ne⟩ hs2)
theorem Hn{R:Result→Shared→Prop}{vs:List Value}{kw:List (Str×Value)}(X:K.In s.heap)(hm:PySem.W.makesIn K C=true)
  (hi:PySem.W.findIn K (.ref C) "__init__" = some (some (.ref f))) (hf:PySem.W.typeIn K (.ref f)=some (.type "function"))
  (h:codeAny (model prog w) (A.under (.builtin "type.__call__" ⟨.ref C::vs,kw⟩)) (.call (.ref f) ⟨.ref (s.heap.objs.size+1)::vs,kw⟩) (PySem.W.InitBack (s.heap.objs.size+1) R)
   { s with heap:=(s.heap.push PySem.W.emptyDict).push (PySem.W.instObj C s.heap.objs.size) }) :
  codeAny (model prog w) A (.call (.ref C) ⟨vs,kw⟩) R s:=by
 obtain⟨hh,g,d,t,os⟩:=s
 exact PySem.W.make_core (PySem.W.makes_of X hm) (PySem.W.looks_findIn X hi) (fun self=>PySem.W.bind_fn X self hf) (.inl rfl) h
end
def putF(f:Str)(v:V):List (Str×V)→List (Str×V)
 | []=>[(f,v)]
 | (g,x)::r=>if g=f then(g,v)::r else(g,x)::putF f v r
theorem V1(f g:Str)(v:V):∀ fs:List (Str×V),(putF f v fs).lookup g=if g=f then some v else fs.lookup g
 | []=>by
  show List.lookup g [(f,v)]=_
  by_cases h:g=f
  · have hb:(g==f)=true:=beq_iff_eq.mpr h
    simp only[List.lookup,hb,if_pos h]
  · have hb:(g==f)=false:=beq_eq_false_iff_ne.mpr h
    simp only[List.lookup,hb,if_neg h]
 | (k,x)::r=>by
  have ih:=V1 f g v r
  rw[show putF f v ((k,x)::r)=(if k=f then(k,v)::r else(k,x)::putF f v r)from rfl]
  by_cases hk:k=f
  · rw[if_pos hk]
    by_cases h:g=k
    · have hb:(g==k)=true:=beq_iff_eq.mpr h
      simp only[List.lookup,hb,if_pos (h.trans hk)]
    · have hb:(g==k)=false:=beq_eq_false_iff_ne.mpr h
      simp only[List.lookup,hb,if_neg (fun e:g=f=>h (e.trans hk.symm))]
  · rw[if_neg hk]
    by_cases h:g=k
    · have hb:(g==k)=true:=beq_iff_eq.mpr h
      simp only[List.lookup,hb,if_neg (fun e:g=f=>hk (h.symm.trans e))]
    · have hb:(g==k)=false:=beq_eq_false_iff_ne.mpr h
      simp only[List.lookup,hb]
      exact ih
theorem T7(f:Str)(v:V):∀ fs:List (Str×V),f∈(putF f v fs).map (·.1)∧∀ g,g∈fs.map (·.1)→g∈(putF f v fs).map (·.1)
 | []=>⟨by simp[putF],fun g h=>by simp at h⟩
 | (k,x)::r=>by
  obtain⟨i1,i2⟩:=T7 f v r
  rw[show putF f v ((k,x)::r)=(if k=f then(k,v)::r else(k,x)::putF f v r)from rfl]
  by_cases hk:k=f
  · rw[if_pos hk]
    subst hk
    exact⟨by simp,fun g h=>by simpa using h⟩
  · rw[if_neg hk]
    refine⟨?_,fun g h=>?_⟩
    · rw[List.map_cons]
      exact List.mem_cons_of_mem _ i1
    · rw[List.map_cons]at h ⊢
      rcases List.mem_cons.mp h with e|e
      · exact List.mem_cons.mpr (.inl e)
      · exact List.mem_cons_of_mem _ (i2 g e)
theorem V2(f:Str)(v:V):∀ fs:List (Str×V),(putF f v fs).length≤fs.length+1
 | []=>by simp[putF]
 | (k,x)::r=>by
  have ih:=V2 f v r
  rw[show putF f v ((k,x)::r)=(if k=f then(k,v)::r else(k,x)::putF f v r)from rfl]
  by_cases hk:k=f
  · rw[if_pos hk,List.length_cons,List.length_cons];omega
  · rw[if_neg hk,List.length_cons,List.length_cons];omega
theorem RelO.some_of{v:V}{o:Option Value}(r:RelO (some v) o):∃ u,o=some u∧RelV v u:=by
 cases o with
 | none=>exact(show False from r).elim
 | some u=>exact⟨u,rfl,r⟩
theorem RelO.none_of{o:Option Value}(r:RelO none o):o=none:=by
 cases o with
 | none=>rfl
 | some u=>exact(show False from r).elim
theorem GG{v:V}{u:Value}(r:RelV v u):PySem.W.handedIn u=true:=by
 cases v with
 | non=>cases (show u=Value.none from r);rfl
 | bl b=>cases (show u=Value.bool b from r);rfl
 | int i=>obtain⟨t,e⟩:=(show ∃ t,u=Value.int i t from r);cases e;rfl
 | str x=>obtain⟨t,e⟩:=(show ∃ t,u=Value.str x t from r);cases e;rfl
 | byt b=>obtain⟨t,e⟩:=(show ∃ t,u=Value.bytes b t from r);cases e;rfl
 | flt b=>obtain⟨t,e⟩:=(show ∃ t,u=Value.float b t from r);cases e;rfl
 | ref a=>cases (show u=Value.ref a from r);rfl
 | ty n=>cases (show u=Value.type n from r);rfl
section
variable {P:Program}{w:World}{H H':Hp}{h h':Heap}{a C dx:Addr}{fs fs':List (Str×V)}
theorem W8(hok:HOk P w H h)(e:H a=some (.ins C dx fs)):∃ mA,ObjM h a dx C mA∧(∀ f,RelO (fs.lookup f) (mA f))∧PySem.Within mA (fs.map (·.1))∧fs.length≤1000∧H dx=some (.own a):=by
 obtain⟨d,z,ne,ob,mA,n,r,q⟩:=(show ObjOk P w H h a (.ins C dx fs)from hok a _ e)
 exact⟨mA,⟨ob,n,ne⟩,r,q,z,d⟩
end
structure Cls(K:PySem.W.Frag)(C:Addr):Prop where
 pg:PySem.W.plainGet K C Str.empty=true
 hd:PySem.W.hasDictIn K C=true
 po:PySem.W.plainOver K C=true
 sa:PySem.W.findIn K (.ref C) "__setattr__" = some (some (.builtin "object.__setattr__"))
theorem Cls.get{K:PySem.W.Frag}{C:Addr}(c:Cls K C)(f:Str):PySem.W.plainGet K C f=true:=c.pg
def NoAttr(K:PySem.W.Frag)(C:Addr)(f:Str):Prop:=PySem.W.findIn K (.ref C) f=some none
theorem NoAttr.taker{K:PySem.W.Frag}{C:Addr}{f:Str}(n:NoAttr K C f):PySem.W.takerIn K C f=some none:=by
 unfold PySem.W.takerIn
 rw[show PySem.W.findIn K (.ref C) f=some none from n]
 rfl
structure Meth(K:PySem.W.Frag)(C:Addr)(m:Str)(f:Addr):Prop where
 at_:PySem.W.findIn K (.ref C) m=some (some (.ref f))
 fn:PySem.W.isFn K (.ref f)=true
 kp:PySem.W.keepIn K (.ref f)=true
section
variable {X:Cx}{pins:List (Addr×Obj)}{σ:St}{H:Hp}{s:Shared}{a C dx:Addr}{fs:List (Str×V)}{f:Str}{v:V}{A:Around}{E:Value→Shared→Prop}
theorem Dc{b:Bool}{Q:Value→Shared→Prop}(I:Inv X pins σ H s)(e:H a=some (.ins C dx fs))(c:Cls X.K C)(n:NoAttr X.K C f)(l:fs.lookup f=some v)
  (h:∀ u s',Inv X pins σ H s'→RelV v u→Q u s'):wpAny (model X.prog X.w) A (getAttr (.ref a) f b) Q E s:=by
 obtain⟨mA,O,r,_,_,_⟩:=W8 I.hok e
 obtain⟨u,hu,ru⟩:=RelO.some_of (v:=v) (o:=mA f) (by rw[←l];exact r f)
 exact Kv I.kIn O (c.get f) c.hd n hu (GG ru) (h u _ (I.tok _) ru)
theorem Y2{m:Str}{g:Addr}{pl:Sem Bool}{Q:Value×List Value→Shared→Prop}(I:Inv X pins σ H s)(e:H a=some (.ins C dx fs))(c:Cls X.K C)(k:Meth X.K C m g)(l:fs.lookup m=none)
  (h:Q (.ref g,[.ref a]) s):wpAny (model X.prog X.w) A (getMethod (.ref a) m pl) Q E s:=by
 obtain⟨mA,O,r,_,_,_⟩:=W8 I.hok e
 have hn:mA m=none:=RelO.none_of (by rw[←l];exact r m)
 exact Hm I.kIn O (c.get m) k.at_ k.fn hn h
theorem Dd{y:V}{u:Value}{Q:Unit→Shared→Prop}(I:Inv X pins σ H s)(e:H a=some (.ins C dx fs))(c:Cls X.K C)(n:NoAttr X.K C f)(hl:fs.length<1000)(ry:RelV y u)
   (h:∀ s',Inv X pins σ (upd H a (.ins C dx (putF f y fs))) s'→Q () s'):wpAny (model X.prog X.w) A (setAttr (.ref a) f u) Q E s:=by
 obtain⟨mA,O,r,wi,_,ho⟩:=W8 I.hok e
 have hz:(fs.map (·.1)).length≤sizeLine:=by rw[List.length_map,sizeLine_eq];omega
 refine Kw I.kIn O c.sa c.po n.taker c.hd wi hz fun h' O' sb=>h _ ?_
 have hd:∃ o,h'.get? dx=some o:=let ⟨o,_,_,e',_⟩:=O'.ns;⟨o,e'⟩
 refine I.write (x:=a) (e:=dx) (by rw[e];exact True.intro) (.inr ho) (fun b q hb z=>(sb.2 b hb).trans z) hd ?_
 refine⟨by rw[i0 O.ne];exact ho,?_,O.ne,O'.obj,_,O'.ns,fun g=>?_,fun g hg=>?_⟩
 · have:=V2 f y fs;omega
 · show RelO ((putF f y fs).lookup g) (if g=f then some u else mA g)
   rw[V1]
   by_cases q:g=f
   · rw[if_pos q,if_pos q];exact ry
   · rw[if_neg q,if_neg q];exact r g
 · by_cases q:g=f
   · rw[q];exact(T7 f y fs).1
   · refine(T7 f y fs).2 g (wi g fun z=>hg ?_)
     show(if g=f then some u else mA g)=none
     rw[if_neg q];exact z
theorem Inv.made(I:Inv X pins σ H s):Inv X pins σ (upd (upd H s.heap.objs.size (.own (s.heap.objs.size+1))) (s.heap.objs.size+1) (.ins C s.heap.objs.size []))
  { s with heap:=(s.heap.push PySem.W.emptyDict).push (PySem.W.instObj C s.heap.objs.size) }:=by
 have e1:(s.heap.push PySem.W.emptyDict).get? s.heap.objs.size=some PySem.W.emptyDict:=Heap.get?_push_size s.heap rfl
 have e2:((s.heap.push PySem.W.emptyDict).push (PySem.W.instObj C s.heap.objs.size)).get? (s.heap.objs.size+1)=some (PySem.W.instObj C s.heap.objs.size):=by
  have:=Heap.get?_push_size (s.heap.push PySem.W.emptyDict) (o:=PySem.W.instObj C s.heap.objs.size) rfl
  rwa [Heap.size_push]at this
 have e3:(s.heap.push PySem.W.emptyDict).Ns s.heap.objs.size (fun _=>none):=⟨PySem.W.emptyDict,#[],_,e1,rfl,(fun e he=>absurd he (by simp)),fun _=>rfl⟩
 have I1:=I.laid (a:=s.heap.objs.size) (o := .own (s.heap.objs.size+1)) (h':=s.heap.push PySem.W.emptyDict) (t':=s.toks) (fun b u q=>Heap.get?_push_of_some _ q) (Nat.le_refl _) ⟨_,e1⟩
 refine I1.laid (a:=s.heap.objs.size+1) (o := .ins C s.heap.objs.size []) (t':=s.toks) (fun b u q=>Heap.get?_push_of_some _ q) (Nat.le_of_eq (Heap.size_push _ _)) ?_
 have ne:s.heap.objs.size≠s.heap.objs.size+1:=Nat.ne_of_lt (Nat.lt_succ_self _)
 refine⟨by rw[i0 ne,j0],Nat.zero_le _,ne,e2,fun _=>none,(Heap.Ns1.of_empty e3).at fun o q=>Heap.get?_push_of_some _ q,fun _=>True.intro,fun y hy=>absurd rfl hy⟩
theorem Kx{prog:Program}{w:World}{env:Env}{e:Expr}{f:Str}{pos:Pos}{s:Shared}{Q:Value→Shared→Prop}(hb:attributeBase e f env (eval e env)=eval e env)
  (h:wpAny (model prog w) A (eval e env) (fun o s₁=>wpAny (model prog w) A (getAttr o f true) Q E s₁) E s):wpAny (model prog w) A (eval (.Attribute e f pos) env) Q E s :=
 Attribute_any_ h (by rw[arm_eval_Attribute,hb])
end
def tFld(K:PySem.W.Frag)(ta:TE)(f:Str):TE:=fun σ H Q=>ta σ H fun x H1=>∃ a C dx fs v,x = .ref a∧H1 a=some (.ins C dx fs)∧Cls K C∧NoAttr K C f∧fs.lookup f=some v∧Q v H1
def sFld(K:PySem.W.Frag)(ta tv:TE)(f:Str):TS:=fun D σ H=>tv σ H fun y H1=>ta σ H1 fun x H2=>∃ a C dx fs,x = .ref a∧H2 a=some (.ins C dx fs)∧Cls K C∧NoAttr K C f∧fs.length<1000 ∧
 D.nx σ (upd H2 a (.ins C dx (putF f y fs)))
section
variable {X:Cx}{o e value:Expr}{f:Str}{pos pos' tpos:Pos}{ta tv:TE}
theorem Bu(he:PE X e ta)(hb:attributeBase e f X.env (eval e X.env)=eval e X.env):PE X (.Attribute e f pos) (tFld X.K ta f):=by
 intro pins s σ H Q I h
 refine Kx hb (thn (he pins s σ H _ I h) ?_)
 rintro u s1 ⟨x,H1,I1,rx,a,C,dx,fs,v,ex,ea,c,n,l,q⟩
 subst ex
 obtain rfl:u=Value.ref a:=rx
 exact Dc I1 ea c n l fun u' s2 I2 ru=>⟨v,H1,I2,ru,q⟩
theorem Y3(ha:PE X o ta)(hv:PE X value tv)(hs:swapsWith value (some (.Attribute o f pos')) pos.line X.env=pure false):PS X (.Assign [.Attribute o f pos'] value pos) (sFld X.K ta tv f):=by
 intro pins s σ H D I h
 refine plainObj_wpAny_Assign_Attribute (thn (hv pins s σ H _ I h) fun u s1 hZ=>hZ.elim fun y hZ=>hZ.elim fun H1 hZ=>hZ.elim fun I1 hZ=>hZ.elim fun ry q=>thn (ha pins s1 σ H1 _ I1 q) fun ov s2 hZ=>hZ.elim fun x hZ=>hZ.elim fun H2 hZ=>hZ.elim fun I2 hZ=>hZ.elim fun rx hZ=>hZ.elim fun a hZ=>hZ.elim fun C hZ=>hZ.elim fun dx hZ=>hZ.elim fun fs hZ=>hZ.elim fun ex hZ=>hZ.elim fun ea hZ=>hZ.elim fun c hZ=>hZ.elim fun n hZ=>hZ.elim fun l q2=>?_) hs
 subst ex
 obtain rfl:ov=Value.ref a:=rx
 exact Dd I2 ea c n l ry fun s3 I3=>⟨σ,_,I3,q2⟩
end
section
variable {X:Cx}{pins:List (Addr×Obj)}{σ:St}{H:Hp}{s:Shared}{A:Around}{E:Value→Shared→Prop}{Q:Value→Shared→Prop}{c:Value}{b:Bool}
inductive TyOf (K:PySem.W.Frag) (H:Hp):V→Value→Prop where
 | non:TyOf K H .non (.type "NoneType")
 | bl (x:Bool):TyOf K H (.bl x) (.type "bool")
 | int (i:Int):TyOf K H (.int i) (.type "int")
 | str (x:Str):TyOf K H (.str x) (.type "str")
 | flt (x:UInt64):TyOf K H (.flt x) (.type "float")
 | lst {a:Addr} {xs:List V} (e:H a=some (.lst xs)):TyOf K H (.ref a) (.type "list")
 | frz {a:Addr} {o:Obj} {xs:List V} (e:H a=some (.frz o (.lst xs))):TyOf K H (.ref a) (.type "list")
 | tup {a:Addr} {xs:List V} (e:H a=some (.tup xs)):TyOf K H (.ref a) (.type "tuple")
 | dK {a:Addr} {kvs:List (Key×V)} (e:H a=some (.dK kvs)):TyOf K H (.ref a) (.type "dict")
 | dT {a:Addr} {kvs:List (List Key×V)} (e:H a=some (.dT kvs)):TyOf K H (.ref a) (.type "dict")
 | ins {a C dx:Addr} {fs:List (Str×V)} (e:H a=some (.ins C dx fs)) (cl:Cls K C) (ha:PySem.W.findIn K (.ref C) "__class__" = some (some (.builtin "object.__class__")))
  (hn:PySem.W.specialIn K (.builtin "object.__class__") "__get__" = some (some (.builtin "getset_descriptor.__get__"))) (htk:PySem.W.takesIn K (.builtin "object.__class__")=some true)
  (hm:PySem.W.mroIn K C (.type "object")=some true):TyOf K H (.ref a) (.ref C)
theorem D9{x:V}{u t:Value}(I:Inv X pins σ H s)(rx:RelV x u)(ty:TyOf X.K H x t)(e:PySem.W.kitOne X.K t c=some b)(h:∀ tk,Q (.bool b) { s with toks:=tk }):
  wpAny (model X.prog X.w) A (call (.builtin "isinstance") [u,c]) Q E s:=by
 cases ty with
 | non=>cases (show u=Value.none from rx);exact PySem.W.kia_one PySem.W.kitx_none I.kIn True.intro e (fun z=>nomatch z) h
 | bl y=>cases (show u=Value.bool y from rx);exact PySem.W.kia_one PySem.W.kitx_bool I.kIn True.intro e (fun z=>nomatch z) h
 | int i=>obtain⟨t,q⟩:=(show ∃ t,u=Value.int i t from rx);cases q;exact PySem.W.kia_one PySem.W.kitx_int I.kIn True.intro e (fun z=>nomatch z) h
 | str y=>obtain⟨t,q⟩:=(show ∃ t,u=Value.str y t from rx);cases q;exact PySem.W.kia_one PySem.W.kitx_str I.kIn True.intro e (fun z=>nomatch z) h
 | flt y=>obtain⟨t,q⟩:=(show ∃ t,u=Value.float y t from rx);cases q;exact PySem.W.kia_one PySem.W.kitx_float I.kIn True.intro e (fun z=>nomatch z) h
 | @lst a xs ea =>
  cases (show u=Value.ref a from rx)
  obtain⟨_,_,n,_,h1⟩:=(show ObjOk X.prog X.w H s.heap a (.lst xs)from I.hok a _ ea)
  exact PySem.W.kia_one PySem.W.kitx_list I.kIn ⟨_,h1,rfl⟩ e (fun z=>nomatch z) h
 | @frz a ob xs ea =>
  cases (show u=Value.ref a from rx)
  obtain⟨_,_,_,n,_,h1⟩:=(show ObjOk X.prog X.w H s.heap a (.frz ob (.lst xs))from I.hok a _ ea)
  exact PySem.W.kia_one PySem.W.kitx_list I.kIn ⟨_,h1,rfl⟩ e (fun z=>nomatch z) h
 | @tup a xs ea =>
  cases (show u=Value.ref a from rx)
  obtain⟨_,_,_,p⟩:=(show ObjOk X.prog X.w H s.heap a (.tup xs)from I.hok a _ ea)
  obtain⟨o,h1,h2,_⟩:=p
  exact PySem.W.kia_one PySem.W.kitx_tuple I.kIn ⟨o,h1,h2⟩ e (fun z=>nomatch z) h
 | @dK a kvs ea =>
  cases (show u=Value.ref a from rx)
  obtain⟨_,_,vs,_,p⟩:=(show ObjOk X.prog X.w H s.heap a (.dK kvs)from I.hok a _ ea)
  obtain⟨o,es,ep,h1,h2,_⟩:=p
  exact PySem.W.kia_one PySem.W.kitx_dict I.kIn ⟨o,h1,h2.1⟩ e (fun z=>nomatch z) h
 | @dT a kvs ea =>
  cases (show u=Value.ref a from rx)
  obtain⟨_,_,xs,_,o,es,ep,h1,h2,_⟩:=(show ObjOk X.prog X.w H s.heap a (.dT kvs)from I.hok a _ ea)
  exact PySem.W.kia_one PySem.W.kitx_dict I.kIn ⟨o,h1,h2.1⟩ e (fun z=>nomatch z) h
 | @ins a C dx fs ea cl ha hn htk hm =>
  cases (show u=Value.ref a from rx)
  obtain⟨mA,O,_⟩:=W8 I.hok ea
  obtain⟨od,J,_⟩:=O.look
  exact PySem.W.kia_one (PySem.W.kitx_own (cl.get _) cl.hd ha hn htk hm) I.kIn J e (fun z=>nomatch z) h
end
end L2
namespace L2
open PySem PySem.Spec PyProof.Rows
structure Room(k:Nat)(A:Around):Prop where
 hd:A.handled=none
 dp:A.depth+3*k+5<recursionLimit
 un:A.units+16*k+200<cLine
theorem Room.mono{j k:Nat}{A:Around}(r:Room k A)(h:j≤k):Room j A:=⟨r.hd,by have:=r.dp;omega,by have:=r.un;omega⟩
theorem Room.deeper{k:Nat}{A:Around}(r:Room (k+1) A)(env:Env):Room k (A.deeper env) :=
 ⟨r.hd,by have:=r.dp;show A.depth+1+3*k+5<_;omega,by have:=r.un;show A.units+3+16*k+200<_;omega⟩
theorem Room.in1{k:Nat}{A:Around}(r:Room (k+1) A):Room k A.in1 :=
 ⟨r.hd,by have:=r.dp;show A.depth+3*k+5<_;omega,by have:=r.un;show A.units+1+16*k+200<_;omega⟩
theorem Dg{A:Around}{C:Addr}{us:List Value}{kw:List (Str×Value)}:(A.under (.builtin "type.__call__" ⟨.ref C::us,kw⟩)).depth=A.depth+1:=by
 first|rfl|simp[Around.under,Code.weight,Code.isCreation,Code.isGuard,Code.isCaller,Code.frames,Code.isFrame,guardIds]
theorem Di{A:Around}{C:Addr}{us:List Value}{kw:List (Str×Value)}:(A.under (.builtin "type.__call__" ⟨.ref C::us,kw⟩)).units=A.units+1:=by
 first|rfl|simp[Around.under,Code.cUnits,Code.frames,Code.isFrame]
theorem Room.make{k:Nat}{A:Around}(r:Room (k+1) A)(C:Addr)(us:List Value)(kw:List (Str×Value)):Room k (A.under (.builtin "type.__call__" ⟨.ref C::us,kw⟩)) :=
 ⟨r.hd,by have:=r.dp;rw[Dg];omega,by have:=r.un;rw[Di];omega⟩
theorem Room.depth{k:Nat}{A:Around}(r:Room k A):A.depth<recursionLimit:=by have:=r.dp;omega
theorem Room.units{k:Nat}{A:Around}(r:Room k A):A.units+64<cLine:=by have:=r.un;omega
def tNil:TA:=fun _ H Q=>Q [] H
def J1(ta:TE)(tr:TA):TA:=fun σ H Q=>ta σ H fun x H1=>tr σ H1 fun xs H2=>Q (x::xs) H2
section
variable {X:Cx}{e:Expr}{es:List Expr}{te:TE}{t:TA}{pos:Pos}
theorem B4:PA X [] tNil:=fun _ _ _ _ H Q I h=>Calls.spliced_nil ⟨[],H,I,.nil,h⟩
theorem u3(ha:PE X e te)(hr:PA X es t)(hs:starEach (e::es) X.env=(false,eval e X.env)::starEach es X.env:=by rfl):PA X (e::es) (J1 te t):=by
 intro pos pins s σ H Q I h
 rw[hs]
 show wpAny _ _ (spliced ((false,eval e X.env)::backTo pos (starEach es X.env))) _ _ s
 refine Calls.spliced_cons (thn (ha pins s σ H _ I h) ?_)
 rintro u s1 ⟨x,H1,I1,r1,q1⟩
 exact thn (hr pos pins s1 σ H1 _ I1 q1) fun us s2 hZ=>hZ.elim fun xs hZ=>hZ.elim fun H2 hZ=>hZ.elim fun I2 hZ=>hZ.elim fun r2 q2=>⟨x::xs,H2,I2,.cons r1 r2,q2⟩
def tTup(t:TA):TE:=fun σ H Q=>t σ H fun xs H1=>xs.length≤sizeLine∧∀ p,H1 p=none→Q (.ref p) (upd H1 p (.tup xs))
def tLst(t:TA):TE:=fun σ H Q=>t σ H fun xs H1=>xs.length≤sizeLine∧∀ p,H1 p=none→Q (.ref p) (upd H1 p (.lst xs))
theorem pe_tup{x1}(h:PA X es t):PE X (.Tuple es x1 pos) (tTup t):=by
 intro pins s σ H Q I hq
 refine wpAny_Tuple_spliced (thn (h pos pins s σ H _ I hq) fun us s1 hZ=>hZ.elim fun xs hZ=>hZ.elim fun H1 hZ=>hZ.elim fun I1 hZ=>hZ.elim fun r hZ=>hZ.elim fun z q=>⟨by rw[←r.length];exact z,?_⟩)
 have hf:H1 s1.heap.objs.size=none:=I1.hok.fresh (Nat.le_refl _)
 refine⟨.ref s1.heap.objs.size,upd H1 s1.heap.objs.size (.tup xs),I1.laid (t':=s1.toks) (fun b u e=>Heap.get?_push_of_some _ e) (Nat.le_refl _) ?_,rfl,q _ hf⟩
 exact⟨z,us,r,⟨_,Heap.get?_push_size _ rfl,rfl,_,rfl⟩⟩
theorem Bv(h:PA X es t):PE X (.List es pos) (tLst t):=by
 intro pins s σ H Q I hq
 refine wpAny_List_spliced (thn (h pos pins s σ H _ I hq) fun us s1 hZ=>hZ.elim fun xs hZ=>hZ.elim fun H1 hZ=>hZ.elim fun I1 hZ=>hZ.elim fun r hZ=>hZ.elim fun z q=>⟨by rw[←r.length];exact z,?_⟩)
 have hf:H1 s1.heap.objs.size=none:=I1.hok.fresh (Nat.le_refl _)
 refine⟨.ref s1.heap.objs.size,upd H1 s1.heap.objs.size (.lst xs),I1.laid (t':=s1.toks) (fun b u e=>Heap.get?_push_of_some _ e) (Nat.le_refl _) ?_,rfl,q _ hf⟩
 exact⟨z,us,0,r,Heap.get?_push_size _ rfl⟩
end
abbrev Sp:=List V→Hp→VK→XK→Prop
abbrev CXT:=List Env→Hp→Shared→XK→Value→Shared→Prop
structure Env0(P:Program)(w:World)(K:PySem.W.Frag)(mg:Str→Option Value)(base:Heap)(A:Around)(outer:List Env)(s:Shared)(H:Hp):Prop where
 frames:A.frames=some outer
 mod:Mod K mg base
 bs:∀ b o,base.get? b=some o→s.heap.get? b=some o∧H b=none
 bsz:base.objs.size≤s.heap.objs.size
 funs:s.heap.FunFrames base outer
 frf:∀ b∈frs outer,H b=none
 hok:HOk P w H s.heap
 bare:AllBare s.gens
def CE(outer:List Env)(P:Program)(w:World)(H:Hp)(s:Shared)(Q:VK)(u:Value)(s':Shared):Prop :=
 ∃ v H',s'.os=s.os∧AllBare s'.gens∧Un (frs outer) [] H H' s.heap s'.heap∧HOk P w H' s'.heap∧RelV v u∧Q v H'
def CR(CX:CXT)(outer:List Env)(P:Program)(w:World)(H:Hp)(s:Shared)(Q:VK)(E:XK)(r:Result)(s':Shared):Prop :=
 match r with
 | .ok (.ret u)=>CE outer P w H s Q u s'
 | .ok _=>False
 | .error e=>CX outer H s E e s'
structure FnOk(P:Program)(w:World)(K:PySem.W.Frag)(mg:Str→Option Value)(base:Heap)(CX:CXT)(k:Nat)(f:Addr)(fd:FuncData)(ps:List Str)(sp:Sp):Prop where
 len:∀ vs H Q E,sp vs H Q E→vs.length=ps.length
 run:∀(A:Around) (outer:List Env) (s:Shared) (H:Hp) (args:Args) (us:List Value) (vs:List V) (Q:VK) (E:XK),Room k A→Env0 P w K mg base A outer s H→BindsTo s fd args (ps.zip us)→Vals vs us→sp vs H Q E →
  codeAny (model P w) A (.call (.ref f) args) (CR CX outer P w H s Q E) s
theorem FnOk.mono{P:Program}{w:World}{K:PySem.W.Frag}{mg:Str→Option Value}{base:Heap}{CX:CXT}{j k:Nat}{f:Addr}{fd:FuncData}{ps:List Str}{sp:Sp}(F:FnOk P w K mg base CX j f fd ps sp)(h:j≤k):
 FnOk P w K mg base CX k f fd ps sp:=⟨F.len,fun A outer s H args us vs Q E hr=>F.run A outer s H args us vs Q E (hr.mono h)⟩
theorem FnOk.imp{P:Program}{w:World}{K:PySem.W.Frag}{mg:Str→Option Value}{base:Heap}{CX:CXT}{k:Nat}{f:Addr}{fd:FuncData}{ps:List Str}{sp sp':Sp}(F:FnOk P w K mg base CX k f fd ps sp)
  (h:∀ vs H Q E,sp' vs H Q E→sp vs H Q E):FnOk P w K mg base CX k f fd ps sp' :=
 ⟨fun vs H Q E q=>F.len vs H Q E (h _ _ _ _ q),fun A outer s H args us vs Q E hr he hb hv hs=>F.run A outer s H args us vs Q E hr he hb hv (h _ _ _ _ hs)⟩
theorem Env0.make{P:Program}{w:World}{K:PySem.W.Frag}{mg:Str→Option Value}{base:Heap}{A:Around}{outer:List Env}{s:Shared}{H:Hp}(e:Env0 P w K mg base A outer s H)(C:Addr)(us:List Value)(kw:List (Str×Value)):
 Env0 P w K mg base (A.under (.builtin "type.__call__" ⟨.ref C::us,kw⟩)) outer s H:=⟨by first|exact e.frames|(simpa[Around.under,Code.envs,Code.isFrame,pushEnvs]using e.frames),e.mod,e.bs,e.bsz,e.funs,e.frf,e.hok,e.bare⟩
theorem Env0.in1{P:Program}{w:World}{K:PySem.W.Frag}{mg:Str→Option Value}{base:Heap}{A:Around}{outer:List Env}{s:Shared}{H:Hp}(e:Env0 P w K mg base A outer s H):
 Env0 P w K mg base A.in1 outer s H:=⟨e.frames,e.mod,e.bs,e.bsz,e.funs,e.frf,e.hok,e.bare⟩
section
variable {X:Cx}{pins:List (Addr×Obj)}{σ:St}{H:Hp}{s s':Shared}
theorem Inv.env0(I:Inv X pins σ H s):Env0 X.prog X.w X.K X.mg X.base X.A X.stack s H :=
 ⟨I.ok.frames,I.ok.mod,I.bs,Nat.le_trans I.ok.bsz I.sz,I.stack,I.stkFree,I.hok,I.bare⟩
theorem Inv.after{Q:VK}{u:Value}(I:Inv X pins σ H s)(h:CE X.stack X.prog X.w H s Q u s'):EP X pins σ Q u s':=by
 obtain⟨v,H',os,bare,un,hok,r,q⟩:=h
 obtain⟨hh,g,d,t,os'⟩:=s'
 obtain rfl:os'=s.os:=os
 exact⟨v,H',I.call (h':=hh) (g':=g) (d':=d) (t':=t) (ch:=[]) un hok bare (fun b z=>absurd z (by simp)),r,q⟩
end
def Fy(sp:Sp)(dvs:List V)(E:XK)(t:TA):TE:=fun σ H Q=>t σ H fun vs H1=>sp (vs++dvs) H1 Q E
def Y4(C:Addr)(m:Str)(sp:Sp)(dvs:List V)(E:XK)(ta:TE)(t:TA):TE:=fun σ H Q=>ta σ H fun x H1=>∃ a dx fs,x = .ref a∧H1 a=some (.ins C dx fs)∧fs.lookup m=none ∧
 t σ H1 fun vs H2=>sp (x::(vs++dvs)) H2 Q E
def tMake(C:Addr)(sp:Sp)(dvs:List V)(E:XK)(t:TA):TE:=fun σ H Q=>t σ H fun vs H1=>∀ x dx,H1 x=none→H1 dx=none→dx≠x →
 sp (.ref x::(vs++dvs)) (upd (upd H1 dx (.own x)) x (.ins C dx [])) (fun v H2=>v = .non∧Q (.ref x) H2) E
def Binds(K:PySem.W.Frag)(fd:FuncData)(ps:List Str)(ds:List Value):Prop :=
 ∀(s:Shared) (us:List Value),K.In s.heap→(us++ds).length=ps.length→BindsTo s fd ⟨us,[]⟩ (ps.zip (us++ds))
theorem Binds.all{K:PySem.W.Frag}{fd:FuncData}{ps:List Str}(h:∀ us:List Value,us.length=ps.length→bindArgs fd ⟨us,[]⟩=pure (ps.zip us)):Binds K fd ps []:=fun s us _ hl=>by
 rw[List.append_nil]at hl ⊢
 exact .of_eq (h us hl)
def B5(CX:CXT)(X:Cx)(E:XK):Prop:=∀(pins:List (Addr×Obj)) (σ:St) (H:Hp) (s:Shared) (e:Value) (s':Shared),Inv X pins σ H s→CX X.stack H s E e s'→X.xe e s'
section
variable {X:Cx}{CX:CXT}{k:Nat}{f C:Addr}{fd:FuncData}{ps:List Str}{sp:Sp}{dvs:List V}{ds:List Value}{E:XK}{x m:Str}{p pos apos:Pos}{e o:Expr}{es:List Expr}{ta:TE}{t:TA}
theorem run_fn{pins:List (Addr×Obj)}{σ:St}{H:Hp}{s:Shared}{Q:VK}{us:List Value}{vs:List V}(F:FnOk X.prog X.w X.K X.mg X.base CX k f fd ps sp)(hr:Room k X.A)(hb:Binds X.K fd ps ds)(hd:Vals dvs ds)(hx:B5 CX X E)
  (I:Inv X pins σ H s) (r:Vals vs us) (h:sp (vs++dvs) H Q E):wpAny (model X.prog X.w) X.A (call (.ref f) us) (EP X pins σ Q) X.xe s:=by
 have r2:Vals (vs++dvs) (us++ds):=r.append hd
 have hl:(us++ds).length=ps.length:=by rw[←r2.length];exact F.len _ _ _ _ h
 refine wpAny_call (codeAny_mono (F.run X.A X.stack s H ⟨us,[]⟩ (us++ds) (vs++dvs) Q E hr I.env0 (hb s us I.kIn hl) r2 h) fun r s' hq=>?_)
 cases r with
 | error e=>exact hx pins σ H s e s' I hq
 | ok fl =>
  cases fl with
  | ret u=>exact I.after hq
  | next=>exact False.elim hq
  | brk=>exact False.elim hq
  | cont=>exact False.elim hq
theorem Q5(F:FnOk X.prog X.w X.K X.mg X.base CX k f fd ps sp)(hr:Room k X.A)(hg:Gl X x)(hm:X.mg x=some (.ref f))(hk:PySem.W.keepIn X.K (.ref f)=true)(hb:Binds X.K fd ps ds)(hd:Vals dvs ds)(hx:B5 CX X E)
  (ha:PA X (e::es) t) (hdb:(x==("__debug__" : Str))=false:=by decide) (he:starEach (e::es) X.env=(false,eval e X.env)::starEach es X.env:=by rfl) (hpl:(backTo pos (starEach es X.env)).any (·.1)=false:=by rfl) :
  PE X (.Call (.Name x p) (e::es) [] pos) (Fy sp dvs E t):=by
 intro pins s σ H Q I h
 refine wpAny_Call_Name_kw (M0 I hg hm ?_ hdb)
 refine PySem.W.callWith_K (h₀:=X.base) I.ok.mod.kin hk (thn (ha pos pins s σ H _ I h) fun us s1 hZ=>hZ.elim fun vs hZ=>hZ.elim fun H1 hZ=>hZ.elim fun I1 hZ=>hZ.elim fun r q=>⟨I1.kIn,?_⟩) he hpl
 exact run_fn F hr hb hd hx I1 r q
theorem M1{pl:Sem Bool}(he:PE X o ta)(c:Cls X.K C)(hm:Meth X.K C m f)(F:FnOk X.prog X.w X.K X.mg X.base CX k f fd ps sp)(hr:Room k X.A)(hb:Binds X.K fd ps ds)(hd:Vals dvs ds)(hx:B5 CX X E)(ha:PA X (e::es) t)
  (hst:starEach (e::es) X.env=(false,eval e X.env)::starEach es X.env:=by rfl) (hpl:(backTo pos (starEach es X.env)).any (·.1)=false:=by rfl)
  (ht:eval (.Call (.Attribute o m apos) (e::es) [] pos) X.env=(do
   let ov ←eval o X.env
   standAt apos.atName
   let (f,first) ←holding [ov] (getMethod ov m pl)
   callWith pos f first (backTo pos (starEach (e::es) X.env)) (backToKw pos (keywordEach [] X.env))):=by rfl) :
  PE X (.Call (.Attribute o m apos) (e::es) [] pos) (Y4 C m sp dvs E ta t):=by
 intro pins s σ H Q I h
 refine PySem.W.methodCall_KW (pl:=pl) (thn (he pins s σ H _ I h) fun u s1 hZ=>hZ.elim fun x hZ=>hZ.elim fun H1 hZ=>hZ.elim fun I1 hZ=>hZ.elim fun rx hZ=>hZ.elim fun a hZ=>hZ.elim fun dx hZ=>hZ.elim fun fs hZ=>hZ.elim fun ex hZ=>hZ.elim fun ea hZ=>hZ.elim fun l q=>?_) ht
 subst ex
 obtain rfl:u=Value.ref a:=rx
 refine Y2 I1 ea c hm l ?_
 refine PySem.W.callWith_K (first:=[.ref a]) (h₀:=X.base) I.ok.mod.kin hm.kp (thn (ha pos pins s1 σ H1 _ I1 q) fun us s2 hZ=>hZ.elim fun vs hZ=>hZ.elim fun H2 hZ=>hZ.elim fun I2 hZ=>hZ.elim fun r q2=>⟨I2.kIn,?_⟩) hst hpl
 exact run_fn (us := .ref a::us) (vs := .ref a::vs) F hr hb hd hx I2 (.cons rfl r) q2
theorem Y5{pl:Sem Bool}(he:PE X o ta)(c:Cls X.K C)(hm:Meth X.K C m f)(F:FnOk X.prog X.w X.K X.mg X.base CX k f fd ps sp)(hr:Room k X.A)(hb:Binds X.K fd ps ds)(hd:Vals dvs ds)(hx:B5 CX X E)
  (ht:eval (.Call (.Attribute o m apos) [] [] pos) X.env=(do
   let ov ←eval o X.env
   standAt apos.atName
   let (f,first) ←holding [ov] (getMethod ov m pl)
   callWith pos f first (backTo pos (starEach [] X.env)) (backToKw pos (keywordEach [] X.env))):=by rfl) :
  PE X (.Call (.Attribute o m apos) [] [] pos) (Y4 C m sp dvs E ta tNil):=by
 intro pins s σ H Q I h
 refine PySem.W.methodCall_KW (pl:=pl) (thn (he pins s σ H _ I h) fun u s1 hZ=>hZ.elim fun x hZ=>hZ.elim fun H1 hZ=>hZ.elim fun I1 hZ=>hZ.elim fun rx hZ=>hZ.elim fun a hZ=>hZ.elim fun dx hZ=>hZ.elim fun fs hZ=>hZ.elim fun ex hZ=>hZ.elim fun ea hZ=>hZ.elim fun l q=>?_) ht
 subst ex
 obtain rfl:u=Value.ref a:=rx
 refine Y2 I1 ea c hm l ?_
 exact PySem.W.callWith_K0 (first:=[.ref a]) I1.kIn hm.kp (run_fn (us:=[.ref a]) (vs:=[.ref a]) F hr hb hd hx I1 (.cons rfl .nil) q)
structure Mk(K:PySem.W.Frag)(C f:Addr):Prop where
 makes:PySem.W.makesIn K C=true
 init:PySem.W.findIn K (.ref C) "__init__" = some (some (.ref f))
 fn:PySem.W.isFn K (.ref f)=true
 kp:PySem.W.keepIn K (.ref C)=true
theorem run_make{pins:List (Addr×Obj)}{σ:St}{H:Hp}{s:Shared}{Q:VK}{us:List Value}{vs:List V}(M:Mk X.K C f)(F:FnOk X.prog X.w X.K X.mg X.base CX k f fd ps sp)(hr:Room (k+1) X.A)(hb:Binds X.K fd ps ds)(hd:Vals dvs ds)
  (hx:B5 CX X E) (I:Inv X pins σ H s) (r:Vals vs us)
  (h:∀ x dx,H x=none→H dx=none→dx≠x→sp (.ref x::(vs++dvs)) (upd (upd H dx (.own x)) x (.ins C dx [])) (fun v H2=>v = .non∧Q (.ref x) H2) E) :
  wpAny (model X.prog X.w) X.A (call (.ref C) us) (EP X pins σ Q) X.xe s:=by
 have hq:=h (s.heap.objs.size+1) s.heap.objs.size (I.hok.fresh (Nat.le_succ _)) (I.hok.fresh (Nat.le_refl _)) (Nat.ne_of_lt (Nat.lt_succ_self _))
 have I2:=Inv.made (C:=C) I
 have r2:Vals (V.ref (s.heap.objs.size+1)::(vs++dvs)) (Value.ref (s.heap.objs.size+1)::(us++ds)) := .cons rfl (r.append hd)
 have hl:(Value.ref (s.heap.objs.size+1)::us++ds).length=ps.length:=by
  have e:=r2.length
  rw[F.len _ _ _ _ hq]at e
  exact e.symm
 refine wpAny_call (Hn (f:=f) I.kIn M.makes M.init (beq_iff_eq.mp M.fn) (codeAny_mono (F.run _ X.stack _ _ ⟨Value.ref (s.heap.objs.size+1)::us,[]⟩ (Value.ref (s.heap.objs.size+1)::(us++ds)) _ _ E (hr.make C us [])
  (I2.env0.make C us []) (hb _ (Value.ref (s.heap.objs.size+1)::us) I2.kIn hl) r2 hq) fun r s' hq'=>?_))
 cases r with
 | error e=>exact hx pins σ _ _ e s' I2 hq'
 | ok fl =>
  cases fl with
  | ret u =>
   obtain⟨v,H',I3,rv,ev,q3⟩:=I2.after hq'
   subst ev
   exact⟨rv,⟨V.ref (s.heap.objs.size+1),H',I3,rfl,q3⟩⟩
  | next=>exact False.elim hq'
  | brk=>exact False.elim hq'
  | cont=>exact False.elim hq'
theorem Kz(M:Mk X.K C f)(F:FnOk X.prog X.w X.K X.mg X.base CX k f fd ps sp)(hr:Room (k+1) X.A)(hg:Gl X x)(hm:X.mg x=some (.ref C))(hb:Binds X.K fd ps ds)(hd:Vals dvs ds)(hx:B5 CX X E)
  (ha:PA X (e::es) t) (hdb:(x==("__debug__" : Str))=false:=by decide) (he:starEach (e::es) X.env=(false,eval e X.env)::starEach es X.env:=by rfl) (hpl:(backTo pos (starEach es X.env)).any (·.1)=false:=by rfl) :
  PE X (.Call (.Name x p) (e::es) [] pos) (tMake C sp dvs E t):=by
 intro pins s σ H Q I h
 refine wpAny_Call_Name_kw (M0 I hg hm ?_ hdb)
 refine PySem.W.callWith_K (h₀:=X.base) I.ok.mod.kin M.kp (thn (ha pos pins s σ H _ I h) fun us s1 hZ=>hZ.elim fun vs hZ=>hZ.elim fun H1 hZ=>hZ.elim fun I1 hZ=>hZ.elim fun r q=>⟨I1.kIn,?_⟩) he hpl
 exact run_make M F hr hb hd hx I1 r q
end
section
variable {X:Cx}{CX:CXT}{k:Nat}{f C:Addr}{fd:FuncData}{ps ks:List Str}{sp:Sp}{E:XK}{x m:Str}{p pos apos kpos:Pos}{e o:Expr}{es:List Expr}{kws:List Keyword}{te ta:TE}{t tk:TA}{nm:Option Str}
variable {g:List Value→List Value→List Value}{gV:List V→List V→List V}
end
structure FnScope(N P:List Str)(sc:Scope):Prop where
 kind:sc.kind = .function
 co:sc.isCoroutine=false
 gen:sc.isGenerator=false
 nd:N.Nodup
 pre:N.take P.length=P
 par:∀ x∈P,sc.names.lookup x=some .local∨sc.names.lookup x=some .cell
 nofree:∀ y∈sc.names,y.2 ≠ .free
theorem AL{kindOf:Str→Option NameKind}{x:Str}:∀{binds:List (Str×Value)} {m:Str→Option Value},(∀ v,(x,v) ∉ binds)→bindL kindOf binds m x=m x
 | [],_,_=>rfl
 | (n,v)::r,m,h=>by
  unfold bindL
  rw[AL fun w hw=>h w (List.mem_cons_of_mem _ hw)]
  split
  · have:x≠n:=by rintro rfl;exact h v List.mem_cons_self
    simp[this]
  · rfl
theorem AM{kindOf:Str→Option NameKind}{x:Str}:∀{binds:List (Str×Value)} {m:Str→Option Value},(∀ v,(x,v) ∉ binds)→bindC kindOf binds m x=m x
 | [],_,_=>rfl
 | (n,v)::r,m,h=>by
  unfold bindC
  rw[AM fun w hw=>h w (List.mem_cons_of_mem _ hw)]
  split
  · rfl
  · have:x≠n:=by rintro rfl;exact h v List.mem_cons_self
    simp[this]
theorem AN{kindOf:Str→Option NameKind}{x:Str}{v:Value}:∀{P:List Str} {vs:List Value} {i:Nat} {m:Str→Option Value},P.Nodup→P[i]?=some x→vs[i]?=some v→kindOf x=some .local →
  bindL kindOf (P.zip vs) m x=some v
 | [],_,_,_,_,h,_,_=>by simp at h
 | _::_,[],_,_,_,_,h,_=>by simp at h
 | p::P,w::vs,0,m,nd,h1,h2,hk=>by
  simp at h1 h2;subst h1;subst h2
  show bindL kindOf ((p,w)::P.zip vs) m p=_
  unfold bindL
  rw[AL fun v hv=>(List.nodup_cons.mp nd).1 (List.of_mem_zip hv).1,if_pos hk]
  simp
 | p::P,w::vs,i+1,m,nd,h1,h2,hk=>by
  show bindL kindOf ((p,w)::P.zip vs) m x=_
  unfold bindL
  exact AN (i:=i) (List.nodup_cons.mp nd).2 (by simpa using h1) (by simpa using h2) hk
theorem AO{kindOf:Str→Option NameKind}{x:Str}{v:Value}:∀{P:List Str} {vs:List Value} {i:Nat} {m:Str→Option Value},P.Nodup→P[i]?=some x→vs[i]?=some v→kindOf x≠some .local →
  bindC kindOf (P.zip vs) m x=some v
 | [],_,_,_,_,h,_,_=>by simp at h
 | _::_,[],_,_,_,_,h,_=>by simp at h
 | p::P,w::vs,0,m,nd,h1,h2,hk=>by
  simp at h1 h2;subst h1;subst h2
  show bindC kindOf ((p,w)::P.zip vs) m p=_
  unfold bindC
  rw[AM fun v hv=>(List.nodup_cons.mp nd).1 (List.of_mem_zip hv).1,if_neg hk]
  simp
 | p::P,w::vs,i+1,m,nd,h1,h2,hk=>by
  show bindC kindOf ((p,w)::P.zip vs) m x=_
  unfold bindC
  exact AO (i:=i) (List.nodup_cons.mp nd).2 (by simpa using h1) (by simpa using h2) hk
def start(N:List Str)(vs:List V):St:=vs.map some++List.replicate (N.length-vs.length) none
def cxOf(CX:CXT)(P:Program)(w:World)(K:PySem.W.Frag)(mg:Str→Option Value)(base:Heap)(N:List Str)(qual:Str)(scope:Scope)(f:Addr)(cd:Value)(A:Around)(outer:List Env)(s:Shared)(H:Hp)(E:XK):Cx where
 prog:=P
 w:=w
 K:=K
 mg:=mg
 base:=base
 A:=A.deeper (envOfC qual scope s.heap.objs.size f cd)
 N:=N
 s₀:=s
 H₀:=H
 env:=envOfC qual scope s.heap.objs.size f cd
 outer:=outer
 stack:=envOfC qual scope s.heap.objs.size f cd::outer
 ex:=[]
 calm:=true
 fn:=fun _=>true
 pn:=[]
 xe:=fun e s'=>wpAny (model P w) (A.deeper (envOfC qual scope s.heap.objs.size f cd)) (leaving (envOfC qual scope s.heap.objs.size f cd) e) (fun _ s''=>CX outer H s E e s'') (fun e' s''=>CX outer H s E e' s'') s'
theorem Cp{sc:Scope}{n:Nat}{x:Str}(h:sc.names.lookup x=some .cell):∃ c,(cellsFrom n sc.names []).lookup x=some c:=by
 have q:=PySem.W.cellsFrom_some sc.names n [] (.inl h)
 exact Option.isSome_iff_exists.mp q
theorem GH{CX:CXT}{P:Program}{w:World}{K:PySem.W.Frag}{mg:Str→Option Value}{base:Heap}{N ps:List Str}{qual:Str}{scope:Scope}{f:Addr}{cd:Value}{A:Around}{outer:List Env}{s s1:Shared}{H:Hp}{E:XK}{us:List Value}{vs:List V}
   (S:FnScope N ps scope) (hd:A.handled=none) (e0:Env0 P w K mg base A outer s H) (hl:vs.length=ps.length) (r:Vals vs us)
   (x:InCallC s s.heap.objs.size (bindL (envOfC qual scope s.heap.objs.size f cd).kindOf (ps.zip us) fun _=>none) (cellsFrom (s.heap.objs.size+1) scope.names []) (bindC (envOfC qual scope s.heap.objs.size f cd).kindOf (ps.zip us) fun _=>none) s1) :
   Inv (cxOf CX P w K mg base N qual scope f cd A outer s H E) [] (start N vs) H s1:=by
 have hpl:ps.length≤N.length:=by have:=congrArg List.length S.pre;rw[List.length_take]at this;omega
 obtain⟨h1,tk,rfl,hk⟩:=x.done
 have noA:∀ b:Addr,b ∉ (cxOf CX P w K mg base N qual scope f cd A outer s H E).ex:=fun b z=>absurd (show b∈([]:List Addr)from z) (by simp)
 refine⟨⟨e0.mod,S.kind,rfl,rfl,Nat.le_refl _,fun y z c h1 h2=>?_,fun y hy=>?_,fun y c _ h=>?_,fun _=>hd,Around.frames_deeper e0.frames,.inr ⟨rfl,rfl⟩,fun b z=>absurd z (noA b),e0.bs,e0.bsz,fun b _ _=>noA b,fun b z=>absurd z (noA b),e0.funs,e0.frf⟩,
   rfl,e0.bare,Un.kept hk,⟨_,x.toInCall.ns,fun i y v h1 h2 h3=>?_⟩,fun y c h=>⟨_,x.cell y c h⟩,e0.hok.fresh (Nat.le_refl _),fun y c h=>?_,fun p hp=>absurd (show p∈([]:List (Addr×Obj))from hp) (by simp),e0.hok.kept hk,?_⟩
 · exact name_of_addr x.apart (PySem.mem_of_lookup h1) (PySem.mem_of_lookup h2)
 · have hy:scope.names.lookup y=some .cell∨scope.names.lookup y=some .free:=hy
   rcases hy with hy|hy
   · exact Cp hy
   · exact absurd rfl (S.nofree _ (PySem.mem_of_lookup hy))
 · exact Nat.le_of_lt (x.above y c (PySem.mem_of_lookup h))
 · have hi:i<vs.length:=by
     unfold start at h2
     by_cases hi:i<vs.length
     · exact hi
     · rw[List.getElem?_append_right (by simpa using hi)]at h2
       rw[List.getElem?_replicate]at h2
       split at h2<;>cases h2
   have ha:vs[i]?=some v:=by
     unfold start at h2
     rw[List.getElem?_append_left (by simpa using hi),List.getElem?_map]at h2
     cases e:vs[i]? with
     | none=>rw[e]at h2;cases h2
     | some a=>rw[e]at h2;cases h2;rfl
   obtain⟨u,hu,rv⟩:=r.get ha
   have hp:ps[i]?=some y:=by
     rw[←S.pre,List.getElem?_take_of_lt (by omega)];exact h1
   have ndP:ps.Nodup:=by rw[←S.pre];exact S.nd.sublist (List.take_sublist _ _)
   refine⟨u,rv,?_⟩
   rcases S.par y (List.mem_of_getElem? hp)with k|k
   · exact .inl ⟨k,AN ndP hp hu k⟩
   · obtain⟨c,e⟩:=Cp (n:=s.heap.objs.size+1) k
     refine .inr ⟨.inl k,c,e,?_⟩
     have q:=x.cell y c e
     rw[AO ndP hp hu (by show scope.names.lookup y≠_;rw[k];decide)]at q
     exact q
 · exact e0.hok.fresh (Nat.le_of_lt (x.above y c (PySem.mem_of_lookup h)))
 · unfold start
   show _=N.length
   rw[List.length_append,List.length_map,List.length_replicate]
   omega
theorem N8{CX:CXT}{P:Program}{w:World}{K:PySem.W.Frag}{mg:Str→Option Value}{base:Heap}{k:Nat}{f:Addr}{name qual:Str}{params:Arguments}{body:List Stmt}{scope:Scope}{dV kV doc pm cdv ct oc:Value}{an od:Option Addr}
  {osl:Array (Option Value)} {N ps:List Str} {sp:Sp} (lk:K.lookup f=some ⟨oc,od,.func (PySem.W.fnOf name qual params body scope dV kV doc pm an cdv ct),osl⟩) (hcd:PySem.W.codeIn K cdv qual=true) (S:FnScope N ps scope)
  (len:∀ vs H Q E,sp vs H Q E→vs.length=ps.length)
  (hbody:∀(A:Around) (outer:List Env) (s:Shared) (H:Hp) (vs:List V) (Q:VK) (E:XK),Room k (A.deeper (envOfC qual scope s.heap.objs.size f cdv))→sp vs H Q E →
    ∃ t,PSs (cxOf CX P w K mg base N qual scope f cdv A outer s H E) body t∧t { nx:=fun _ H'=>Q .non H',rt:=Q } (start N vs) H) :
  FnOk P w K mg base CX (k+1) f (PySem.W.fnOf name qual params body scope dV kV doc pm an cdv ct) ps sp:=by
 refine⟨len,fun A outer s H args us vs Q E hr e0 hb r hsp=>?_⟩
 have hl:=len _ _ _ _ hsp
 have KX:K.In s.heap:=e0.mod.kin.keeps fun b o e=>(e0.bs b o e).1
 have lim:s.heap.NoLimit:=e0.mod.nolimit.keeps fun b o e=>(e0.bs b o e).1
 have hkind:∀ y∈ps.zip us,scope.names.lookup y.1=some .local∨(scope.names.lookup y.1=some .cell∧((cellsFrom (s.heap.objs.size+1) scope.names []).lookup y.1).isSome=true):=fun⟨n,v⟩ hy=>by
  rcases S.par n (List.of_mem_zip hy).1 with q|q
  · exact .inl q
  · exact .inr ⟨q,PySem.W.cellsFrom_some _ _ _ (.inl q)⟩
 refine codeAny_call_function hr.depth (KX _ _ lk) rfl S.co S.gen rfl (PySem.W.codeRec_of KX hcd) (hb _ _ _ _ ?_)
 refine wpAny_newFunctionEnv_cells S.kind hkind fun env he s1 x=>?_
 subst he
 refine⟨lim.keeps x.toInCall.keep,codeAny_func ?_⟩
 obtain⟨t,ht,hq⟩:=hbody A outer s H vs Q E (hr.deeper _) hsp
 have I:Inv (cxOf CX P w K mg base N qual scope f cdv A outer s H E) [] (start N vs) H s1:=GH S hr.hd e0 hl r x
 refine wpAny_mono (ht [] s1 (start N vs) H _ I hq) (fun fl s' hs=>?_) fun e s' hs=>hs
 have fin:∀{σ':St} {H':Hp} {v:V} {u:Value},Inv (cxOf CX P w K mg base N qual scope f cdv A outer s H E) [] σ' H' s'→RelV v u→Q v H'→CE outer P w H s Q u s' :=
  fun{σ' H' v u} J rv q=>⟨v,H',J.os,J.bare,J.base,J.hok,rv,q⟩
 cases fl with
 | ret u =>
  obtain⟨v,σ',H',J,rv,q⟩:=hs
  exact fin J rv q
 | next =>
  obtain⟨σ',H',J,q⟩:=hs
  exact fin (v:=V.non) (u:=Value.none) J rfl q
 | brk =>
  obtain⟨_,_,_,q⟩:=hs
  exact False.elim q
 | cont =>
  obtain⟨_,_,_,q⟩:=hs
  exact False.elim q
end L2
namespace L2
open PySem PySem.Spec PyProof.Rows
section
variable {X:Cx}{x:Str}{p pos:Pos}{e:Expr}{es:List Expr}{t:TA}{id T:String}{r:List V→Hp→VK→Prop}
def tCB(r:List V→Hp→VK→Prop)(t:TA):TE:=fun σ H Q=>t σ H fun vs H1=>r vs H1 Q
theorem Cq(hc:CallR X (.builtin id) r)(hg:Gl X x)(hm:X.mg x=none)(hv:bootBuiltins x=some (.builtin id))(ha:PA X (e::es) t)(hn:x ≠ "__name__" := by decide)(hdb:(x==("__debug__" : Str))=false:=by decide)
  (he:starEach (e::es) X.env=(false,eval e X.env)::starEach es X.env:=by rfl) (hpl:(backTo pos (starEach es X.env)).any (·.1)=false:=by rfl):PE X (.Call (.Name x p) (e::es) [] pos) (tCB r t):=by
 intro pins s σ H Q I h
 refine wpAny_Call_Name_kw (Bs I hg hm hv ?_ hn hdb)
 exact PyProof.Rows.callWith_builtin1 (thn (ha pos pins s σ H _ I h) fun us s1 hZ=>hZ.elim fun vs hZ=>hZ.elim fun H1 hZ=>hZ.elim fun I1 hZ=>hZ.elim fun r1 q1=>hc pins s1 σ H1 vs us Q I1 r1 q1) he hpl
theorem GI(hc:CallR X (.type T) r)(hg:Gl X x)(hm:X.mg x=none)(hv:bootBuiltins x=some (.type T))(ha:PA X (e::es) t)(hn:x ≠ "__name__" := by decide)(hdb:(x==("__debug__" : Str))=false:=by decide)
  (he:starEach (e::es) X.env=(false,eval e X.env)::starEach es X.env:=by rfl) (hpl:(backTo pos (starEach es X.env)).any (·.1)=false:=by rfl):PE X (.Call (.Name x p) (e::es) [] pos) (tCB r t):=by
 intro pins s σ H Q I h
 refine wpAny_Call_Name_kw (Bs I hg hm hv ?_ hn hdb)
 exact PyProof.Rows.callWith_type1 (thn (ha pos pins s σ H _ I h) fun us s1 hZ=>hZ.elim fun vs hZ=>hZ.elim fun H1 hZ=>hZ.elim fun I1 hZ=>hZ.elim fun r1 q1=>hc pins s1 σ H1 vs us Q I1 r1 q1) he hpl
end
end L2
namespace HT
open PySem PyProof.Rows
section
open PySem.SeqAt
open PySem.AutoSeq1 (wpAny_loadPart')
open PySem.MeetsSeq PySem.MeetsSeq2 PySem.MeetsSeq3
end
section
variable {prog:Program}{w:World}{A:Around}{E:Value→Shared→Prop}{s:Shared}
def sIx(n d:Nat):Option Int→Nat
 | none=>d
 | some v=>if v<0 then(v+(n:Int)).toNat else min v.toNat n
theorem Q6(n d k:Nat):sIx n d (some (k:Int))=min k n:=by
 show(if(k:Int)<0 then((k:Int)+(n:Int)).toNat else min (k:Int).toNat n)=min k n
 rw[if_neg (by omega),Int.toNat_natCast]
end
end HT
namespace L2
open PySem PySem.Spec PyProof.Rows
abbrev TO:=St→Hp→(Option Int→Hp→Prop)→Prop
def PO(X:Cx)(e:Option Expr)(t:TO):Prop :=
 ∀(pins:List (Addr×Obj)) (s:Shared) (σ:St) (H:Hp) (Q:Option Int→Hp→Prop),Inv X pins σ H s→t σ H Q →
  wpAny (model X.prog X.w) X.A (evalPart e X.env) (fun u s'=>∃ o H',Inv X pins σ H' s'∧IsPart u o∧Q o H') X.xe s
def Bw:TO:=fun _ H Q=>Q none H
def Ho(t:TE):TO:=fun σ H Q=>t σ H fun x H1=>∃ i,x = .int i∧Q (some i) H1
section
variable {X:Cx}{e:Expr}{te:TE}{lo hi:Option Expr}{tl th:TO}{pos p2:Pos}
theorem Bx:PO X none Bw:=by
 intro pins s σ H Q I h
 rw[evalPart_none]
 exact wpAny_pure ⟨none,H,I,.none,h⟩
theorem Bz(h:PE X e te):PO X (some e) (Ho te):=by
 intro pins s σ H Q I hw
 rw[evalPart_some]
 refine thn (h pins s σ H _ I hw) ?_
 rintro u s1 ⟨x,H1,I1,r1,q1⟩
 obtain⟨i,rfl,q⟩:=q1
 obtain⟨t,rfl⟩:=r1
 exact⟨some i,H1,I1,.int i t,q⟩
def SlR(X:Cx)(r:V→Option Int→Option Int→Hp→VK→Prop):Prop :=
 ∀(pins:List (Addr×Obj)) (s:Shared) (σ:St) (H:Hp) (x:V) (v vl vu:Value) (lo hi:Option Int) (sl:Addr) (Q:VK),Inv X pins σ H s→RelV x v→s.heap.IsSliceOf sl vl vu .none→IsPart vl lo→IsPart vu hi→r x lo hi H Q →
  ∃ T id,typeLookup (.type T) "__getitem__" = pure (some (.builtin id))∧s.TypeIs v T∧wpAny (model X.prog X.w) X.A (getItem v (.ref sl)) (EP X pins σ Q) X.xe s
theorem SlR.or{r r':V→Option Int→Option Int→Hp→VK→Prop}(h:SlR X r)(h':SlR X r'):SlR X (fun x lo hi H Q=>r x lo hi H Q∨r' x lo hi H Q):=by
 intro pins s σ H x v vl vu lo hi sl Q I rx hs pl pu q
 rcases q with q|q
 · exact h pins s σ H x v vl vu lo hi sl Q I rx hs pl pu q
 · exact h' pins s σ H x v vl vu lo hi sl Q I rx hs pl pu q
def tSl(r:V→Option Int→Option Int→Hp→VK→Prop)(te:TE)(tl th:TO):TE:=fun σ H Q=>te σ H fun x H1=>tl σ H1 fun l H2=>th σ H2 fun u H3=>r x l u H3 Q
theorem Y6{r:V→Option Int→Option Int→Hp→VK→Prop}(hr:SlR X r)(he:PE X e te)(hl:PO X lo tl)(hu:PO X hi th):PE X (.Subscript e (.Slice lo hi none p2) pos) (tSl r te tl th):=by
 intro pins s σ H Q I h
 refine Subscript_ (thn (he pins s σ H _ I h) ?_)
 rintro v s1 ⟨x,H1,I1,r1,q1⟩
 refine wpAny_Slice (thn (hl pins s1 σ H1 _ I1 q1) fun vl s2 hZ=>hZ.elim fun l hZ=>hZ.elim fun H2 hZ=>hZ.elim fun I2 hZ=>hZ.elim fun pl q2=>thn (hu pins s2 σ H2 _ I2 q2) ?_)
 rintro vu s3 ⟨u,H3,I3,pu,q3⟩
 rw[evalPart_none]
 refine wpAny_pure ?_
 have I4:Inv X pins σ H3 { s3 with heap:=s3.heap.push { cls := .type "slice",data := .fields #[vl,vu,.none] } }:=I3.kept (t':=s3.toks) fun b ob q=>Heap.get?_push_of_some _ q
 obtain⟨T,id,hT,ht,hg⟩:=hr pins { s3 with heap:=s3.heap.push { cls := .type "slice",data := .fields #[vl,vu,.none] } } σ H3 x v vl vu l u s3.heap.objs.size Q I4 r1 (Heap.IsSliceOf.new ..) pl pu q3
 show wpAny (model X.prog X.w) X.A (subscriptTail e (.Slice lo hi none p2) v (.ref s3.heap.objs.size)) (EP X pins σ Q) X.xe { s3 with heap:=s3.heap.push { cls := .type "slice",data := .fields #[vl,vu,.none] } }
 exact tail_any (ops:=[.ref s3.heap.objs.size,v]) ht hT hg (by with_unfolding_all rfl)
def cutV(xs:List V)(lo hi:Option Int):List V:=(xs.drop (HT.sIx xs.length 0 lo)).take (HT.sIx xs.length xs.length hi-HT.sIx xs.length 0 lo)
theorem J8(xs:List V)(lo hi:Option Int):(cutV xs lo hi).length≤xs.length:=by
 unfold cutV
 rw[List.length_take,List.length_drop]
 omega
end
end L2
namespace L2
open PySem PySem.Spec PyProof.Rows
def ixN(n:Nat)(i:Int):Option Nat:=if 0≤i then(if i<n then some i.toNat else none) else if -(n:Int)≤i then some (i+n).toNat else none
def atI{α:Type}(xs:List α)(i:Int):Option α:=(ixN xs.length i).bind fun j=>xs[j]?
theorem KA{n:Nat}{i:Int}{j:Nat}(h:ixN n i=some j):seqIndex? i n=some j∧j<n ∧ -(n:Int)≤i∧i<n:=by
 unfold ixN at h
 by_cases h0:0≤i
 · rw[if_pos h0]at h
   by_cases h1:i<n
   · rw[if_pos h1]at h
     have e:i.toNat=j:=Option.some.inj h
     exact⟨by rw[seqIndex_of h0 h1,e],by omega,by omega,h1⟩
   · rw[if_neg h1]at h;cases h
 · rw[if_neg h0]at h
   by_cases h1 : -(n:Int)≤i
   · rw[if_pos h1]at h
     have e:(i+n).toNat=j:=Option.some.inj h
     exact⟨by rw[seqIndex_neg (by omega) h1,e],by omega,h1,by omega⟩
   · rw[if_neg h1]at h;cases h
theorem BA{α:Type}{xs:List α}{i:Int}{v:α}(h:atI xs i=some v):∃ j,seqIndex? i xs.length=some j∧xs[j]?=some v∧j<xs.length ∧ -(xs.length:Int)≤i∧i<xs.length:=by
 unfold atI at h
 cases e:ixN xs.length i with
 | none=>rw[e]at h;cases h
 | some j =>
  rw[e]at h
  obtain⟨h1,h2,h3,h4⟩:=KA e
  exact⟨j,h1,h,h2,h3,h4⟩
theorem BB{α:Type}{xs:List α}{j:Nat}{v:α}(h:xs[j]?=some v):atI xs (j:Int)=some v:=by
 have hj:j<xs.length:=(List.getElem?_eq_some_iff.mp h).1
 have e:ixN xs.length (j:Int)=some j:=by
  unfold ixN
  rw[if_pos (by omega),if_pos (by omega)];simp
 unfold atI;rw[e];exact h
theorem Cr{α:Type}(xs:List α)(v:α):atI (xs++[v]) (-1)=some v:=by
 have hl:(xs++[v]).length=xs.length+1:=by simp
 have e:ixN (xs++[v]).length (-1)=some xs.length:=by
  unfold ixN
  rw[hl,if_neg (by decide),if_pos (by omega)]
  congr 1
  omega
 unfold atI
 rw[e]
 show(xs++[v])[xs.length]?=some v
 simp
def BC(b:Expr):Prop:=∀ o i,subscripted b false o i=operate [o,i] (getItem o i)
def IxR(X:Cx)(r:R2):Prop :=
 ∀(value slice:Expr) (pins:List (Addr×Obj)) (s:Shared) (σ:St) (H:Hp) (x y:V) (v u:Value) (Q:VK),Inv X pins σ H s→RelV x v→RelV y u→r x y H Q →
  subscripted slice false v u=operate [v,u] (getItem v u)→wpAny (model X.prog X.w) X.A (subscriptTail value slice v u) (EP X pins σ Q) X.xe s
def MtR(X:Cx)(id:String)(r:V→List V→Hp→VK→Prop):Prop :=
 ∀(pins:List (Addr×Obj)) (s:Shared) (σ:St) (H:Hp) (x:V) (xs:List V) (v:Value) (us:List Value) (Q:VK),Inv X pins σ H s→RelV x v→Vals xs us→r x xs H Q →
  wpAny (model X.prog X.w) X.A (call (.builtin id) (v::us)) (EP X pins σ Q) X.xe s
section
variable {X:Cx}{a b:Expr}{ta tb:TE}{pos:Pos}
theorem IxR.or{r r':R2}(h:IxR X r)(h':IxR X r'):IxR X (fun x y H Q=>r x y H Q∨r' x y H Q):=by
 intro value slice pins s σ H x y v u Q I rx ry q hs
 rcases q with q|q
 · exact h value slice pins s σ H x y v u Q I rx ry q hs
 · exact h' value slice pins s σ H x y v u Q I rx ry q hs
theorem MtR.or{id:String}{r r':V→List V→Hp→VK→Prop}(h:MtR X id r)(h':MtR X id r'):MtR X id (fun x xs H Q=>r x xs H Q∨r' x xs H Q):=by
 intro pins s σ H x xs v us Q I rx rs q
 rcases q with q|q
 · exact h pins s σ H x xs v us Q I rx rs q
 · exact h' pins s σ H x xs v us Q I rx rs q
theorem Fz{r:R2}(hr:IxR X r)(ha:PE X a ta)(hb:PE X b tb)(hs:BC b):PE X (.Subscript a b pos) (tOp r ta tb):=by
 intro pins s σ H Q I h
 exact Subscript_ (binT ha hb I h fun v u s2 x y H2 I2 rx ry q=>hr a b pins s2 σ H2 x y v u Q I2 rx ry q (hs _ _))
def rIxL(K:PySem.W.Frag):R2:=fun x y H Q=>∃ p xs i v,x = .ref p∧y = .int i∧SqL K H p xs∧atI xs i=some v∧Q v H
def rIxT(K:PySem.W.Frag):R2:=fun x y H Q=>∃ p xs i v,x = .ref p∧y = .int i∧SqT K H p xs∧atI xs i=some v∧Q v H
def rIxS:R2:=fun x y H Q=>∃ z i c,x = .str z∧y = .int i∧z.length≤sizeLine∧atI z.cps.toList i=some c∧Q (.str ⟨#[c]⟩) H
theorem FG:IxR X (rIxL X.K):=by
 intro value slice pins s σ H x y v u Q I rx ry h hs
 obtain⟨p,xs,i,z,rfl,rfl,hq,he,q⟩:=h
 cases rx
 obtain⟨t,rfl⟩:=ry
 obtain⟨its,r,pl,hz⟩:=I.list hq
 obtain⟨j,h1,h2,h3,h4,h5⟩:=BA he
 obtain⟨w,ew,rw'⟩:=r.get h2
 have hl:=r.length
 have hn:=Y1
 have fin:EP X pins σ Q w s:=⟨z,H,I,rw',q⟩
 by_cases h0:0≤i
 · have hj:i.toNat=j:=by
    rw[seqIndex_of h0 h5]at h1
    exact Option.some.inj h1
   exact item_listR pl.isList h0 (by omega) (by rw[hj];simpa using ew) fin hs
 · have hj:(i+(its.toArray.size:Int)).toNat=j:=by
    rw[seqIndex_neg (by omega) h4]at h1
    rw[List.size_toArray,←hl]
    exact Option.some.inj h1
   exact subscriptTail_builtinR (x:=w) pl.isList.typeIs slot_list_getitem.lookup
    (wpAny_getItem_list_neg (Q:=fun r s'=>r=w∧EP X pins σ Q r s') pl.isList (by omega) (by rw[List.size_toArray]<;>omega) (by omega) (by rw[hj];simpa using ew) ⟨rfl,fin⟩) hs
theorem Dj:IxR X (rIxT X.K):=by
 intro value slice pins s σ H x y v u Q I rx ry h hs
 obtain⟨p,xs,i,z,rfl,rfl,hq,he,q⟩:=h
 cases rx
 obtain⟨t,rfl⟩:=ry
 obtain⟨its,r,pl,hz⟩:=I.tuple hq
 obtain⟨j,h1,h2,h3,h4,h5⟩:=BA he
 obtain⟨w,ew,rw'⟩:=r.get h2
 have hl:=r.length
 have hn:=Y1
 have fin:EP X pins σ Q w s:=⟨z,H,I,rw',q⟩
 exact subscriptTail_builtinR (x:=w) pl.typeIs slot_tuple_getitem.lookup
  (getItem_tuple (j:=j) (Q:=fun r s'=>r=w∧EP X pins σ Q r s') pl (by omega) (by omega) (by rw[List.size_toArray,←hl];exact h1) (by simpa using ew) ⟨rfl,fin⟩) hs
theorem ix_str:IxR X rIxS:=by
 intro value slice pins s σ H x y v u Q I rx ry h hs
 obtain⟨z,i,c,rfl,rfl,hz,he,q⟩:=h
 obtain⟨t,rfl⟩:=rx
 obtain⟨t',rfl⟩:=ry
 obtain⟨j,h1,h2,h3,h4,h5⟩:=BA he
 have hl:z.cps.toList.length=z.length:=by simp[Str.length]
 rw[hl]at h1 h4 h5
 have hn:=Y1
 exact tail_any (typeIs_str s z t) slot_str_getitem.lookup (getItem_str (c:=c) (by
  have e1:decide (i < -(2 ^ 63:Int))=false:=decide_eq_false (by omega)
  have e2:decide (i≥2 ^ 63)=false:=decide_eq_false (by omega)
  rw[e1,e2,Bool.or_false]) (by rw[h1];simpa using h2) ⟨.str ⟨#[c]⟩,H,I.tok _,⟨_,rfl⟩,q⟩) hs
def rIx(K:PySem.W.Frag):R2:=fun x y H Q=>rIxL K x y H Q∨rIxT K x y H Q∨rIxS x y H Q
theorem ix_seq:IxR X (rIx X.K):=FG.or (Dj.or ix_str)
theorem Inv.lst{pins:List (Addr×Obj)}{σ:St}{H:Hp}{s:Shared}{p:Addr}{xs:List V}(I:Inv X pins σ H s)(h:H p=some (.lst xs)):
  ∃(its:List Value) (n:Nat),Vals xs its∧s.heap.get? p=some { cls := .type "list",data := .seq its.toArray n }∧xs.length≤sizeLine:=by
 obtain⟨z,its,n,r,e⟩:=I.hok p _ h
 exact⟨its,n,r,e,z⟩
theorem BD(lo hi:Option Int)(n:Nat):(sliceBounds lo hi none n).1=((HT.sIx n 0 lo:Nat):Int)∧(sliceBounds lo hi none n).2.1=((HT.sIx n n hi:Nat):Int)∧(sliceBounds lo hi none n).2.2=1:=by
 refine⟨?_,?_,rfl⟩
 · cases lo with
   | none=>simp[sliceBounds,HT.sIx]
   | some i =>
    simp only[sliceBounds,HT.sIx,Option.getD_none,show(1:Int) > 0 by decide,if_true]
    by_cases h:i<0
    · simp only[h,if_true]<;>omega
    · simp only[h,if_false]<;>omega
 · cases hi with
   | none=>simp[sliceBounds,HT.sIx]
   | some i =>
    simp only[sliceBounds,HT.sIx,Option.getD_none,show(1:Int) > 0 by decide,if_true]
    by_cases h:i<0
    · simp only[h,if_true]<;>omega
    · simp only[h,if_false]<;>omega
theorem AF(its:List Value)(lo hi:Option Int):slicePick its.toArray lo hi none=((its.drop (HT.sIx its.length 0 lo)).take (HT.sIx its.length its.length hi-HT.sIx its.length 0 lo)).toArray:=by
 obtain⟨h1,h2,h3⟩:=BD lo hi its.toArray.size
 unfold slicePick
 rw[h1,h2,h3]
 simp only[sliceRange_one,pick_run,List.size_toArray]<;>rfl
def rSlL(K:PySem.W.Frag):V→Option Int→Option Int→Hp→VK→Prop:=fun x lo hi H Q=>∃ a xs,x = .ref a∧SqL K H a xs∧∀ p,H p=none→Q (.ref p) (upd H p (.lst (cutV xs lo hi)))
theorem BE:SlR X (rSlL X.K):=by
 intro pins s σ H x v vl vu lo hi sl Q I rx hs pl pu h
 obtain⟨a,xs,rfl,hx,q⟩:=h
 cases rx
 obtain⟨its,r,ht,hz⟩:=I.list hx
 have hlen:=r.length
 refine⟨"list",_,slot_list_getitem.lookup,ht.isList.typeIs,?_⟩
 refine wpAny_getItem_list_slice ht.isList hs pl pu .none (by simp) ?_ (by rw[List.size_toArray]<;>omega)
 rw[AF,←hlen]
 refine⟨.ref s.heap.objs.size,_,I.laid (t':=s.toks) (o := .lst (cutV xs lo hi)) (fun b ob q=>Heap.get?_push_of_some _ q) (Nat.le_refl _) ?_,rfl,q _ (I.hok.fresh (Nat.le_refl _))⟩
 exact⟨Nat.le_trans (J8 xs lo hi) hz,_,0,(r.drop (HT.sIx xs.length 0 lo)).take (HT.sIx xs.length xs.length hi-HT.sIx xs.length 0 lo),Heap.get?_push_size _ rfl⟩
theorem G0:CallR X (.builtin "len") (fun xs H Q=>∃ p ys,xs=[.ref p]∧(SqL X.K H p ys∨SqT X.K H p ys)∧Q (.int ys.length) H):=by
 intro pins s σ H xs us Q I r h
 obtain⟨p,ys,rfl,hq,q⟩:=h
 obtain⟨u,rfl,rx⟩:=Fx r
 cases rx
 have hn:=Y1
 rcases hq with hq|hq
 · obtain⟨its,r',pl,hz⟩:=I.list hq
   have hlen:=r'.length
   exact Calls.call_len_list pl.isList (by simp only[List.size_toArray]<;>omega) ⟨.int ys.length,H,I.tok _,⟨s.toks+1,by rw[List.size_toArray,hlen]⟩,q⟩
 · obtain⟨its,r',pl,hz⟩:=I.tuple hq
   have hlen:=r'.length
   exact len_tuple pl (by simp only[List.size_toArray]<;>omega) ⟨.int ys.length,H,I.tok _,⟨s.toks+1,by rw[List.size_toArray,hlen]⟩,q⟩
theorem CallR.or{f:Value}{r r':List V→Hp→VK→Prop}(h:CallR X f r)(h':CallR X f r'):CallR X f (fun xs H Q=>r xs H Q∨r' xs H Q):=by
 intro pins s σ H xs us Q I rs q
 rcases q with q|q
 · exact h pins s σ H xs us Q I rs q
 · exact h' pins s σ H xs us Q I rs q
theorem Q7:CallR X (.type "list") (fun xs H Q=>∃ p ys,xs=[.ref p]∧(SqL X.K H p ys∨SqT X.K H p ys)∧∀ l,H l=none→Q (.ref l) (upd H l (.lst ys))):=by
 intro pins s σ H xs us Q I r h
 obtain⟨p,ys,rfl,hq,q⟩:=h
 obtain⟨u,rfl,rx⟩:=Fx r
 cases rx
 have fin:∀(its:List Value),Vals ys its→ys.length≤sizeLine→∀(h':Heap) (c':Nat),(∀ b o',s.heap.get? b=some o'→h'.get? b=some o') →
    h'.get? s.heap.objs.size=some { cls := .type "list",dict:=none,data := .seq its.toArray c',slots:=#[] }→EP X pins σ Q (.ref s.heap.objs.size) { s with heap:=h' }:=fun its r' hz h' c' kp e =>
   ⟨.ref s.heap.objs.size,_,I.laid (t':=s.toks) kp (Nat.le_refl _) (show ObjOk X.prog X.w _ h' _ (.lst ys) from⟨hz,its,c',r',e⟩),rfl,q _ (I.hok.fresh (Nat.le_refl _))⟩
 rcases hq with hq|hq
 · obtain⟨its,r',pl,hz⟩:=I.list hq
   have hlen:=r'.length
   obtain⟨o,ho,hc,n,hd⟩:=pl.isList
   exact call_list_seq p (.inl rfl) ho hc hd (fun h' c' kp e=>fin its r' hz h' c' kp e) (by simp only[List.size_toArray]<;>omega)
 · obtain⟨its,r',pl,hz⟩:=I.tuple hq
   have hlen:=r'.length
   obtain⟨o,ho,hc,n,hd⟩:=pl
   exact call_list_seq p (.inr rfl) ho hc hd (fun h' c' kp e=>fin its r' hz h' c' kp e) (by simp only[List.size_toArray]<;>omega)
theorem N9:CallR X (.type "tuple") (fun xs H Q=>∃ p ys,xs=[.ref p]∧((SqL X.K H p ys∧∀ l,H l=none→Q (.ref l) (upd H l (.tup ys)))∨(SqT X.K H p ys∧Q (.ref p) H))):=by
 intro pins s σ H xs us Q I r h
 obtain⟨p,ys,rfl,h⟩:=h
 obtain⟨u,rfl,rx⟩:=Fx r
 cases rx
 rcases h with⟨hq,q⟩|⟨hq,q⟩
 · obtain⟨its,r',pl,hz⟩:=I.list hq
   have hlen:=r'.length
   refine call_tuple_list pl.isList (fun h' kp=>?_) (by simp only[List.size_toArray]<;>omega)
   have I1:Inv X pins σ H { s with heap:=h' }:=I.kept (t':=s.toks) kp
   have I2:Inv X pins σ (upd H h'.objs.size (.tup ys)) { s with heap:=h'.push { cls := .type "tuple",data := .seq its.toArray } } :=
    I1.laid (t':=s.toks) (fun b o e=>Heap.get?_push_of_some _ e) (Nat.le_refl _) (show ObjOk X.prog X.w _ _ _ (.tup ys) from⟨hz,its,r',IsTup.new _ _⟩)
   exact⟨.ref h'.objs.size,_,I2,rfl,q _ (I1.hok.fresh (Nat.le_refl _))⟩
 · obtain⟨its,r',pl,hz⟩:=I.tuple hq
   exact call_tuple_same pl ⟨.ref p,H,I,rfl,q⟩
def tyV(K:PySem.W.Frag)(T:String)(x:V)(H:Hp):Prop:=match x with
 | .str _=>T = "str"
 | .int _=>T = "int"
 | .ref p=>(T = "list" ∧ ∃ xs,SqL K H p xs)∨(T = "tuple" ∧ ∃ o,K.lookup p=some o∧o.cls = .type "tuple" ∧ o.dict=none) ∨
  (T = "dict" ∧ ((∃ kvs,H p=some (.dK kvs))∨∃ kvs,H p=some (.dT kvs)))∨(T = "set" ∧ ∃ S n,H p=some (.set S n))
 | _=>False
theorem Hq{pins:List (Addr×Obj)}{σ:St}{H:Hp}{s:Shared}{T:String}{x:V}{v:Value}(I:Inv X pins σ H s)(r:RelV x v)(ty:tyV X.K T x H):
  s.TypeIs v T∧∀ a,v = .ref a→∃ ob,s.heap.get? a=some ob∧ob.dict=none:=by
 cases x with
 | str z =>
  obtain⟨t,rfl⟩:=r
  cases (show T = "str" from ty)
  exact⟨typeIs_str s z t,fun _ e=>nomatch e⟩
 | int i =>
  obtain⟨t,rfl⟩:=r
  cases (show T = "int" from ty)
  exact⟨typeIs_int s i t,fun _ e=>nomatch e⟩
 | ref p =>
  cases r
  rcases ty with⟨rfl,xs,hq⟩|⟨rfl,o,hk,hc,hd⟩|⟨rfl,hk⟩|⟨rfl,S,n,hk⟩
  · obtain⟨its,_,pl,_⟩:=I.list hq
    refine⟨pl.isList.typeIs,fun a e=>?_⟩
    cases e
    obtain⟨o,n,e,c,hd,_⟩:=pl
    exact⟨o,e,hd⟩
  · refine⟨⟨o,I.kIn p o hk,hc⟩,fun a e=>?_⟩
    cases e
    exact⟨o,I.kIn _ o hk,hd⟩
  · have z:∃ o,s.heap.get? p=some o∧o.ExactDict:=by
     rcases hk with⟨kvs,hk⟩|⟨kvs,hk⟩
     · obtain⟨_,_,_,_,o,_,_,e,ex,_⟩:=I.hok p _ hk
       exact⟨o,e,ex⟩
     · obtain⟨_,_,_,_,o,_,_,e,ex,_⟩:=I.hok p _ hk
       exact⟨o,e,ex⟩
    obtain⟨o,e,ex⟩:=z
    refine⟨⟨o,e,ex.1⟩,fun a e2=>?_⟩
    cases e2
    exact⟨o,e,ex.2.1⟩
  · obtain⟨o,_,_,_,e,ex,_⟩:=I.hok p _ hk
    refine⟨⟨o,e,ex.1⟩,fun a e2=>?_⟩
    cases e2
    exact⟨o,e,ex.2.1⟩
 | _=>exact False.elim ty
def tBM0(K:PySem.W.Frag)(T:String)(r:V→List V→Hp→VK→Prop)(to:TE):TE:=fun σ H Q=>to σ H fun x H1=>tyV K T x H1∧r x [] H1 Q
def tBM(K:PySem.W.Frag)(T:String)(r:V→List V→Hp→VK→Prop)(to:TE)(t:TA):TE:=fun σ H Q=>to σ H fun x H1=>tyV K T x H1∧t σ H1 fun xs H2=>r x xs H2 Q
variable {o e:Expr}{es:List Expr}{to:TE}{t:TA}{name:Str}{apos cpos:Pos}{T id:String}{r:V→List V→Hp→VK→Prop}
theorem Dk(pa:PlainAttrs T)(slot:Slot T name id)(hty:typeOf (.builtin id)=pure (.type "method_descriptor"))(hm:MtR X id r)(ho:PE X o to)
  (hbase:attributeBase o name X.env (eval o X.env)=eval o X.env:=by rfl) (hline:(apos.endLine==cpos.line)=true:=by rfl):PE X (.Call (.Attribute o name apos) [] [] cpos) (tBM0 X.K T r to):=by
 intro pins s σ H Q I h
 refine wpAny_Call_method0_late hbase hline (thn (ho pins s σ H _ I h) ?_)
 rintro v s1 ⟨x,H1,I1,r1,ty,q1⟩
 obtain⟨h1,h2⟩:=Hq I1 r1 ty
 exact⟨T,id,pa,slot,hty,h1,h2,Calls.callWith_builtin rfl (PySem.evalArgs_none (hm pins s1 σ H1 x [] v [] Q I1 r1 .nil q1))⟩
theorem Hr(pa:PlainAttrs T)(slot:Slot T name id)(hty:typeOf (.builtin id)=pure (.type "method_descriptor"))(hm:MtR X id r)(ho:PE X o to)(ha:PA X (e::es) t)
  (hbase:attributeBase o name X.env (eval o X.env)=eval o X.env:=by rfl)
  (hfew:((backTo cpos (starEach (e::es) X.env)).all (fun x=>!x.1)&&(backToKw cpos (keywordEach [] X.env)).all (fun x=>x.1.isSome)
   && decide ((e::es).length+([]:List Keyword).length+(if([]:List Keyword).isEmpty then 0 else 1)<30))=true:=by rfl)
  (hline:(apos.endLine==cpos.line)=true:=by rfl) (hs:starEach (e::es) X.env=(false,eval e X.env)::starEach es X.env:=by rfl) (hplain:(backTo cpos (starEach es X.env)).any (·.1)=false:=by rfl) :
  PE X (.Call (.Attribute o name apos) (e::es) [] cpos) (tBM X.K T r to t):=by
 intro pins s σ H Q I h
 refine wpAny_Call_method_late hbase hfew hline rfl (thn (ho pins s σ H _ I h) ?_)
 rintro v s1 ⟨x,H1,I1,r1,ty,q1⟩
 obtain⟨h1,h2⟩:=Hq I1 r1 ty
 refine⟨T,id,pa,slot,hty,h1,h2,?_⟩
 have hA:=ha cpos pins s1 σ H1 _ I1 q1
 rw[hs]at hA ⊢
 refine Calls.callWith_builtin (by show(false||(backTo cpos (starEach es X.env)).any (·.1))=false;rw[hplain]<;>rfl) (Calls.evalArgs_plain ?_)
 exact thn hA fun us s2 hZ=>hZ.elim fun vs hZ=>hZ.elim fun H2 hZ=>hZ.elim fun I2 hZ=>hZ.elim fun r2 q2=>hm pins s2 σ H2 x vs v us Q I2 r1 r2 q2
end
end L2
namespace L2
open PySem PySem.Spec PyProof.Rows
def MtM(X:Cx)(id:String)(r:V→List V→Hp→VK→Prop):Prop :=
 ∀(pins:List (Addr×Obj)) (s:Shared) (σ:St) (H:Hp) (x:V) (xs:List V) (v:Value) (us:List Value) (Q:VK),Inv X pins σ H s→RelV x v→Vals xs us→r x xs H Q →
  wpAny (model X.prog X.w) X.A (call (.builtin id) (v::us)) (EP X pins σ Q) X.xe s
theorem Vals.zero:∀{us:List Value},Vals [] us→us=[]
 | _,.nil=>rfl
theorem Vals.uncons{x:V}{xs:List V}{us:List Value}(h:Vals (x::xs) us):∃ u vs,us=u::vs∧RelV x u∧Vals xs vs:=by
 cases h with
 | cons r t=>exact⟨_,_,rfl,r,t⟩
theorem Vals.one{x:V}{us:List Value}(h:Vals [x] us):∃ u,us=[u]∧RelV x u:=by
 obtain⟨u,vs,e,r,t⟩:=h.uncons
 rw[t.zero]at e
 exact⟨u,e,r⟩
theorem Vals.two{x y:V}{us:List Value}(h:Vals [x,y] us):∃ u v,us=[u,v]∧RelV x u∧RelV y v:=by
 obtain⟨u,vs,e,r,t⟩:=h.uncons
 obtain⟨v,e2,q⟩:=t.one
 rw[e2]at e
 exact⟨u,v,e,r,q⟩
theorem Vals.dropLast{xs:List V}{us:List Value}(h:Vals xs us):Vals xs.dropLast us.dropLast:=by
 induction h with
 | nil=>exact .nil
 | cons r t ih =>
  cases t with
  | nil=>exact .nil
  | cons q t'=>exact .cons r ih
theorem Vals.eraseIdx:∀{xs:List V} {us:List Value} (i:Nat),Vals xs us→Vals (xs.eraseIdx i) (us.eraseIdx i)
 | _,_,_,.nil => .nil
 | _,_,0,.cons _ t=>t
 | _,_,i+1,.cons r t => .cons r (Vals.eraseIdx i t)
theorem Vals.reverse{xs:List V}{us:List Value}(h:Vals xs us):Vals xs.reverse us.reverse:=by
 induction h with
 | nil=>exact .nil
 | cons r t ih=>rw[List.reverse_cons,List.reverse_cons];exact Vals.append ih (.cons r .nil)
theorem Vals.rep{xs:List V}{us:List Value}(h:Vals xs us):∀ k:Nat,Vals (List.replicate k xs).flatten (List.replicate k us).flatten
 | 0 => .nil
 | k+1=>by
  rw[List.replicate_succ,List.replicate_succ,List.flatten_cons,List.flatten_cons]
  exact Vals.append h (Vals.rep h k)
theorem Dl{α:Type}(l:List α):l.eraseIdx (l.length-1)=l.dropLast:=by
 induction l with
 | nil=>rfl
 | cons a r ih =>
  cases r with
  | nil=>rfl
  | cons b r =>
   have e:(a::b::r).length-1=((b::r).length-1)+1:=by
    have h1:(a::b::r).length=r.length+2:=rfl
    have h2:(b::r).length=r.length+1:=rfl
    omega
   rw[e,List.eraseIdx_cons_succ,ih]
   all_goals rfl
section
variable {X:Cx}{pins:List (Addr×Obj)}{σ:St}{H:Hp}{s:Shared}{l b:Addr}{xs ys zs:List V}
theorem Inv.lset{its its':List Value}{n:Nat}{f:Array Value→Array Value}{t':Nat}(I:Inv X pins σ H s)(hH:H l=some (.lst xs))
  (e:s.heap.get? l=some { cls := .type "list",data := .seq its.toArray n }) (hf:f its.toArray=its'.toArray) (hv:Vals ys its') (hz:ys.length≤sizeLine) :
  Inv X pins σ (upd H l (.lst ys)) { s with heap:=s.heap.update l (Obj.mapSeq f),toks:=t' }:=by
 have q:=PySem.IsL.update e f
 rw[hf]at q
 refine I.write (x:=l) (e:=l) (by rw[hH];exact trivial) (.inl rfl) (fun b' u hb hu=>(Heap.get?_update_other s.heap (Obj.mapSeq f) (Ne.symm hb)).trans hu) ⟨_,q⟩ ?_
 exact⟨hz,its',_,hv,q⟩
theorem Inv.lnew{its:List Value}{t':Nat}(I:Inv X pins σ H s)(hv:Vals ys its)(hz:ys.length≤sizeLine):
  Inv X pins σ (upd H s.heap.objs.size (.lst ys)) { s with heap:=s.heap.push { cls := .type "list",data := .seq its.toArray },toks:=t' } :=
 I.laid (fun _ _ q=>Heap.get?_push_of_some _ q) (Nat.le_refl _) ⟨hz,its,0,hv,Heap.get?_push_size _ rfl⟩
theorem Inv.fresh(I:Inv X pins σ H s):H s.heap.objs.size=none:=I.hok.fresh (Nat.le_refl _)
theorem Inv.lstM(I:Inv X pins σ H s)(hH:H l=some (.lst xs)):xs.length≤sizeLine∧∃(its:List Value) (n:Nat),Vals xs its∧xs.length=its.length∧s.heap.get? l=some { cls := .type "list",data := .seq its.toArray n }:=by
 obtain⟨z,its,n,r,e⟩:=I.hok l _ hH
 exact⟨z,its,n,r,r.length,e⟩
end
section
variable {X:Cx}
def W9:V→List V→Hp→VK→Prop:=fun x vs H Q=>∃ l xs y,x = .ref l∧vs=[y]∧H l=some (.lst xs)∧xs.length<sizeLine∧Q .non (upd H l (.lst (xs++[y])))
theorem M3:MtM X "list.append" W9:=by
 intro pins s σ H x vs v us Q I rx rv h
 obtain⟨l,xs,y,rfl,rfl,hH,hz,q⟩:=h
 cases rx
 obtain⟨u,rfl,ru⟩:=rv.one
 obtain⟨z,its,n,r,hl,e⟩:=I.lstM hH
 refine call_meets F.slot_list_append ⟨_,e,rfl⟩ F.entry_list_append (F.args_list_append_2 _ _) (PySem.list_append l its.toArray n u (by rw[List.size_toArray];omega)) ⟨e,?_⟩
 refine⟨.non,_,I.lset (its':=its++[u]) hH e (by simp) (r.append (.cons ru .nil)) ?_,rfl,q⟩
 rw[List.length_append,List.length_singleton]
 omega
def rPop:V→List V→Hp→VK→Prop:=fun x vs H Q=>∃ l xs y,x = .ref l∧vs=[]∧H l=some (.lst xs)∧xs[xs.length-1]?=some y∧Q y (upd H l (.lst xs.dropLast))
theorem Hs:MtM X "list.pop" rPop:=by
 intro pins s σ H x vs v us Q I rx rv h
 obtain⟨l,xs,y,rfl,rfl,hH,hy,q⟩:=h
 cases rx
 have hus:=rv.zero
 subst hus
 obtain⟨z,its,n,r,hl,e⟩:=I.lstM hH
 obtain⟨u,hu,ru⟩:=r.get hy
 have hy':its.toArray[its.toArray.size-1]?=some u:=by
   show its.toArray[its.length-1]?=some u
   rw[←Array.getElem?_toList,←hl]
   exact hu
 refine call_meets F.slot_list_pop ⟨_,e,rfl⟩ F.entry_list_pop (F.args_list_pop_1 _) (MeetsSeq.list_pop_last l its.toArray n u hy' (by rw[List.size_toArray];omega)) ⟨e,?_⟩
 refine⟨y,_,I.lset (its':=its.dropLast) hH e ?_ r.dropLast ?_,ru,q⟩
 · show its.toArray.eraseIdxIfInBounds (its.toArray.size-1)=its.dropLast.toArray
   rw[List.size_toArray,List.eraseIdxIfInBounds_toArray,Dl]
 · rw[List.length_dropLast]
   omega
def Ht:V→List V→Hp→VK→Prop:=fun x vs H Q=>∃ l xs,x = .ref l∧vs=[]∧H l=some (.lst xs)∧Q .non (upd H l (.lst []))
theorem Hu:MtM X "list.clear" Ht:=by
 intro pins s σ H x vs v us Q I rx rv h
 obtain⟨l,xs,rfl,rfl,hH,q⟩:=h
 cases rx
 have hus:=rv.zero
 subst hus
 obtain⟨z,its,n,r,hl,e⟩:=I.lstM hH
 refine call_meets F.slot_list_clear ⟨_,e,rfl⟩ F.entry_list_clear (F.args_list_clear_1 _) (AutoSeq1.list_clear_list_0 l its.toArray n (by rw[List.size_toArray];omega)) ⟨e,?_⟩
 exact⟨.non,_,I.lset (its':=[]) (ys:=[]) hH e rfl .nil (Nat.zero_le _),rfl,q⟩
def rCat:R2:=fun x y H Q=>∃ l b xs zs,x = .ref l∧y = .ref b∧H l=some (.lst xs)∧H b=some (.lst zs)∧xs.length+zs.length≤sizeLine∧∀ p,H p=none→Q (.ref p) (upd H p (.lst (xs++zs)))
theorem Dn:OpR X (binaryOp .Add) rCat:=by
 intro pins s σ H x y v u Q I rx ry h
 obtain⟨l,b,xs,zs,rfl,rfl,hH,hB,hz,q⟩:=h
 cases rx
 cases ry
 obtain⟨z,its,n,r,hl,e⟩:=I.lstM hH
 obtain⟨z2,its2,n2,r2,hl2,e2⟩:=I.lstM hB
 refine PySem.P.add_list e e2 ?_ (by rw[List.size_toArray,List.size_toArray];omega)
 have ea:its.toArray++its2.toArray=(its++its2).toArray:=by simp
 rw[ea]
 exact⟨.ref _,_,I.lnew (t':=s.toks) (r.append r2) (by rw[List.length_append];omega),rfl,q _ I.fresh⟩
end
section
variable {prog:Program}{w:World}{A:Around}{E:Value→Shared→Prop}{s:Shared}
end
section
variable {X:Cx}
end
end L2
namespace Att
open PySem PySem.W PySem.Calls PyProof.Rows
theorem W7{P:Params}{h:Heap}:∀(ns:List Int) (vs:List Value),WellAll P h vs (ns.map WData.int)→IntsAre vs ns:=by
 intro ns
 induction ns with
 | nil =>
  intro vs w
  rw[List.map_nil]at w
  cases w
  exact .nil
 | cons n ns ih =>
  intro vs w
  rw[List.map_cons]at w
  cases w with
  | cons a b =>
   cases a
   exact .cons _ _ (ih _ b)
theorem GJ{l:OpenLaw}{n:Nat}(hn:l.most=some n){P:Params}{h:Heap}{args:List WData}{vals:List Value}
  (hpre:l.row.toRowW.claim.pre args=true) (hwl:WellAll P h vals args) :
  ∃ a vs ns,vals=[Value.ref a]∧args=[WData.list (ns.map WData.int)]∧h.get? a=some { cls := .type "list",data := .seq vs.toArray }∧IntsAre vs ns∧ns.length≤n:=by
 have hsh:WShape.hasAll [] args [.list .int]=true:=(pre_splitW hpre).1
 have hc:l.pre.holds [] { args:=args }=true:=(pre_splitW hpre).2
 obtain⟨d,r,rfl,h1,h2⟩:=hasAllW_cons hsh
 obtain rfl:=hasAllW_nil h2
 obtain⟨xs,rfl,h3⟩:=hasW_list h1
 obtain⟨ns,rfl⟩:=items_int h3
 have hlen:ns.length≤n:=by
  unfold OpenLaw.pre at hc
  have h4:(WTm.not (.lt (.lit (.int (n:Int))) (.len (.arg 0)))).holds [] { args:=[.list (ns.map .int)] }=true:=by
   have h4:=(holds_andW hc).1
   rw[hn]at h4
   exact h4
  have h5:=condW_of h4 (w_not (w_lt w_lit (w_len_list (w_arg rfl))))
  rw[List.length_map]at h5
  refine Nat.le_of_not_lt fun q=>?_
  have q':(n:Int)<((ns.length:Nat):Int):=by omega
  first
   | (rw[decide_eq_true q']at h5;exact absurd h5 (by decide))
   | (simp at h5;omega)
 cases hwl with
 | cons w1 w2 =>
  cases w2
  cases w1 with
  | list ho hall=>exact⟨_,_,ns,rfl,rfl,ho,W7 ns _ hall,hlen⟩
theorem GK(l:OpenLaw)(args:List WData):l.row.toRowW.claim.post args (.bool true) args=true :=
 postW_of (r:=l.row.toRowW) (X:=(true==true))
  (show WShape.has [] (.bool true) .bool=true by first|rfl|decide|simp[WShape.has,WShape.arms,WShape.armsAll])
  (show(WTm.eq .res (.lit (.bool true))).value [] { args:=args,res:=some (.bool true),after:=args }=some (.bool (true==true))from w_eq_bool (w_res rfl) w_lit) rfl
theorem attach_call{l:OpenLaw}{n:Nat}{q:Program}{loose:List Str}{XP:(Str→Option Value)→Heap→Prop}{YP:World→Heap→Prop}{d:DefRec}
  (hn:l.most=some n) (hdf:d.params.defaults=[])
  (call:∀(w:World) (s₀ s₁:Shared) (mg mb:Str→Option Value) (fa:Addr) (o:Obj) (pm cd doc:Value) (a:Addr) (vs:List Value) (ns:List Int),
   Ground q loose [] XP w s₀ mg mb s₁.heap→YP w s₁.heap →
   s₁.heap.get? fa=some o→o.data = .func (docDef d.name d.params d.body d.scope pm cd doc)→s₁.heap.CodeRec cd d.name→mg d.name=some (.ref fa) →
   s₁.heap.get? a=some { cls := .type "list",data := .seq vs.toArray }→IntsAre vs ns→ns.length≤n→s₁.gens=#[] →
   codeAny (model l.prog w) callerA (.call (.ref fa) ⟨[.ref a],[]⟩) (fun r s'=>r = .ok (.ret (.bool true))∧OldK s₁.heap s'.heap∧s'.os=s₁.os∧AllBare s'.gens) s₁) :
  WalkO q loose XP YP l.row.toRowW d [] (fun f vs=>PySem.call f vs):=by
 intro w s₀ s₁ mg mb G Y fa o pm cd doc dV kV ho hd hcd hD hmg hg args vals as hpre hlay hrd hwl hlo
 obtain rfl:dV = .none:=Dflts.none hD hdf
 obtain rfl:kV = .none:=Dflts.noKw hD
 obtain⟨a,vs,ns,rfl,rfl,hobj,hints,hlen⟩:=GJ hn hpre hwl
 refine enter_call (codeAny_mono (call w s₀ s₁ mg mb fa o pm cd doc a vs ns G Y ho (fd_plain hd) hcd hmg hobj hints hlen hg) fun r s' hq=>?_)
 obtain⟨rfl,h2,h3,h4⟩:=hq
 exact⟨.inl ⟨.bool true,.bool true,[],rfl,fun _=>rfl,.bool true,GK l _,fun _=>⟨List.Pairwise.nil,fun _ hm=>(nomatch hm)⟩⟩,h2,h3,h4⟩
section
variable {prog:Program}{w:World}{A:Around}{E:Value→Shared→Prop}{s:Shared}{K:Frag}
end
end Att
namespace L2
open PySem PySem.Spec PyProof.Rows
theorem AQ:∀{vs:List Value} {ns:List Int},IntsAre vs ns→Vals (ns.map V.int) vs
 | _,_,.nil => .nil
 | _,_,.cons n t h => .cons ⟨t,rfl⟩ (AQ h)
def Only(H:Hp):Prop:=∀ b,H b=none∨∃ o xs,H b=some (.frz o (.lst xs))
theorem Hv{P:Program}{w:World}{K:PySem.W.Frag}{mg mb:Str→Option Value}{CX:CXT}{k:Nat}{fa a:Addr}{fd:FuncData}{x:Str}{sp:Sp}{s₁:Shared}{vs:List Value}{ns:List Int}
  (KX:K.In s₁.heap) (hns:s₁.heap.Ns mainGlobals mg) (hb:s₁.heap.Ns builtinsNs mb) (hbb:∀ x:Str,x ≠ "__name__" → mb x=bootBuiltins x) (hlim:s₁.heap.NoLimit) (hg:s₁.gens=#[])
  (ha:s₁.heap.get? a=some { cls := .type "list",data := .seq vs.toArray }) (hi:IntsAre vs ns) (hl:ns.length≤sizeLine) (hr:Room k callerA)
  (F:∀ base:Heap,K.In base→base.Ns mainGlobals mg→FnOk P w K mg base CX k fa fd [x] sp) (hbind:∀(s:Shared) (u:Value),BindsTo s fd ⟨[u],[]⟩ [(x,u)])
  (hsp:∀ H:Hp,Only H→SqL K H a (ns.map V.int)→sp [.ref a] H (fun v _=>v = .bl true) fun _ _ _=>False)
  (hCX:∀ H e s',CX [] H s₁ (fun _ _ _=>False) e s'→False) :
  codeAny (model P w) callerA (.call (.ref fa) ⟨[.ref a],[]⟩) (fun r s'=>r = .ok (.ret (.bool true))∧OldK s₁.heap s'.heap∧s'.os=s₁.os∧AllBare s'.gens) s₁:=by
 have rv:=AQ hi
 have lenV:=hi.length
 have core:∀ H:Hp,Only H→SqL K H a (ns.map V.int)→HOk P w H s₁.heap→(∀ b,H b≠none→b=a)→(H a≠none→K.lookup a=none) →
    codeAny (model P w) callerA (.call (.ref fa) ⟨[.ref a],[]⟩) (fun r s'=>r = .ok (.ret (.bool true))∧OldK s₁.heap s'.heap∧s'.os=s₁.os∧AllBare s'.gens) s₁:=by
  intro H hO hS hok hA hK
  have base_of:∀{b:Addr} {o:Obj},s₁.heap.get? b=some o→H b=none→(hidT s₁.heap H).get? b=some o:=fun e n=>Hb e n
  have noA:∀{b:Addr} {o:Obj} {es:Array DictEntry} {ep:Nat},s₁.heap.get? b=some o→o.data = .dict es ep→H b=none:=fun{b o es ep} e d=>by
    cases q:H b with
    | none=>rfl
    | some u =>
      have e':b=a:=hA b (by rw[q];simp)
      subst e'
      rw[ha]at e;cases e
      have d':Data.seq vs.toArray _=Data.dict es ep:=d
      cases d'
  have nsK:∀{b:Addr} {m:Str→Option Value},s₁.heap.Ns b m→(hidT s₁.heap H).Ns b m:=fun{b m} ⟨o,es,ep,e,d,r⟩=>⟨o,es,ep,base_of e (noA e d),d,r⟩
  have hKb:K.In (hidT s₁.heap H):=fun b o e=>base_of (KX b o e) (by
    cases q:H b with
    | none=>rfl
    | some u =>
      have e':b=a:=hA b (by rw[q];simp)
      subst e'
      rw[hK (by rw[q];simp)]at e;cases e)
  have hM:Mod K mg (hidT s₁.heap H):=⟨hKb,nsK hns,⟨mb,nsK hb,hbb⟩,let ⟨mc,h1,h2⟩:=hlim;⟨mc,nsK h1,h2⟩⟩
  have e0:Env0 P w K mg (hidT s₁.heap H) callerA [] s₁ H:=⟨rfl,hM,fun b o e=>Kq e,Nat.le_of_eq (GA _ _),trivial,fun b hb=>absurd (show b∈([]:List Addr)from hb) (by simp),hok,.of_eq hg⟩
  refine codeAny_mono ((F _ hKb (nsK hns)).run callerA [] s₁ H ⟨[.ref a],[]⟩ [.ref a] [.ref a] _ _ hr e0 (hbind s₁ (.ref a)) (.cons rfl .nil) (hsp H hO hS)) fun r s' h=>?_
  cases r with
  | error e=>exact(hCX H e s' h).elim
  | ok fl =>
    cases fl with
    | next=>exact False.elim h
    | brk=>exact False.elim h
    | cont=>exact False.elim h
    | ret u =>
      obtain⟨v,H',os,bare,un,hok',r',q⟩:=h
      have q':v = .bl true:=q
      subst q'
      obtain rfl:u=Value.bool true:=r'
      refine⟨rfl,OldK.of_keep fun b o e=>?_,os,bare⟩
      cases q:H b with
      | none=>exact un.keep b o e q (by intro z;exact absurd (show b∈([]:List Addr)from z) (by simp)) (by simp)
      | some u =>
       rcases hO b with z|⟨ob,xs,z⟩
       · rw[q]at z;cases z
       · have z2:=un.frzs b ob _ z
         obtain⟨e1,_⟩:=hok b _ z
         obtain⟨e2,_⟩:=hok' b _ z2
         rw[e]at e1;cases e1
         exact e2
 cases hk:K.lookup a with
 | some o =>
  have e:=KX a o hk
  rw[ha]at e
  cases e
  refine core (fun _=>none) (fun _ => .inl rfl) (.inr ⟨_,vs.toArray,_,hk,rfl,rfl,rfl,by rw[List.size_toArray,lenV];exact hl,by simpa using rv⟩) (fun b u z=>by have z':(none:Option HO)=some u:=z;cases z') (fun b z=>absurd rfl z) fun z=>absurd rfl z
 | none =>
  refine core (fun b=>if b=a then some (.frz { cls := .type "list",data := .seq vs.toArray } (.lst (ns.map V.int))) else none) (fun b=>?_) (.inl (.inr ⟨{ cls := .type "list",data := .seq vs.toArray },if_pos rfl⟩)) (fun b u z=>?_) (fun b z=>?_) fun _=>hk
  · by_cases hb:b=a
    · exact .inr ⟨_,_,if_pos hb⟩
    · exact .inl (if_neg hb)
  · by_cases hb:b=a
    · have z':=(if_pos hb).symm.trans z
      cases z'
      subst hb
      exact⟨ha,by rw[List.length_map];exact hl,vs,_,rv,ha⟩
    · have z':=(if_neg hb).symm.trans z
      cases z'
  · by_cases hb:b=a
    · exact hb
    · exact absurd (if_neg hb) z
end L2
namespace L2
open PySem PySem.Spec PyProof.Rows
theorem KB{l:PySem.W.OpenLaw}{n k:Nat}{q:Program}{loose:List Str}{XP:(Str→Option Value)→Heap→Prop}{YP:World→Heap→Prop}{d:DefRec}{K:Params→PySem.W.Frag}{CX:World→CXT}{sp:World→Sp}{x:Str}
  (hn:l.most=some n) (hn2:n≤sizeLine) (hdf:d.params.defaults=[]) (hr:Room k callerA)
  (hY:∀(w:World) (h:Heap),YP w h→(K w.params).In h)
  (F:∀(w:World) (mg:Str→Option Value) (fa:Addr) (h:Heap),(K w.params).In h→h.Ns mainGlobals mg→mg d.name=some (.ref fa) →
   ∃ fd:FuncData,(∀(s:Shared) (u:Value),BindsTo s fd ⟨[u],[]⟩ [(x,u)]) ∧
    ∀ base:Heap,(K w.params).In base→base.Ns mainGlobals mg→FnOk l.prog w (K w.params) mg base (CX w) k fa fd [x] (sp w))
  (hsp:∀(w:World) (H:Hp) (a:Addr) (ns:List Int),ns.length≤n→Only H→SqL (K w.params) H a (ns.map V.int)→sp w [.ref a] H (fun v _=>v = .bl true) fun _ _ _=>False)
  (hCX:∀(w:World) (H:Hp) (s:Shared) (e:Value) (s':Shared),CX w [] H s (fun _ _ _=>False) e s'→False) :
  PySem.W.WalkO q loose XP YP l.row.toRowW d [] (fun f vs=>PySem.call f vs):=by
 refine Att.attach_call hn hdf fun w s₀ s₁ mg mb fa o pm cd doc a vs ns G Y ho hd hcd hmg hobj hints hlen hg=>?_
 have KX:=hY w _ Y
 obtain⟨fd,hb,hF⟩:=F w mg fa _ KX G.T.g hmg
 exact Hv KX G.T.g G.T.b G.T.builtins G.T.nolimit hg hobj hints (Nat.le_trans hlen hn2) hr hF hb (fun H hO hS=>hsp w H a ns hlen hO hS) fun H e s'=>hCX w H s₁ e s'
end L2
namespace L2
open PySem PySem.Spec PyProof.Rows
def u4(s:Stmt):Arguments:=match s with
 | .FunctionDef _ a _ _ _ _ _ _ _ _=>a
 | _=>{ posonlyargs:=[],args:=[],vararg:=none,kwonlyargs:=[],kw_defaults:=[],kwarg:=none,defaults:=[] }
def j9(s:Stmt):List Stmt:=match s with
 | .FunctionDef _ _ b _ _ _ _ _ _ _=>b
 | _=>[]
def f8(s:Stmt):Scope:=match s with
 | .FunctionDef _ _ _ _ _ _ sc _ _ _=>sc
 | _=>{ kind := .function,names:=[],isGenerator:=false,isCoroutine:=false }
abbrev CX0:CXT:=fun _ _ _ _ _ _=>False
abbrev E0:XK:=fun _ _ _=>False
theorem O0{X:Cx}:B5 CX0 X E0:=fun _ _ _ _ _ _ _ h=>h.elim
structure Fun(K:PySem.W.Frag)(x qual:Str)(st:Stmt)(f:Addr)(fd:FuncData):Prop where
 ex:∃(oc:Value) (od:Option Addr) (kV doc pm:Value) (an:Option Addr) (cdv ct:Value) (osl:Array (Option Value)),
  fd=PySem.W.fnOf x qual (u4 st) (j9 st) (f8 st) .none kV doc pm an cdv ct∧K.lookup f=some ⟨oc,od,.func fd,osl⟩∧PySem.W.codeIn K cdv qual=true
 kp:PySem.W.keepIn K (.ref f)=true
section
variable {P:Program}{w:World}{K:PySem.W.Frag}{mg:Str→Option Value}{base:Heap}
theorem Fun.ok{x qual:Str}{st:Stmt}{f:Addr}{fd:FuncData}{N ps:List Str}{k:Nat}{sp:Sp}(F:Fun K x qual st f fd)(S:FnScope N ps (f8 st))(len:∀ vs H Q E,sp vs H Q E→vs.length=ps.length)
  (hbody:∀(cdv:Value) (A:Around) (outer:List Env) (s:Shared) (H:Hp) (vs:List V) (Q:VK) (E:XK),Room k (A.deeper (envOfC qual (f8 st) s.heap.objs.size f cdv))→sp vs H Q E →
   ∃ t,PSs (cxOf CX0 P w K mg base N qual (f8 st) f cdv A outer s H E).nox (j9 st) t∧t { nx:=fun _ H'=>Q .non H',rt:=Q } (start N vs) H):FnOk P w K mg base CX0 (k+1) f fd ps sp:=by
 obtain⟨oc,od,kV,doc,pm,an,cdv,ct,osl,rfl,lk,hcd⟩:=F.ex
 refine N8 lk hcd S len fun A outer s H vs Q E hr hsp=>?_
 obtain⟨t,h,q⟩:=hbody cdv A outer s H vs Q E hr hsp
 exact⟨t,h.nox,q⟩
theorem Fun.binds{x qual:Str}{st:Stmt}{f:Addr}{fd:FuncData}{ps:List Str}(F:Fun K x qual st f fd)
  (h:∀(kV doc pm:Value) (an:Option Addr) (cdv ct:Value) (us:List Value),us.length=ps.length→bindArgs (PySem.W.fnOf x qual (u4 st) (j9 st) (f8 st) .none kV doc pm an cdv ct) ⟨us,[]⟩=pure (ps.zip us)):Binds K fd ps []:=by
 obtain⟨oc,od,kV,doc,pm,an,cdv,ct,osl,rfl,lk,hcd⟩:=F.ex
 exact .all (h kV doc pm an cdv ct)
theorem Hw{x qual:Str}{st:Stmt}{f:Addr}{oc:Value}{od an:Option Addr}{osl:Array (Option Value)}{kV doc pm cdv ct:Value}(l:K.lookup f=some ⟨oc,od,.func (PySem.W.fnOf x qual (u4 st) (j9 st) (f8 st) .none kV doc pm an cdv ct),osl⟩)
 (c:PySem.W.codeIn K cdv qual=true) (k:PySem.W.keepIn K (.ref f)=true):Fun K x qual st f (PySem.W.fnOf x qual (u4 st) (j9 st) (f8 st) .none kV doc pm an cdv ct):=⟨⟨oc,od,kV,doc,pm,an,cdv,ct,osl,rfl,l,c⟩,k⟩
end
section
variable {X:Cx}
end
def Same(H H':Hp):Prop:=∀ b o,H b=some o→H' b=some o
theorem Same.refl(H:Hp):Same H H:=fun _ _ h=>h
theorem Same.trans{H H1 H2:Hp}(a:Same H H1)(b:Same H1 H2):Same H H2:=fun c o h=>b c o (a c o h)
theorem Same.free{H H':Hp}(e:Same H H'){l:Addr}(h:H' l=Option.none):H l=Option.none:=by
 cases q:H l with
 | none=>rfl
 | some o =>
  rw[e l o q]at h
  cases h
theorem Same.seq{K:PySem.W.Frag}{H H':Hp}{a:Addr}{xs:List V}(e:Same H H')(h:SqL K H a xs):SqL K H' a xs:=by
 rcases h with(h|⟨o,h⟩)|h
 · exact .inl (.inl (e _ _ h))
 · exact .inl (.inr ⟨o,e _ _ h⟩)
 · exact .inr h
end L2

end
section
set_option Elab.async false
set_option linter.all false
set_option maxRecDepth 100000
namespace L2
open PySem PySem.Spec PyProof.Rows
theorem Hx{x:Str}{lo:Nat}:∀(names:List (Str×NameKind)) (n:Nat) (acc:List (Str×Addr)) (c:Addr),lo≤n→(∀ c,acc.lookup x=some c→lo≤c)→(cellsFrom n names acc).lookup x=some c→lo≤c
 | [],_,_,_,_,h,e=>h _ e
 | (y,k)::r,n,acc,c,hn,h,e=>by
  unfold cellsFrom at e
  split at e
  · refine Hx r (n+1) _ c (Nat.le_succ_of_le hn) (fun c' e'=>?_) e
    rw[List.lookup_cons]at e'
    split at e'
    · cases e';exact hn
    · exact h c' e'
  · exact Hx r n acc c hn h e
theorem Dp{x:Str}:∀(names:List (Str×NameKind)) (n:Nat) (acc:List (Str×Addr)) (c:Addr),names.lookup x=some .cell→(cellsFrom n names acc).lookup x=some c→n≤c
 | [],_,_,_,h,_=>by cases h
 | (y,k)::r,n,acc,c,h,e=>by
  rw[List.lookup_cons]at h
  unfold cellsFrom at e
  cases hb:x==y with
  | true =>
   rw[hb]at h
   have hk:k = .cell:=by cases h;rfl
   subst hk
   rw[if_pos (show(NameKind.cell==NameKind.cell)=true from rfl)]at e
   refine Hx r (n+1) _ c (Nat.le_succ _) (fun c' e'=>?_) e
   rw[List.lookup_cons,hb]at e'
   cases e'
   exact Nat.le_refl _
  | false =>
   rw[hb]at h
   split at e
   · exact Nat.le_of_succ_le (Dp r (n+1) _ c h e)
   · exact Dp r n acc c h e
theorem Dq{x:Str}:∀(names:List (Str×NameKind)) (n:Nat) (acc:List (Str×Addr)),(∀ y∈names,y.1=x→y.2 ≠ .cell)→(cellsFrom n names acc).lookup x=acc.lookup x
 | [],_,_,_=>rfl
 | (y,k)::r,n,acc,h=>by
  unfold cellsFrom
  have hr:∀ y∈r,y.1=x→y.2 ≠ .cell:=fun z hz=>h z (List.mem_cons_of_mem _ hz)
  split
  · rename_i hk
    rw[Dq r (n+1) _ hr,List.lookup_cons]
    have hne:(x==y)=false:=by
     cases hb:x==y with
     | false=>rfl
     | true=>exact absurd (beq_iff_eq.mp hk) (h (y,k) List.mem_cons_self (beq_iff_eq.mp hb).symm)
    rw[hne]
  · exact Dq r n acc hr
theorem Dr:∀(names:List (Str×NameKind)) (n:Nat) (acc:List (Str×Addr)) (p:Str×Addr),p∈cellsFrom n names acc→n≤p.2∨p∈acc
 | [],_,_,_,e => .inr e
 | (y,k)::r,n,acc,p,e=>by
  unfold cellsFrom at e
  split at e
  · rcases Dr r (n+1) _ p e with q|q
    · exact .inl (Nat.le_of_succ_le q)
    · rcases List.mem_cons.mp q with q|q
      · subst q;exact .inl (Nat.le_refl _)
      · exact .inr q
  · exact Dr r n acc p e
theorem Y7:∀(names:List (Str×NameKind)) (n:Nat) (acc:List (Str×Addr)),(∀ p∈acc,p.2<n)→(acc.Pairwise fun x y=>x.2≠y.2)→(cellsFrom n names acc).Pairwise fun x y=>x.2≠y.2
 | [],_,_,_,h=>h
 | (y,k)::r,n,acc,hl,h=>by
  unfold cellsFrom
  split
  · refine Y7 r (n+1) _ (fun p hp=>?_) (List.pairwise_cons.mpr ⟨fun p hp e=>?_,h⟩)
    · rcases List.mem_cons.mp hp with q|q
      · subst q;exact Nat.lt_succ_self _
      · exact Nat.lt_succ_of_lt (hl p q)
    · have e':n=p.2:=e
      have q:=hl p hp
      rw[←e']at q
      exact absurd q (Nat.lt_irrefl _)
  · exact Y7 r n acc hl h
theorem Y8:∀(names:List (Str×NameKind)) (n:Nat) (acc:List (Str×Addr)),cellsFrom n names acc=cellsFrom n names []++acc
 | [],_,_=>rfl
 | (y,k)::r,n,acc=>by
  unfold cellsFrom
  split
  · rw[Y8 r (n+1) ((y,n)::acc),Y8 r (n+1) [(y,n)],List.append_assoc]
    rfl
  · exact Y8 r n acc
def n0(env:Env):List (Str×NameKind)→List (Str×Addr)→List (Str×Addr)
 | [],acc=>acc
 | (y,k)::r,acc=>if k == .free then n0 env r (match env.cells.lookup y with|some c=>(y,c)::acc|none=>acc) else n0 env r acc
theorem D6{env:Env}{x:Str}:∀(names:List (Str×NameKind)) (acc:List (Str×Addr)),(∀ c,acc.lookup x=some c→env.cells.lookup x=some c)→∀ c,(n0 env names acc).lookup x=some c→env.cells.lookup x=some c
 | [],_,h=>h
 | (y,k)::r,acc,h=>by
  unfold n0
  split
  · refine D6 r _ fun c e=>?_
    cases hy:env.cells.lookup y with
    | none=>rw[hy]at e;exact h c e
    | some d =>
     rw[hy]at e
     dsimp only at e
     rw[List.lookup_cons]at e
     split at e
     · rename_i hb
       cases e
       rw[beq_iff_eq.mp hb];exact hy
     · exact h c e
  · exact D6 r acc h
theorem P0{env:Env}:∀(names:List (Str×NameKind)) (acc:List (Str×Addr)) (p:Str×Addr),p∈n0 env names acc→p∈acc∨env.cells.lookup p.1=some p.2
 | [],_,_,h => .inl h
 | (y,k)::r,acc,p,h=>by
  unfold n0 at h
  split at h
  · rcases P0 r _ p h with q|q
    · cases hy:env.cells.lookup y with
      | none=>rw[hy]at q;exact .inl q
      | some d =>
       rw[hy]at q
       rcases List.mem_cons.mp q with q|q
       · subst q;exact .inr hy
       · exact .inl q
    · exact .inr q
  · exact P0 r acc p h
theorem G1{env:Env}{x:Str}:∀(names:List (Str×NameKind)) (acc:List (Str×Addr)),(acc.lookup x).isSome=true→((n0 env names acc).lookup x).isSome=true
 | [],_,h=>h
 | (y,k)::r,acc,h=>by
  unfold n0
  split
  · refine G1 r _ ?_
    cases hy:env.cells.lookup y with
    | none=>exact h
    | some d =>
     show(List.lookup x ((y,d)::acc)).isSome=true
     rw[List.lookup_cons]
     split
     · rfl
     · exact h
  · exact G1 r acc h
theorem P1{env:Env}{x:Str}{c:Addr}:∀(names:List (Str×NameKind)) (acc:List (Str×Addr)),names.lookup x=some .free→env.cells.lookup x=some c→((n0 env names acc).lookup x).isSome=true
 | [],_,h,_=>by cases h
 | (y,k)::r,acc,h,hc=>by
  rw[List.lookup_cons]at h
  unfold n0
  cases hb:x==y with
  | true =>
   rw[hb]at h
   have hk:k = .free:=by cases h;rfl
   subst hk
   rw[if_pos (show(NameKind.free==NameKind.free)=true from rfl)]
   refine G1 r _ ?_
   have hxy:x=y:=beq_iff_eq.mp hb
   subst hxy
   rw[hc]
   show(List.lookup x ((x,c)::acc)).isSome=true
   rw[List.lookup_cons,hb];rfl
  | false =>
   rw[hb]at h
   split
   · exact P1 r _ h hc
   · exact P1 r _ h hc
theorem P2{env:Env}:∀(names:List (Str×NameKind)) (acc:List (Str×Addr)) (f:Str×NameKind→List (Str×Addr)→Sem (ForInStep (List (Str×Addr)))),
  (∀ name kind cs,f (name,kind) cs=if kind == .free then(do let a ←cellOf env name;pure (.yield ((name,a)::cs))) else pure (.yield cs)) →
  (∀ y∈names,y.2 = .free→∃ c,env.cells.lookup y.1=some c)→forIn names acc f=(pure (n0 env names acc):Sem _)
 | [],acc,f,hf,h=>by rw[List.forIn_nil];rfl
 | (y,k)::r,acc,f,hf,h=>by
  have hr:∀ z∈r,z.2 = .free→∃ c,env.cells.lookup z.1=some c:=fun z hz=>h z (List.mem_cons_of_mem _ hz)
  rw[List.forIn_cons,hf]
  unfold n0
  by_cases hk:(k==NameKind.free)=true
  · rw[if_pos hk,if_pos hk]
    obtain⟨c,hc⟩:=h (y,k) List.mem_cons_self (beq_iff_eq.mp hk)
    have hc':env.cells.lookup y=some c:=hc
    have e:cellOf env y=(pure c:Sem Addr):=by unfold cellOf;rw[hc']
    rw[e,hc']
    simp only[pure_bind]
    exact P2 r _ f hf hr
  · rw[if_neg hk,if_neg hk]
    simp only[pure_bind]
    exact P2 r _ f hf hr
theorem Ds{scope:Scope}{env:Env}(h:∀ y∈scope.names,y.2 = .free→∃ c,env.cells.lookup y.1=some c):closureFor scope env=pure (n0 env scope.names []):=by
 unfold closureFor
 simp only[]
 rw[P2 scope.names [] _ (fun name kind cs=>by cases hk:kind==NameKind.free<;>simp[hk]) h]
 rfl
end L2

end
section
set_option linter.all false
namespace L2
open PySem
section
variable {prog:Program}{w:World}{A:Around}{R:Result→Shared→Prop}{s:Shared}
theorem BF{elt target iter:Expr}{ifs:List Expr}{scope:Scope}{pos:Pos}{it acc:Value}{env:Env}(I:Nat→Shared→Prop)
  (turn:∀ n s,I n s→wpAny (model prog w) A (pyNext it) (fun r s₁=>match r with
   | none=>R (.ok .next) s₁
   | some v=>wpAny (model prog w) A (letOwnedTupleGo target it v) (fun _ s₁'=>wpAny (model prog w) A (assign target env v) (fun _ s₂ =>
    wpAny (model prog w) A (forIn ifs true fun c r=>if r=true then do let ok ←isTrue c env (eval c env);pure (ForInStep.yield ok) else pure (ForInStep.yield r)) (fun ok s₃ =>
     if ok=true then wpAny (model prog w) A (eval elt env) (fun x s₄ =>
      wpAny (model prog w) A (call (.builtin "list.append") [acc,x]) (fun _ s₅=>∃ m,m<n∧I m s₅) (notedBy (model prog w) A env fun e s'=>R (.error e) s') s₄) (notedBy (model prog w) A env fun e s'=>R (.error e) s') s₃
     else ∃ m,m<n∧I m s₃) (notedBy (model prog w) A env fun e s'=>R (.error e) s') s₂) (notedBy (model prog w) A env fun e s'=>R (.error e) s') s₁')
    (notedBy (model prog w) A env fun e s'=>R (.error e) s') s₁) (notedBy (model prog w) A env fun e s'=>R (.error e) s') s)
  (n:Nat) (h:I n s) :
  codeAny (model prog w) A (.compLoop (.ListComp elt [⟨target,iter,ifs,0⟩] scope pos) 0 it acc env) R s:=by
 refine codeAny_loop rfl I (fun n s hI=>?_) n h
 show wpAny _ A ((compTurn (.ListComp elt [⟨target,iter,ifs,0⟩] scope pos) 0 it acc env).onRaise (fun x=>do noteFrame x env;theTreesLotGoes x)) _ _ s
 refine wpAny_noted ?_
 rw[compTurn_list]
 refine wpAny_bind (wpAny_standAt (wpAny_bind (wpAny_mono (turn n s hI) (fun r s₁ h₁=>?_) fun _ _ h'=>h')))
 cases r with
 | none=>exact wpAny_pure h₁
 | some v =>
  refine wpAny_bind (wpAny_mono h₁ (fun _ s₁' h₁'=>?_) fun _ _ h'=>h')
  refine wpAny_bind (wpAny_mono h₁' (fun _ s₂ h₂=>wpAny_bind (wpAny_mono h₂ (fun ok s₃ h₃=>?_) fun _ _ h'=>h')) fun _ _ h'=>h')
  cases ok with
  | false=>exact wpAny_pure ⟨rfl,h₃⟩
  | true =>
   exact wpAny_bind (wpAny_bind (wpAny_mono h₃ (fun x s₄ h₄=>wpAny_bind (wpAny_mono h₄ (fun _ s₅ h₅=>wpAny_pure (wpAny_pure ⟨rfl,h₅⟩)) fun _ _ h'=>h')) fun _ _ h'=>h'))
theorem Hy{M:Model}{E:Value→Shared→Prop}{scope:Scope}{globals:Addr}{cl:List (Str×Addr)}{qual:Str}{func:Option Addr}{code:Value}{env:Env}{Q:Env→Shared→Prop}
  (hQ:∀ h',h'.Ns s.heap.objs.size (fun _=>none)→(∀ b o,s.heap.get? b=some o→h'.get? b=some o)→(∀ n c,(n,c)∈cellsFrom (s.heap.objs.size+1) scope.names []→h'.IsCell c none) →
   Q (newEnv scope s.heap.objs.size globals (cellsFrom (s.heap.objs.size+1) scope.names cl) qual func code (some env) builtinsNs) { s with heap:=h' }) :
  wpAny M A (newFunctionEnv scope globals cl [] qual func code (some env)) Q E s:=by
 simp only[newFunctionEnv,Option.isSome_some,if_true]
 refine wpAny_bind (wpAny_alloc ?_)
 refine wpAny_bind (wpAny_layCells _ (fun name kind cells=>by cases hkc:kind==NameKind.cell<;>simp[hkc]) _ _ _ _ ?_)
 have ok:=cellsFrom_ok scope.names (s.heap.push { cls := .type "dict",data := .dict #[] }) (s.heap.objs.size+1) [] ⟨fun _ _ hm=>(nomatch hm),List.Pairwise.nil⟩ (by rw[Heap.size_push];exact Nat.le_refl _)
 rw[Heap.size_push]at ok
 rw[show({ s with heap:=s.heap.push { cls := .type "dict",data := .dict #[] } }:Shared).heap.objs.size=s.heap.objs.size+1 from Heap.size_push ..]
 refine wpAny_bind ?_
 rw[List.forIn_nil]
 refine wpAny_pure (wpAny_pure ?_)
 exact hQ _ ((Heap.Ns.new s.heap (.type "dict")).keeps (pushCells_keeps _ _)) (fun b o e=>pushCells_keeps _ _ b o (Heap.get?_push_of_some _ e)) fun n c hm=>(ok.empty n c hm).1
end
end L2

end
section
set_option Elab.async false
set_option linter.all false
set_option maxRecDepth 100000
namespace L2
open PySem PySem.Spec PyProof.Rows
def r8(X:Cx)(N:List Str)(scope:Scope)(cl:List (Str×Addr))(C:Addr)(fp:List Addr)(s:Shared)(H:Hp):Cx where
 prog:=X.prog
 w:=X.w
 K:=X.K
 mg:=X.mg
 base:=X.base
 A:=X.A
 N:=N
 s₀:=s
 H₀:=H
 env:=compEnvC scope cl C X.env
 outer:=X.stack
 stack:=X.stack
 ex:=fp
 fn:=fun x=>scope.names.lookup x==some .cell
 calm:=X.calm
 pn:=[]
 xe:=fun _ _=>False
structure CompScope(X:Cx)(N:List Str)(scope:Scope)(nt:Nat)(js:List Nat):Prop where
 kind:scope.kind = .function
 nd:(scope.names.map (·.1)).Nodup
 loc:∀ x∈scope.names,x.2 = .local→scope.names.lookup x.1=some .local
 len:N.length=nt+js.length
 names:∀ k j,js[k]?=some j→∃ x,N[nt+k]?=some x∧X.N[j]?=some x∧scope.names.lookup x=some .free
 fre:∀ x∈scope.names,x.2 = .free→X.env.kindOf x.1=some .cell∨X.env.kindOf x.1=some .free
def sig(nt:Nat)(js:List Nat)(σ:St):St:=List.replicate nt none++js.map fun j=>(σ[j]?).join
def PTs(X:Cx)(ifs:List Expr)(t:TT):Prop :=
 ∀(pins:List (Addr×Obj)) (s:Shared) (σ:St) (H:Hp) (Q:Bool→Hp→Prop),Inv X pins σ H s→t σ H Q →
  wpAny (model X.prog X.w) X.A (forIn ifs true fun c r=>if r=true then do let ok ←isTrue c X.env (eval c X.env);pure (ForInStep.yield ok) else pure (ForInStep.yield r)) (TP X pins σ Q) X.xe s
def tYes:TT:=fun _ H Q=>Q true H
theorem KC{X:Cx}:PTs X [] tYes:=fun pins s σ H Q I h=>wpAny_tests_nil ⟨H,I,h⟩
theorem nlt{a b:Nat}(h1:a+1≤b)(h2:b<a):False:=by omega
theorem B6{α:Type}:∀{l:List (Str×α)} {p:Str×α},(l.map (·.1)).Nodup→p∈l→l.lookup p.1=some p.2
 | [],_,_,h=>by cases h
 | (y,k)::r,p,nd,h=>by
  have nd:(y::r.map (·.1)).Nodup:=nd
  obtain⟨n1,n2⟩:=List.nodup_cons.mp nd
  rw[List.lookup_cons]
  rcases List.mem_cons.mp h with e|e
  · subst e
    show(match y==y with|true=>some k|false=>_)=some k
    rw[beq_self_eq_true]
  · cases hb:p.1==y with
    | true =>
     rw[←beq_iff_eq.mp hb]at n1
     exact absurd (List.mem_map.mpr ⟨p,e,rfl⟩) n1
    | false=>exact B6 n2 e
theorem J9{env:Env}{x:Str}:∀{names:List (Str×NameKind)} {k:NameKind},names.lookup x=some k →
  (names.map fun(n,k)=>if(k==NameKind.free&&env.scope.kind == .function&&env.kindOf n==some .cell) then(n,NameKind.cell) else(n,k)).lookup x=some (if(k==NameKind.free&&env.scope.kind == .function&&env.kindOf x==some .cell)=true then .cell else k)
 | [],_,h=>by cases h
 | (y,k')::r,k,h=>by
  rw[List.lookup_cons]at h
  show List.lookup x ((if(k'==NameKind.free&&env.scope.kind == .function&&env.kindOf y==some .cell)=true then(y,NameKind.cell) else(y,k'))::_)=_
  cases hb:x==y with
  | true =>
   rw[hb]at h
   have hk:k'=k:=by cases h;rfl
   have hxy:x=y:=beq_iff_eq.mp hb
   subst hk;subst hxy
   split<;>(rw[List.lookup_cons];rw[hb])
  | false =>
   rw[hb]at h
   have ih:=@J9 env x r k h
   split<;>(rw[List.lookup_cons];rw[hb];exact ih)
theorem G2{env:Env}{x:Str}{k:NameKind}:∀{names:List (Str×NameKind)},
  (names.map fun(n,k)=>if(k==NameKind.free&&env.scope.kind == .function&&env.kindOf n==some .cell) then(n,NameKind.cell) else(n,k)).lookup x=some k→∃ k',names.lookup x=some k'∧(k=k'∨(k' = .free∧k = .cell))
 | [],h=>by cases h
 | (y,k')::r,h=>by
  have h:List.lookup x ((if(k'==NameKind.free&&env.scope.kind == .function&&env.kindOf y==some .cell)=true then(y,NameKind.cell) else(y,k'))::r.map fun(n,k)=>if(k==NameKind.free&&env.scope.kind == .function&&env.kindOf n==some .cell) then(n,NameKind.cell) else(n,k))=some k:=h
  rw[List.lookup_cons]
  cases hb:x==y with
  | true =>
   split at h
   · rename_i hc
     rw[List.lookup_cons,hb]at h
     have hf:(k'==NameKind.free)=true:=by
      rw[Bool.and_eq_true,Bool.and_eq_true]at hc
      exact hc.1.1
     cases h
     exact⟨k',rfl,.inr ⟨beq_iff_eq.mp hf,rfl⟩⟩
   · rw[List.lookup_cons,hb]at h
     cases h
     exact⟨k,rfl,.inl rfl⟩
  | false =>
   split at h
   all_goals
     rw[List.lookup_cons,hb]at h
     exact G2 h
section
variable {X:Cx}{N:List Str}{scope:Scope}{nt:Nat}{js:List Nat}{pins:List (Addr×Obj)}{σ:St}{H:Hp}{s:Shared}{fp:List Addr}
theorem Hz{s2:Shared}{H2:Hp}(S:CompScope X N scope nt js)(I2:Inv X pins σ H2 s2)(I:Inv X pins σ H s)(hu:Un (frs X.stack) fp H2 H s2.heap s.heap)(hos:s.os=s2.os)(hz:s2.heap.objs.size≤s.heap.objs.size)
   (hf:∀ b∈fp,FpOk X pins H b) (ho:∀ b∈fp,∃ o,s.heap.get? b=some o) {h':Heap}
   (ns:h'.Ns s.heap.objs.size (fun _=>none)) (k:∀ b o,s.heap.get? b=some o→h'.get? b=some o) (nc:∀ n c,(n,c)∈cellsFrom (s.heap.objs.size+1) scope.names []→h'.IsCell c none) :
   Inv (r8 X N scope (cellsFrom (s.heap.objs.size+1) scope.names (n0 X.env scope.names [])) s.heap.objs.size fp s2 H2) [] (sig nt js σ) H { s with heap:=h' }:=by
 have ok:=I.ok
 have hcl:∀ p∈n0 X.env scope.names [],X.env.cells.lookup p.1=some p.2:=fun p hp=>(P0 _ _ p hp).resolve_left (by simp)
 have hlt:∀ x c,X.env.cells.lookup x=some c→c<s.heap.objs.size:=fun x c e=>by
   obtain⟨v,o,ho,_⟩:=I.cell x c e
   exact Heap.lt_size ho
 have mem:∀ x c,(cellsFrom (s.heap.objs.size+1) scope.names (n0 X.env scope.names [])).lookup x=some c→s.heap.objs.size+1≤c∨X.env.cells.lookup x=some c:=fun x c e=>by
   rcases Dr _ _ _ _ (PySem.mem_of_lookup e)with q|q
   · exact .inl q
   · exact .inr (hcl _ q)
 have frec:∀ x,scope.names.lookup x=some .free→∃ c,X.env.cells.lookup x=some c∧(cellsFrom (s.heap.objs.size+1) scope.names (n0 X.env scope.names [])).lookup x=some c:=fun x hx=>by
   obtain⟨c,hc⟩:=ok.has x (S.fre (x,.free) (PySem.mem_of_lookup hx) rfl)
   refine⟨c,hc,?_⟩
   rw[Dq _ _ _ fun y hy e=>?_]
   · obtain⟨d,hd⟩:=Option.isSome_iff_exists.mp (P1 (env:=X.env) scope.names [] hx hc)
     have:=D6 (env:=X.env) (x:=x) scope.names [] (fun c e=>by simp at e) d hd
     rw[hc]at this
     cases this
     exact hd
   · have q:=B6 S.nd hy
     rw[e,hx]at q
     intro z
     rw[z]at q
     cases q
 refine⟨⟨ok.mod,S.kind,ok.glob,ok.blt,hz,fun x y c hx hy=>?_,fun x hx=>?_,fun x c hx e=>?_,ok.hd,ok.frames,.inl rfl,fun b hb=>⟨?_,fun x c e=>?_⟩,fun b o e=>?_,?_,fun b o e hb=>?_,fun b hb=>?_,I2.stack,I2.stkFree⟩,
   hos,I.bare,hu.trans (Un.kept k),⟨_,ns,fun i x v h1 h2 h3=>?_⟩,fun x c e=>?_,?_,fun x c e=>?_,fun p hp=>absurd (show p∈([]:List (Addr×Obj))from hp) (by simp),I.hok.kept k,?_⟩
 ·
   rcases mem x c hx with q|q
   · rcases mem y c hy with q'|q'
     · have in1:∀ z:Str,(z,c)∈cellsFrom (s.heap.objs.size+1) scope.names (n0 X.env scope.names [])→(z,c)∈cellsFrom (s.heap.objs.size+1) scope.names []:=fun z hz=>by
         rw[Y8]at hz
         rcases List.mem_append.mp hz with hz|hz
         · exact hz
         · exact(nlt q (hlt _ _ (hcl _ hz))).elim
       exact name_of_addr (Y7 scope.names (s.heap.objs.size+1) [] (fun p hp=>by simp at hp) List.Pairwise.nil) (in1 x (PySem.mem_of_lookup hx)) (in1 y (PySem.mem_of_lookup hy))
     · exact(nlt q (hlt _ _ q')).elim
   · rcases mem y c hy with q'|q'
     · exact(nlt q' (hlt _ _ q)).elim
     · exact ok.inj x y c q q'
 ·
   have hx:(relabel scope X.env).names.lookup x=some .cell∨(relabel scope X.env).names.lookup x=some .free:=hx
   have cs:scope.names.lookup x=some .cell∨scope.names.lookup x=some .free:=by
     rcases hx with q|q
     · obtain⟨k',e1,e2⟩:=G2 q
       rcases e2 with e2|⟨e2,_⟩
       · rw[←e2]at e1;exact .inl e1
       · rw[e2]at e1;exact .inr e1
     · obtain⟨k',e1,e2⟩:=G2 q
       rcases e2 with e2|⟨_,e2⟩
       · rw[←e2]at e1;exact .inr e1
       · cases e2
   rcases cs with q|q
   · exact Option.isSome_iff_exists.mp (PySem.W.cellsFrom_some scope.names _ _ (.inl q))
   · obtain⟨c,_,e⟩:=frec x q
     exact⟨c,e⟩
 ·
   have hx:(scope.names.lookup x==some .cell)=true:=hx
   exact Nat.le_trans hz (Nat.le_of_succ_le (Dp scope.names _ _ c (beq_iff_eq.mp hx) e))
 ·
   intro e
   obtain⟨o,hb'⟩:=ho b hb
   exact absurd (Heap.lt_size hb') (by rw[e];exact Nat.lt_irrefl _)
 · rcases mem x c e with q|q
   · intro z
     obtain⟨o,hb'⟩:=ho b hb
     have:=Heap.lt_size hb'
     rw[←z]at this
     exact nlt q this
   · exact(hf b hb).2.2.2.2.1 x c q
 · exact I2.bs b o e
 · exact Nat.le_trans ok.bsz I2.sz
 ·
   rcases(hf b hb).2.2.2.1 with q|q
   · exact ok.noex b o e q
   · exact absurd (Nat.lt_of_lt_of_le (Heap.lt_size e) (Nat.le_trans ok.bsz q)) (Nat.lt_irrefl _)
 ·
   intro z
   rcases List.mem_cons.mp (I.stkSub b z)with q|q
   · exact(hf b hb).2.1 q
   · exact(hf b hb).2.2.1 q
 ·
   have hi:nt≤i:=by
     by_cases hi:i<nt
     · unfold sig at h2
       rw[List.getElem?_append_left (by simpa using hi),List.getElem?_replicate]at h2
       split at h2<;>cases h2
     · omega
   unfold sig at h2
   rw[List.getElem?_append_right (by simpa using hi),List.length_replicate,List.getElem?_map]at h2
   cases ej:js[i-nt]? with
   | none=>rw[ej]at h2;cases h2
   | some j =>
     rw[ej]at h2
     have h2:(σ[j]?).join=some v:=Option.some.inj h2
     obtain⟨y,n1,n2,n3⟩:=S.names _ _ ej
     have hxy:x=y:=by
       have e:nt+(i-nt)=i:=by omega
       rw[e]at n1
       have h1:N[i]?=some x:=h1
       rw[h1]at n1
       exact Option.some.inj n1
     subst hxy
     have h2':σ[j]?=some (some v):=by
       cases eσ:σ[j]? with
       | none=>rw[eσ]at h2;cases h2
       | some a =>
         rw[eσ]at h2
         have h2:a=some v:=h2
         rw[h2]
     obtain⟨m,hn,hl⟩:=I.loc
     have kd:=S.fre (x,.free) (PySem.mem_of_lookup n3) rfl
     obtain⟨u,ru,lk⟩:=hl j x v n2 h2' (.inr kd)
     refine⟨u,ru,?_⟩
     obtain⟨c,c1,c2⟩:=frec x n3
     rcases lk with⟨z,_⟩|⟨_,d,d1,d2⟩
     · have kd':X.env.kindOf x=some .cell∨X.env.kindOf x=some .free:=kd
       rw[z]at kd'
       rcases kd' with q|q<;>cases q
     · rw[c1]at d1
       cases d1
       refine .inr ⟨?_,c,c2,d2.keeps k⟩
       have:=J9 (env:=X.env) n3
       show(relabel scope X.env).names.lookup x=some .cell∨(relabel scope X.env).names.lookup x=some .free
       unfold relabel
       dsimp only
       rw[this]
       split
       · exact .inl rfl
       · exact .inr rfl
 ·
   have e:(cellsFrom (s.heap.objs.size+1) scope.names (n0 X.env scope.names [])).lookup x=some c:=e
   have hm:=PySem.mem_of_lookup e
   rw[Y8]at hm
   rcases List.mem_append.mp hm with q|q
   · exact⟨none,nc x c q⟩
   · obtain⟨v,hv⟩:=I.cell x c (hcl _ q)
     exact⟨v,hv.keeps k⟩
 · exact I.hok.fresh (Nat.le_refl _)
 · rcases mem x c e with q|q
   · exact I.hok.fresh (Nat.le_of_succ_le q)
   · exact I.freeC x c q
 · show(sig nt js σ).length=N.length
   unfold sig
   rw[List.length_append,List.length_replicate,List.length_map,S.len]
end
end L2

end
section
set_option Elab.async false
set_option linter.all false
set_option maxRecDepth 100000
namespace L2
open PySem PySem.Spec PyProof.Rows
def HA(nt:Nat)(js:List Nat)(wi:TI)(g:TG)(tc:Hp→TT)(te:Hp→TE):TE:=fun σ H Q=>wi σ H fun J H1=>∀ D,H1 D=none →
 ∃ W:Nat→Nat→List V→Hp→Prop,(∃ m,W 0 m [] (upd H1 D (.lst [])))∧∀ i m ys H,W i m ys H →
  (J.stop i H∧Q (.ref D) H)∨(J.go i H∧∀ x H',J.yld i H x H'→g x (sig nt js σ) H' fun σ2 H2=>tc H1 σ2 H2 fun b H3 =>
   if b=true then te H1 σ2 H3 fun v H4=>H4 D=some (.lst ys)∧ys.length<sizeLine∧∃ m',m'<m∧W (i+1) m' (ys++[v]) (upd H4 D (.lst (ys++[v])))
   else ∃ m',m'<m∧W (i+1) m' ys H3)
section
variable {X:Cx}{N:List Str}{scope:Scope}{nt:Nat}{js:List Nat}{tg elt iter:Expr}{ifs:List Expr}{wi:TI}{g:TG}{tc:Hp→TT}{te:Hp→TE}{pos:Pos}
theorem HB{σ σ2:St}(hl:σ2.length=(sig nt js σ).length)(h:∀ i,nt≤i→σ2[i]?=(sig nt js σ)[i]?):∀(i:Nat) v,(sig nt js σ)[i]?=some (some v)→σ2[i]?=some (some v):=fun i v e=>by
 by_cases hi:nt≤i
 · rw[h i hi];exact e
 · unfold sig at e
   rw[List.getElem?_append_left (by rw[List.length_replicate];omega),List.getElem?_replicate]at e
   split at e<;>cases e
def TgOk(nt:Nat)(g:TG):Prop:=∀ x σ H (Q:St→Hp→Prop),g x σ H Q→g x σ H fun σ2 H2=>(σ2.length=σ.length∧∀ i,nt≤i→σ2[i]?=σ[i]?)∧Q σ2 H2
theorem HC(S:CompScope X N scope nt js)(hc:X.calm=true)(hi:PI X tg iter wi)
  (hg:∀ cl C fp s H,PG (r8 X N scope cl C fp s H) tg g) (ht:TgOk nt g) (hcs:∀ cl C fp s H,PTs (r8 X N scope cl C fp s H) ifs (tc H)) (he:∀ cl C fp s H,PE (r8 X N scope cl C fp s H) elt (te H))
  {use:Option (Value→Sem Unit)} {pins:List (Addr×Obj)} {s:Shared} {σ:St} {H:Hp} {Q:VK} {Q':Value→Shared→Prop} (I:Inv X pins σ H s) (h:HA nt js wi g tc te σ H Q)
  (hs:∀ x,foldedSetIterable iter X.env x=pure x)
  (fin:∀(D C:Addr) (H':Hp) (s':Shared),Inv X pins σ H' s'→Q (.ref D) H'→H' C=none→C≠X.env.locals→(X.s₀.heap.objs.size≤C)→(∀ x c,X.env.cells.lookup x=some c→c≠C)→(∀ p∈X.pn++pins,p.1≠C)→(∃ m,s'.heap.Ns C m) →
    compPost (model X.prog X.w) X.A X.xe use Q' (.ref D) C (.ok .next) s') :
  wpAny (model X.prog X.w) X.A (comprehension (.ListComp elt [⟨tg,iter,ifs,0⟩] scope pos) scope X.env (firstIterPos [⟨tg,iter,ifs,0⟩] pos) (newList []) false (eval iter X.env) use) Q' X.xe s:=by
 have clo:closureFor scope X.env=pure (n0 X.env scope.names []):=Ds fun y hy e=>I.ok.has y.1 (S.fre y hy e)
 refine wpAny_comprehension_free (cl:=n0 X.env scope.names []) rfl hs clo S.kind S.loc (thn (hi pins s σ H _ I h) fun xv s1 h1=>thn h1 fun itv s2 h2=>?_)
 obtain⟨it,fp,tn,J,H2,rfl,I2,T,st2,f2,q2⟩:=h2
 refine wpAny_newObj_type (hd:=by size_fits) ?_
 have fresh2:H2 s2.heap.objs.size=none:=I2.fresh
 have I3:=I2.lnew (ys:=[]) (its:=[]) (t':=s2.toks) .nil (Nat.zero_le _)
 obtain⟨W,⟨m0,w0⟩,turn⟩:=q2 s2.heap.objs.size fresh2
 have ltf:∀ b∈fp,b<s2.heap.objs.size:=fun b hb=>by
  obtain⟨o,e,_⟩:=T.obj 0 _ st2 b hb
  exact Heap.lt_size e
 have ned:∀ b∈fp,b≠s2.heap.objs.size:=fun b hb=>Nat.ne_of_lt (ltf b hb)
 have f3:∀ b∈fp,FpOk X pins (upd H2 s2.heap.objs.size (.lst [])) b:=fun b hb=>⟨by rw[i0 (ned b hb)];exact(f2 b hb).1,(f2 b hb).2⟩
 generalize e3:({ s2 with heap:=s2.heap.push { cls := .type "list",dict:=none,data := .seq ([]:List Value).toArray } }:Shared)=s3 at *
 have k3:∀ b o,s2.heap.get? b=some o→s3.heap.get? b=some o:=fun b o e=>by rw[←e3];exact Heap.get?_push_of_some _ e
 have os3:s3.os=s2.os:=by rw[←e3]
 have sz3:s2.heap.objs.size<s3.heap.objs.size:=by rw[←e3];show _<(s2.heap.push _).objs.size;rw[Heap.size_push];exact Nat.lt_succ_self _
 refine Hy fun h4 ns4 k4 nc4=>?_
 have I4:=Hz S I2 I3 (Un.laid k3 (Nat.le_refl _) fresh2) os3 (Nat.le_of_lt sz3) f3 (fun b hb=>by obtain⟨o,e,_⟩:=T.obj 0 _ st2 b hb;exact⟨o,k3 b o e⟩) ns4 k4 nc4
 have st4:tn 0 h4:=T.keep _ _ _ st2 fun b _ o e=>k4 b o (k3 b o e)
 generalize eC:s3.heap.objs.size=C at *
 have stat:∀{H':Hp},(∀ b∈fp,H' b=none)→∀ b∈fp,FpOk (r8 X N scope (cellsFrom (C+1) scope.names (n0 X.env scope.names [])) C fp s2 H2) [] H' b:=fun hn b hb =>
  ⟨hn b hb,(I4.ok.exf b hb).1,I4.ok.exfs b hb,.inl hb,(I4.ok.exf b hb).2,fun p hp=>absurd (show p∈([]:List (Addr×Obj))from hp) (by simp)⟩
 have loop:∀ s4:Shared,s4={ s3 with heap:=h4 }→codeAny (model X.prog X.w) X.A (.compLoop (.ListComp elt [⟨tg,iter,ifs,0⟩] scope pos) 0 (.ref it) (.ref s2.heap.objs.size) (compEnvC scope (cellsFrom (C+1) scope.names (n0 X.env scope.names [])) C X.env))
    (compPost (model X.prog X.w) X.A X.xe use Q' (.ref s2.heap.objs.size) C) s4:=by
  rintro s4 rfl
  refine BF (fun n s'=>∃ i ys H',Inv (r8 X N scope (cellsFrom (C+1) scope.names (n0 X.env scope.names [])) C fp s2 H2) [] (sig nt js σ) H' s'∧tn i s'.heap∧(∀ b∈fp,H' b=none)∧W i n ys H') ?_ m0
    ⟨0,[],_,I4,st4,fun b hb=>(f3 b hb).1,w0⟩
  rintro n s5 ⟨i,ys,H5,I5,st5,fr5,w5⟩
  rcases turn i n ys H5 w5 with⟨stop,q⟩|⟨go,step⟩
  · refine wpAny_mono (T.done (r8 X N scope (cellsFrom (C+1) scope.names (n0 X.env scope.names [])) C fp s2 H2) rfl rfl rfl hc i [] s5 _ H5 _ I5 (stat fr5) st5 stop) (fun r s6 hZ=>hZ.elim fun hr I6=>?_) fun _ _ z=>z
    subst hr
    have u:Un (frs X.stack) fp H2 H5 s2.heap s6.heap:=I6.base
    have J6:Inv X pins σ H5 s6:=I2.call' I6.os u I6.hok I6.bare fun b hb=>⟨(f2 b hb).2.2.2.1,(f2 b hb).2.1,(f2 b hb).2.2.2.2.1,(f2 b hb).2.2.2.2.2⟩
    have hCs:s2.heap.objs.size≤C:=Nat.le_of_lt sz3
    refine fin _ C H5 s6 J6 q I6.free (fun z=>?_) (Nat.le_trans I2.sz hCs) (fun x c e z=>?_) (fun p hp z=>?_) ?_
    · exact absurd I2.lt (by rw[←z];exact Nat.not_lt.mpr hCs)
    · obtain⟨v,o,ho,_⟩:=I2.cell x c e
      exact absurd (Heap.lt_size ho) (by rw[z];exact Nat.not_lt.mpr hCs)
    · exact absurd (Heap.lt_size (I2.pin p hp).1) (by rw[z];exact Nat.not_lt.mpr hCs)
    · obtain⟨m,hm,_⟩:=I6.loc
      exact⟨m,hm⟩
  · refine wpAny_mono (T.item (r8 X N scope (cellsFrom (C+1) scope.names (n0 X.env scope.names [])) C fp s2 H2) rfl rfl rfl hc i [] s5 _ H5 _ I5 (stat fr5) st5 go) (fun r s6 hZ=>hZ.elim fun u hZ=>hZ.elim fun hr h6=>?_) fun _ _ z=>z
    subst hr
    refine wpAny_mono h6 (fun _ s7 hZ=>hZ.elim fun x hZ=>hZ.elim fun H7 hZ=>hZ.elim fun I7 hZ=>hZ.elim fun r7 hZ=>hZ.elim fun y7 hZ=>hZ.elim fun st7 fr7=>?_) fun _ _ z=>z
    have I7':=I7.pinned (stat fr7) (T.obj _ _ st7)
    refine wpAny_mono (hg _ _ _ _ _ _ s7 _ H7 x u _ I7' r7 (ht _ _ _ _ (step x H7 y7))) (fun _ s8 ⟨σ8,H8,I8,⟨l8,o8⟩,q8⟩=>?_) fun _ _ z=>z.elim
    have again:∀{s9:Shared} {H9:Hp} {ys9:List V},Inv (r8 X N scope (cellsFrom (C+1) scope.names (n0 X.env scope.names [])) C fp s2 H2) ([]++X9 fp s7.heap) σ8 H9 s9→(∃ m',m'<n∧W (i+1) m' ys9 H9) →
       ∃ m,m<n∧∃ i ys H',Inv (r8 X N scope (cellsFrom (C+1) scope.names (n0 X.env scope.names [])) C fp s2 H2) [] (sig nt js σ) H' s9∧tn i s9.heap∧(∀ b∈fp,H' b=none)∧W i m ys H':=fun{s9 H9 ys9} I9 ⟨m',hm,w9⟩=>by
      refine⟨m',hm,i+1,ys9,H9,I9.unpinned.weak l8.symm (HB l8 o8),T.keep _ _ _ st7 fun b hb o e=>(I9.pin (b,o) (List.mem_append_right _ (List.mem_append_right _ (F8 hb e)))).1,fun b hb=>?_,w9⟩
      obtain⟨o,e,_⟩:=T.obj _ _ st7 b hb
      exact(I9.pin (b,o) (List.mem_append_right _ (List.mem_append_right _ (F8 hb e)))).2.1
    refine wpAny_mono (hcs _ _ _ _ _ _ s8 σ8 H8 _ I8 q8) (fun ok s9 hZ=>hZ.elim fun H9 hZ=>hZ.elim fun I9 q9=>?_) fun _ _ z=>z.elim
    cases ok with
    | false =>
      rw[if_neg Bool.false_ne_true]at q9 ⊢
      exact again I9 q9
    | true =>
      rw[if_pos rfl]at q9 ⊢
      refine wpAny_mono (he _ _ _ _ _ _ s9 σ8 H9 _ I9 q9) (fun y s10 hZ=>hZ.elim fun v hZ=>hZ.elim fun H10 hZ=>hZ.elim fun I10 hZ=>hZ.elim fun r10 hZ=>hZ.elim fun d10 hZ=>hZ.elim fun l10 w10=>?_) fun _ _ z=>z.elim
      refine wpAny_mono (M3 (X:=r8 X N scope (cellsFrom (C+1) scope.names (n0 X.env scope.names [])) C fp s2 H2) _ s10 σ8 H10 (.ref s2.heap.objs.size) [v] (.ref s2.heap.objs.size) [y] (fun z H'=>∃ m',m'<n∧W (i+1) m' (ys++[v]) H') I10 rfl (.cons r10 .nil) ⟨_,ys,v,rfl,rfl,d10,l10,w10⟩) (fun _ s11 hZ=>hZ.elim fun _ hZ=>hZ.elim fun H11 hZ=>hZ.elim fun I11 hZ=>hZ.elim fun _ w11=>?_) fun _ _ z=>z.elim
      exact again I11 w11
 exact codeAny_compStart_list (loop _ rfl) (T.self _ _ _ _ _ st4 (loop _ rfl))
theorem KD(S:CompScope X N scope nt js)(hc:X.calm=true)(hi:PI X tg iter wi)
  (hg:∀ cl C fp s H,PG (r8 X N scope cl C fp s H) tg g) (ht:TgOk nt g) (hcs:∀ cl C fp s H,PTs (r8 X N scope cl C fp s H) ifs (tc H)) (he:∀ cl C fp s H,PE (r8 X N scope cl C fp s H) elt (te H))
  (hs:∀ x,foldedSetIterable iter X.env x=pure x:=by intro _;rfl):PE X (.ListComp elt [⟨tg,iter,ifs,0⟩] scope pos) (HA nt js wi g tc te):=by
 intro pins s σ H Q I h
 rw[eval_ListComp]
 refine HC (use:=none) S hc hi hg ht hcs he I h hs ?_
 rintro D C H' s' I' q hC hL hz hcl hpn ⟨m,hm⟩
 exact⟨m,hm,fun h' sb=>⟨.ref D,H',I'.turned (fun b o hb e=>sb.extBut b o hb e) hC hL (.inr hz) hcl hpn,rfl,q⟩⟩
end
end L2

end
section
set_option Elab.async false
set_option linter.all false
set_option maxRecDepth 100000
namespace L2
open PySem PySem.Spec PyProof.Rows
section
variable {X:Cx}
def CDivG(_ j:Int):Prop:=j≠0∧j.natAbs.log2<9000
theorem HD:OpR X (binaryOp .FloorDiv) (rI CDivG fun i j => .int (i.fdiv j)):=opI fun _ _ _ _ _ _ _ hc q=>floordiv_int hc.1 q (.inl (PyProof.noPylong_of_log2 hc.2))
theorem pe_ty{x:Str}{T:String}{pos:Pos}(hg:Gl X x)(hm:X.mg x=none)(hv:bootBuiltins x=some (.type T))(hn:x ≠ "__name__" := by decide)(hd:(x==("__debug__" : Str))=false:=by decide):PE X (.Name x pos) (tC (.ty T)):=Kt (v:=V.ty T) hg hm hv rfl hn hd
end
end L2

end
section
set_option Elab.async false
set_option linter.all false
set_option maxRecDepth 100000
namespace L2
open PySem PySem.Spec PyProof.Rows
def hidL(A:List Addr)(H:Hp):Hp:=fun b=>if b∈A then none else H b
def t8(A:List Addr)(H H':Hp):Hp:=fun b=>if b∈A then H b else H' b
section
variable {A:List Addr}{H H' H1:Hp}{a b:Addr}{o:HO}
theorem D0(h:b∈A):hidL A H b=none:=if_pos h
theorem i7(h:b ∉ A):hidL A H b=H b:=if_neg h
theorem m8(h:hidL A H b=some o):b ∉ A∧H b=some o:=by
 unfold hidL at h
 split at h
 · cases h
 · rename_i q;exact⟨q,h⟩
theorem j5:Same (hidL A H) H:=fun b o e=>(m8 e).2
theorem Q8:hidL [] H=H:=funext fun b=>by unfold hidL;simp
theorem X0(h:b∈A):t8 A H H' b=H b:=if_pos h
theorem p9(h:b ∉ A):t8 A H H' b=H' b:=if_neg h
theorem Same.glue(h:Same (hidL A H) H')(hn:∀ a∈A,H' a=none):Same H (t8 A H H'):=fun b o e=>by
 by_cases q:b∈A
 · rw[X0 q];exact e
 · rw[p9 q];exact h b o (by rw[i7 q];exact e)
theorem Q9(hn:∀ a∈A,H' a=none):hidL A (t8 A H H')=H':=funext fun b=>by
 by_cases q:b∈A
 · rw[D0 q,hn b q]
 · rw[i7 q,p9 q]
end
def OwnL(X:Cx)(A:List Addr)(H:Hp):Prop:=∀ a∈A,(∃ vs,H a=some (.lst vs))∧X.H₀ a=none
section
variable {X:Cx}{A:List Addr}{pins:List (Addr×Obj)}{σ:St}{H H':Hp}{s s':Shared}
def Cs(h:Heap)(A:List Addr):List (Addr×Obj):=A.filterMap fun a=>(h.get? a).map fun o=>(a,o)
theorem AR{h:Heap}{a:Addr}{o:Obj}(ha:a∈A)(e:h.get? a=some o):(a,o)∈Cs h A:=List.mem_filterMap.mpr ⟨a,ha,by rw[e];rfl⟩
theorem HE{h:Heap}{p:Addr×Obj}(hp:p∈Cs h A):p.1∈A∧h.get? p.1=some p.2:=by
 obtain⟨a,ha,e⟩:=List.mem_filterMap.mp hp
 cases q:h.get? a with
 | none=>rw[q]at e;cases e
 | some o=>rw[q]at e;cases e;exact⟨ha,q⟩
theorem Inv.fsFree(I:Inv X pins σ H s){b:Addr}(hb:b∈X.fs):H b=none:=by
 obtain⟨_,o,ho,_⟩:=I.ok.funs.mem hb
 exact I.base.free b o ho (I.ok.frf b hb) fun z=>I.ok.exfs b z hb
theorem Inv.hide(I:Inv X pins σ H s)(hA:OwnL X A H):Inv X (pins++Cs s.heap A) σ (hidL A H) s:=by
 have nl:∀ b o,H b=some o→(∀ vs,o ≠ .lst vs)→b ∉ A:=fun b o e n hb=>by
   obtain⟨⟨vs,q⟩,_⟩:=hA b hb
   rw[e]at q
   exact n vs (Option.some.inj q)
 refine⟨I.ok,I.os,I.bare,⟨I.base.keep,I.base.slot,fun b o e n hx=>?_,I.base.there,fun b xs e=>?_,fun b o u e=>?_,fun b ps e=>?_⟩,I.loc,I.cell,?_,fun x c e=>?_,fun p hp=>?_,fun a o e=>?_,I.len⟩
 · have:=I.base.free b o e n hx
   unfold hidL
   split
   · rfl
   · exact this
 · have:=I.base.tups b xs e
   rw[i7 (nl b _ this fun _ z=>by cases z)];exact this
 · have:=I.base.frzs b o u e
   rw[i7 (nl b _ this fun _ z=>by cases z)];exact this
 · obtain⟨more,this⟩:=I.base.tbls b ps e
   exact⟨more,by rw[i7 (nl b _ this fun _ z=>by cases z)];exact this⟩
 · have:=I.free
   unfold hidL
   split
   · rfl
   · exact this
 · have:=I.freeC x c e
   unfold hidL
   split
   · rfl
   · exact this
 · rw[←List.append_assoc]at hp
   rcases List.mem_append.mp hp with hp|hp
   · obtain⟨q1,q2,q3⟩:=I.pin p hp
     refine⟨q1,?_,q3⟩
     unfold hidL
     split
     · rfl
     · exact q2
   · obtain⟨q1,q2⟩:=HE hp
     obtain⟨⟨vs,q⟩,_⟩:=hA _ q1
     refine⟨q2,D0 q1,fun z=>?_,fun z=>?_,fun v z=>?_⟩
     · rw[z,I.free]at q;cases q
     · rw[I.fsFree z]at q;cases q
     · obtain⟨_,its,n,_,e⟩:=I.hok _ _ q
       rw[q2]at e
       have e:=Option.some.inj e
       rw[e]at z
       cases z
 · obtain⟨q1,q2⟩:=m8 e
   refine(I.hok a o q2).stay (fun b u _ z=>z) (fun b z=>?_) (fun b xs z=>?_)
   · rw[i7 (nl b _ z fun _ z=>by cases z)];exact z
   · rw[i7 (nl b _ z fun _ z=>by cases z)];exact z
theorem Inv.unhide{σ':St}(I:Inv X pins σ H s)(hA:OwnL X A H)(J:Inv X (pins++Cs s.heap A) σ' H' s'):(∀ a∈A,H' a=none)∧Inv X pins σ' (t8 A H H') s':=by
 have pn:∀ a∈A,∃ o,s.heap.get? a=some o∧s'.heap.get? a=some o∧H' a=none:=fun a ha=>by
   obtain⟨⟨vs,q⟩,_⟩:=hA a ha
   obtain⟨_,its,n,_,e⟩:=I.hok _ _ q
   have:=J.pin _ (List.mem_append_right _ (List.mem_append_right _ (AR ha e)))
   exact⟨_,e,this.1,this.2.1⟩
 have hn:∀ a∈A,H' a=none:=fun a ha=>by obtain⟨o,_,_,q⟩:=pn a ha;exact q
 have out:∀ b,H b=none→b ∉ A:=fun b e hb=>by
   obtain⟨⟨vs,q⟩,_⟩:=hA b hb
   rw[e]at q;cases q
 have tr:∀ b o,H' b=some o→b ∉ A:=fun b o e hb=>by rw[hn b hb]at e;cases e
 refine⟨hn,J.ok,J.os,J.bare,⟨J.base.keep,J.base.slot,fun b o e n hx=>?_,J.base.there,fun b xs e=>?_,fun b o u e=>?_,fun b ps e=>?_⟩,J.loc,J.cell,?_,fun x c e=>?_,fun p hp=>?_,fun a o e=>?_,J.len⟩
 · rw[p9 (out b (I.base.free b o e n hx))];exact J.base.free b o e n hx
 · have:=J.base.tups b xs e
   rw[p9 (tr b _ this)];exact this
 · have:=J.base.frzs b o u e
   rw[p9 (tr b _ this)];exact this
 · obtain⟨more,this⟩:=J.base.tbls b ps e
   exact⟨more,by rw[p9 (tr b _ this)];exact this⟩
 · rw[p9 (out _ I.free)];exact J.free
 · rw[p9 (out _ (I.freeC x c e))];exact J.freeC x c e
 · have hp':p∈X.pn++(pins++Cs s.heap A):=by
     rw[←List.append_assoc];exact List.mem_append_left _ hp
   obtain⟨q1,q2,q3⟩:=J.pin p hp'
   refine⟨q1,?_,q3⟩
   rw[p9 (out _ (I.pin p hp).2.1)];exact q2
 · by_cases ha:a∈A
   · rw[X0 ha]at e
     obtain⟨⟨vs,q⟩,_⟩:=hA a ha
     rw[q]at e
     cases e
     obtain⟨hz,its,n,r,e1⟩:=I.hok _ _ q
     obtain⟨o,e2,e3,_⟩:=pn a ha
     rw[e1]at e2
     cases e2
     exact⟨hz,its,n,r,e3⟩
   · rw[p9 ha]at e
     refine(J.hok a o e).stay (fun b u _ z=>z) (fun b z=>?_) (fun b xs z=>?_)
     · rw[p9 (tr b _ z)];exact z
     · rw[p9 (tr b _ z)];exact z
theorem PE.frame{e:Expr}{t:TE}(h:PE X e t):PE X e (fun σ H Q=>∃ A,OwnL X A H∧t σ (hidL A H) fun v H'=>(∀ a∈A,H' a=none)→Q v (t8 A H H')):=by
 intro pins s σ H Q I ⟨A,hA,z⟩
 refine thn (h _ s σ _ _ (I.hide hA) z) ?_
 rintro u s' ⟨v,H',J,r,q⟩
 obtain⟨hn,J'⟩:=I.unhide hA J
 exact⟨v,_,J',r,q hn⟩
theorem PA.frame{es:List Expr}{t:TA}(h:PA X es t):PA X es (fun σ H Q=>∃ A,OwnL X A H∧t σ (hidL A H) fun v H'=>(∀ a∈A,H' a=none)→Q v (t8 A H H')):=by
 intro pos pins s σ H Q I ⟨A,hA,z⟩
 refine thn (h pos _ s σ _ _ (I.hide hA) z) ?_
 rintro u s' ⟨v,H',J,r,q⟩
 obtain⟨hn,J'⟩:=I.unhide hA J
 exact⟨v,_,J',r,q hn⟩
theorem PT.frame{e:Expr}{t:TT}(h:PT X e t):PT X e (fun σ H Q=>∃ A,OwnL X A H∧t σ (hidL A H) fun v H'=>(∀ a∈A,H' a=none)→Q v (t8 A H H')):=by
 intro pins s σ H Q I ⟨A,hA,z⟩
 refine thn (h _ s σ _ _ (I.hide hA) z) ?_
 rintro u s' ⟨H',J,q⟩
 obtain⟨hn,J'⟩:=I.unhide hA J
 exact⟨_,J',q hn⟩
def hidD(A:List Addr)(H:Hp)(D:Ends):Ends where
 nx:=fun σ H'=>(∀ a∈A,H' a=none)→D.nx σ (t8 A H H')
 rt:=fun v H'=>(∀ a∈A,H' a=none)→D.rt v (t8 A H H')
 bk:=fun σ H'=>(∀ a∈A,H' a=none)→D.bk σ (t8 A H H')
 ct:=fun σ H'=>(∀ a∈A,H' a=none)→D.ct σ (t8 A H H')
theorem PS.frame{st:Stmt}{t:TS}(h:PS X st t):PS X st (fun D σ H=>∃ A,OwnL X A H∧t (hidD A H D) σ (hidL A H)):=by
 intro pins s σ H D I ⟨A,hA,z⟩
 refine thn (h _ s σ _ _ (I.hide hA) z) fun f s' q=>?_
 cases f with
 | next=>obtain⟨σ',H',J,q⟩:=q;obtain⟨hn,J'⟩:=I.unhide hA J;exact⟨_,_,J',q hn⟩
 | brk=>obtain⟨σ',H',J,q⟩:=q;obtain⟨hn,J'⟩:=I.unhide hA J;exact⟨_,_,J',q hn⟩
 | cont=>obtain⟨σ',H',J,q⟩:=q;obtain⟨hn,J'⟩:=I.unhide hA J;exact⟨_,_,J',q hn⟩
 | ret u=>obtain⟨v,σ',H',J,r,q⟩:=q;obtain⟨hn,J'⟩:=I.unhide hA J;exact⟨_,_,_,J',r,q hn⟩
theorem PI.frame{tg e:Expr}{t:TI}(h:PI X tg e t):PI X tg e (fun σ H R=>∃ A,OwnL X A H∧t σ (hidL A H) fun J H'=>(∀ a∈A,H' a=none)→R J (t8 A H H')):=by
 intro pins s σ H R I ⟨A,hA,z⟩
 refine thn (h _ s σ _ _ (I.hide hA) z) fun v s1 q=>thn q ?_
 rintro itv s2 ⟨it,fp,tn,J,H',e,I2,T,st,hf,r⟩
 obtain⟨hn,I3⟩:=I.unhide hA I2
 refine⟨it,fp,tn,J,_,e,I3,T,st,fun b hb=>?_,r hn⟩
 obtain⟨f1,f2,f3,f4,f5,f6⟩:=hf b hb
 have hbA:b ∉ A:=fun ha=>by
  obtain⟨⟨vs,q⟩,_⟩:=hA b ha
  obtain⟨_,its,n,_,e⟩:=I.hok _ _ q
  exact f6 _ (List.mem_append_right _ (List.mem_append_right _ (AR ha e))) rfl
 refine⟨by rw[p9 hbA];exact f1,f2,f3,f4,f5,fun p hp=>f6 p ?_⟩
 rw[←List.append_assoc];exact List.mem_append_left _ hp
end
end L2

end
section
set_option Elab.async false
set_option linter.all false
set_option maxRecDepth 100000
namespace L2
open PySem PySem.Spec PyProof.Rows
inductive Dt where
 | non|bl (b:Bool)|int (i:Int)|str (x:Str)|lst (xs:List Dt)|tup (xs:List Dt)|scr (ns:List Int)|dic|obj (C:Addr) (k b:Dt) (es:List Dt)
structure Bk(K:PySem.W.Frag)(C:Addr):Prop where
 cls:Cls K C
 n1:NoAttr K C "kinds"
 n2:NoAttr K C "bills"
 n3:NoAttr K C "earlier"
 ha:PySem.W.findIn K (.ref C) "__class__" = some (some (.builtin "object.__class__"))
 hn:PySem.W.specialIn K (.builtin "object.__class__") "__get__" = some (some (.builtin "getset_descriptor.__get__"))
 tk:PySem.W.takesIn K (.builtin "object.__class__")=some true
 hm:PySem.W.mroIn K C (.type "object")=some true
 is:∀ T∈["int", "bool", "str", "list", "tuple", "dict"],PySem.W.kitOne K (.ref C) (.type T)=some false
def emp:Hp:=fun _=>none
def SqF(K:PySem.W.Frag)(H:Hp)(a:Addr)(xs:List V):Prop :=
 (∃ q,H a=some (.frz q (.lst xs))) ∨
  ∃(o:Obj) (its:Array Value) (n:Nat),K.lookup a=some o∧o.cls = .type "list" ∧ o.dict=none∧o.data = .seq its n∧its.size≤sizeLine∧Vals xs its.toList
section
variable {K:PySem.W.Frag}{H H':Hp}{a:Addr}{xs:List V}
theorem SqF.sq(h:SqF K H a xs):SqL K H a xs:=h.elim (fun h => .inl (.inr h)) .inr
theorem SqF.mono(h:SqF K H a xs)(e:Same H H'):SqF K H' a xs:=h.elim (fun⟨q,h⟩ => .inl ⟨q,e _ _ h⟩) .inr
theorem SqF.hid{A:List Addr}(h:SqF K H a xs)(n:a ∉ A):SqF K (hidL A H) a xs:=h.elim (fun⟨q,h⟩ => .inl ⟨q,by rw[i7 n];exact h⟩) .inr
theorem SqF.of(h:SqL K H a xs)(o:Only H):SqF K H a xs:=by
 rcases h with(h|h)|h
 · rcases o a with z|⟨q,ys,z⟩<;>rw[h]at z<;>cases z
 · exact .inl h
 · exact .inr h
end
theorem R0{A C:List Addr}{H:Hp}:hidL A (hidL C H)=hidL C (hidL A H):=funext fun b=>by
 unfold hidL
 by_cases p:b∈A<;>by_cases q:b∈C<;>simp[p,q]
theorem r9{A:List Addr}{H H':Hp}(h:Same H H'):Same (hidL A H) (hidL A H'):=fun b o e=>by
 obtain⟨q1,q2⟩:=m8 e
 rw[i7 q1];exact h b o q2
theorem A5{A B:List Addr}{H:Hp}(h:∀ a∈B,a∈A):Same (hidL A H) (hidL B H):=fun b o e=>by
 obtain⟨q1,q2⟩:=m8 e
 rw[i7 fun z=>q1 (h b z)];exact q2
theorem Same.seqT{K:PySem.W.Frag}{H H':Hp}{a:Addr}{xs:List V}(e:Same H H')(h:SqT K H a xs):SqT K H' a xs:=by
 rcases h with(h|⟨o,h⟩)|h
 · exact .inl (.inl (e _ _ h))
 · exact .inl (.inr ⟨o,e _ _ h⟩)
 · exact .inr h
theorem Same.emp{H:Hp}:Same emp H:=fun _ _ e=>by cases e
def dicAt(a:Addr)(h:Heap):Prop:=h.get? a=some { cls := .type "dict",data := .dict #[] }
mutual
def Rp(K:PySem.W.Frag)(B:Hp):Dt→Hp→V→Prop
 | .non,_,v=>v = .non
 | .bl b,_,v=>v = .bl b
 | .int i,_,v=>v = .int i
 | .str x,_,v=>v = .str x
 | .dic,H,v=>∃ a,v = .ref a∧H a=some (.ext (dicAt a))
 | .lst ds,H,v=>∃ a vs,v = .ref a∧B a=none∧H a=some (.lst vs)∧Rps K B ds (hidL [a] H) vs
 | .tup ds,H,v=>∃ a vs,v = .ref a∧SqT K H a vs∧Rps K B ds H vs
 | .scr ns,H,v=>∃ a,v = .ref a∧B a=none∧SqF K H a (ns.map V.int)
 | .obj C k b es,H,v=>∃ a dx vk vb e vs,v = .ref a∧B a=none∧H a=some (.ins C dx [("kinds",vk),("bills",vb),("earlier",.ref e)])∧H dx=some (.own a)∧B e=none∧H e=some (.lst vs)∧Bk K C∧Rp K B k (hidL [a,e] H) vk∧Rp K B b (hidL [a,e] H) vb∧Rps K B es (hidL [a,e] H) vs
def Rps(K:PySem.W.Frag)(B:Hp):List Dt→Hp→List V→Prop
 | [],_,vs=>vs=[]
 | d::ds,H,vs=>∃ v r,vs=v::r∧Rp K B d H v∧Rps K B ds H r
end
section
variable {K:PySem.W.Frag}{B B' H H':Hp}
theorem Rp.int_{i:Int}{v:V}:Rp K B (.int i) H v↔v = .int i:=by unfold Rp;exact Iff.rfl
theorem Rp.bl_{b:Bool}{v:V}:Rp K B (.bl b) H v↔v = .bl b:=by unfold Rp;exact Iff.rfl
theorem Rp.non_{v:V}:Rp K B .non H v↔v = .non:=by unfold Rp;exact Iff.rfl
theorem Rp.str_{x:Str}{v:V}:Rp K B (.str x) H v↔v = .str x:=by unfold Rp;exact Iff.rfl
theorem Rp.dic_{v:V}:Rp K B .dic H v↔∃ a,v = .ref a∧H a=some (.ext (dicAt a)):=by unfold Rp;exact Iff.rfl
theorem Rp.lst_{ds:List Dt}{v:V}:Rp K B (.lst ds) H v↔∃ a vs,v = .ref a∧B a=none∧H a=some (.lst vs)∧Rps K B ds (hidL [a] H) vs:=by rw[Rp]
theorem Rp.tup_{ds:List Dt}{v:V}:Rp K B (.tup ds) H v↔∃ a vs,v = .ref a∧SqT K H a vs∧Rps K B ds H vs:=by rw[Rp]
theorem Rp.obj_{C:Addr}{k b:Dt}{es:List Dt}{v:V}:Rp K B (.obj C k b es) H v↔∃ a dx vk vb e vs,v = .ref a∧B a=none∧H a=some (.ins C dx [("kinds",vk),("bills",vb),("earlier",.ref e)])∧H dx=some (.own a)∧B e=none∧H e=some (.lst vs)∧Bk K C∧Rp K B k (hidL [a,e] H) vk∧Rp K B b (hidL [a,e] H) vb∧Rps K B es (hidL [a,e] H) vs:=by rw[Rp]
theorem Rp.scr_{ns:List Int}{v:V}:Rp K B (.scr ns) H v↔∃ a,v = .ref a∧B a=none∧SqF K H a (ns.map V.int):=by rw[Rp]
theorem Rps.nil_{vs:List V}:Rps K B [] H vs↔vs=[]:=by rw[Rps]
theorem Rps.cons_{d:Dt}{ds:List Dt}{vs:List V}:Rps K B (d::ds) H vs↔∃ v r,vs=v::r∧Rp K B d H v∧Rps K B ds H r:=by rw[Rps]
mutual
theorem Rp.mono:∀(d:Dt) {H H':Hp} {v:V},Same H H'→Rp K B d H v→Rp K B d H' v
 | .non,_,_,v,e,h=>by unfold Rp at h ⊢;exact h
 | .bl b,_,_,v,e,h=>by unfold Rp at h ⊢;exact h
 | .int i,_,_,v,e,h=>by unfold Rp at h ⊢;exact h
 | .str x,_,_,v,e,h=>by unfold Rp at h ⊢;exact h
 | .dic,_,_,v,e,h=>by unfold Rp at h ⊢;obtain⟨a,q,r⟩:=h;exact⟨a,q,e _ _ r⟩
 | .lst ds,_,_,v,e,h=>by
  unfold Rp at h ⊢
  obtain⟨a,vs,rfl,h0,h1,h2⟩:=h
  exact⟨a,vs,rfl,h0,e _ _ h1,Rps.mono ds (r9 e) h2⟩
 | .tup ds,_,_,v,e,h=>by
  unfold Rp at h ⊢
  obtain⟨a,vs,rfl,h1,h2⟩:=h
  exact⟨a,vs,rfl,e.seqT h1,Rps.mono ds e h2⟩
 | .scr ns,_,_,v,e,h=>by
  unfold Rp at h ⊢
  obtain⟨a,rfl,h0,h1⟩:=h
  exact⟨a,rfl,h0,h1.mono e⟩
 | .obj C k b es,_,_,v,e,h=>by
  unfold Rp at h ⊢
  obtain⟨a,dx,vk,vb,l,vs,rfl,h0,h1,h2,h3,h4,h5,h6,h7,h8⟩:=h
  exact⟨a,dx,vk,vb,l,vs,rfl,h0,e _ _ h1,e _ _ h2,h3,e _ _ h4,h5,Rp.mono k (r9 e) h6,Rp.mono b (r9 e) h7,Rps.mono es (r9 e) h8⟩
theorem Rps.mono:∀(ds:List Dt) {H H':Hp} {vs:List V},Same H H'→Rps K B ds H vs→Rps K B ds H' vs
 | [],_,_,vs,e,h=>by unfold Rps at h ⊢;exact h
 | d::ds,_,_,vs,e,h=>by
  unfold Rps at h ⊢
  obtain⟨v,r,rfl,h1,h2⟩:=h
  exact⟨v,r,rfl,Rp.mono d e h1,Rps.mono ds e h2⟩
end
mutual
theorem Rp.anti(e:Same B' B):∀(d:Dt) {H:Hp} {v:V},Rp K B d H v→Rp K B' d H v
 | .non,_,v,h=>by unfold Rp at h ⊢;exact h
 | .bl b,_,v,h=>by unfold Rp at h ⊢;exact h
 | .int i,_,v,h=>by unfold Rp at h ⊢;exact h
 | .str x,_,v,h=>by unfold Rp at h ⊢;exact h
 | .dic,_,v,h=>by unfold Rp at h ⊢;exact h
 | .lst ds,_,v,h=>by
  unfold Rp at h ⊢
  obtain⟨a,vs,rfl,h0,h1,h2⟩:=h
  exact⟨a,vs,rfl,e.free h0,h1,Rps.anti e ds h2⟩
 | .tup ds,_,v,h=>by
  unfold Rp at h ⊢
  obtain⟨a,vs,rfl,h1,h2⟩:=h
  exact⟨a,vs,rfl,h1,Rps.anti e ds h2⟩
 | .scr ns,_,v,h=>by
  unfold Rp at h ⊢
  obtain⟨a,rfl,h0,h1⟩:=h
  exact⟨a,rfl,e.free h0,h1⟩
 | .obj C k b es,_,v,h=>by
  unfold Rp at h ⊢
  obtain⟨a,dx,vk,vb,l,vs,rfl,h0,h1,h2,h3,h4,h5,h6,h7,h8⟩:=h
  exact⟨a,dx,vk,vb,l,vs,rfl,e.free h0,h1,h2,e.free h3,h4,h5,Rp.anti e k h6,Rp.anti e b h7,Rps.anti e es h8⟩
theorem Rps.anti(e:Same B' B):∀(ds:List Dt) {H:Hp} {vs:List V},Rps K B ds H vs→Rps K B' ds H vs
 | [],_,vs,h=>by unfold Rps at h ⊢;exact h
 | d::ds,_,vs,h=>by
  unfold Rps at h ⊢
  obtain⟨v,r,rfl,h1,h2⟩:=h
  exact⟨v,r,rfl,Rp.anti e d h1,Rps.anti e ds h2⟩
end
theorem SqT.hid{A:List Addr}{a:Addr}{xs:List V}(hA:∀ b∈A,∀ o,H b=some o→∃ vs,o = .lst vs)(h:SqT K H a xs):SqT K (hidL A H) a xs:=by
 rcases h with(h|⟨o,h⟩)|h
 · refine .inl (.inl ?_)
   rw[i7 fun z=>by obtain⟨vs,e⟩:=hA a z _ h;cases e];exact h
 · refine .inl (.inr ⟨o,?_⟩)
   rw[i7 fun z=>by obtain⟨vs,e⟩:=hA a z _ h;cases e];exact h
 · exact .inr h
theorem SqL.hid{A:List Addr}{a:Addr}{xs:List V}(hA:a ∉ A)(h:SqL K H a xs):SqL K (hidL A H) a xs:=by
 rcases h with(h|⟨o,h⟩)|h
 · exact .inl (.inl (by rw[i7 hA];exact h))
 · exact .inl (.inr ⟨o,by rw[i7 hA];exact h⟩)
 · exact .inr h
mutual
theorem Rp.hid{A:List Addr}(hB:∀ b∈A,B b≠none):∀(d:Dt) {H:Hp} {v:V},(∀ b∈A,∀ o,H b=some o→∃ vs,o = .lst vs)→Rp K B d H v→Rp K B d (hidL A H) v
 | .non,_,v,_,h=>by unfold Rp at h ⊢;exact h
 | .bl b,_,v,_,h=>by unfold Rp at h ⊢;exact h
 | .int i,_,v,_,h=>by unfold Rp at h ⊢;exact h
 | .str x,_,v,_,h=>by unfold Rp at h ⊢;exact h
 | .dic,_,v,hA,h=>by unfold Rp at h ⊢;obtain⟨a,q,r⟩:=h;exact⟨a,q,by rw[i7 fun z=>by obtain⟨vs,e⟩:=hA a z _ r;cases e];exact r⟩
 | .lst ds,H,v,hA,h=>by
  unfold Rp at h ⊢
  obtain⟨a,vs,rfl,h0,h1,h2⟩:=h
  refine⟨a,vs,rfl,h0,by rw[i7 fun z=>hB a z h0];exact h1,?_⟩
  rw[R0]
  exact Rps.hid hB ds (fun b hb o e=>hA b hb o (m8 e).2) h2
 | .tup ds,H,v,hA,h=>by
  unfold Rp at h ⊢
  obtain⟨a,vs,rfl,h1,h2⟩:=h
  exact⟨a,vs,rfl,h1.hid hA,Rps.hid hB ds hA h2⟩
 | .scr ns,H,v,hA,h=>by
  unfold Rp at h ⊢
  obtain⟨a,rfl,h0,h1⟩:=h
  exact⟨a,rfl,h0,h1.hid fun z=>hB a z h0⟩
 | .obj C k b es,H,v,hA,h=>by
  unfold Rp at h ⊢
  obtain⟨a,dx,vk,vb,l,vs,rfl,h0,h1,h2,h3,h4,h5,h6,h7,h8⟩:=h
  refine⟨a,dx,vk,vb,l,vs,rfl,h0,by rw[i7 fun z=>hB a z h0];exact h1,by rw[i7 fun z=>by obtain⟨vs,e⟩:=hA dx z _ h2;cases e];exact h2,h3,by rw[i7 fun z=>hB l z h3];exact h4,h5,?_⟩
  rw[R0]
  exact⟨Rp.hid hB k (fun b hb o e=>hA b hb o (m8 e).2) h6,Rp.hid hB b (fun b hb o e=>hA b hb o (m8 e).2) h7,Rps.hid hB es (fun b hb o e=>hA b hb o (m8 e).2) h8⟩
theorem Rps.hid{A:List Addr}(hB:∀ b∈A,B b≠none):∀(ds:List Dt) {H:Hp} {vs:List V},(∀ b∈A,∀ o,H b=some o→∃ vs,o = .lst vs)→Rps K B ds H vs→Rps K B ds (hidL A H) vs
 | [],_,vs,_,h=>by unfold Rps at h ⊢;exact h
 | d::ds,_,vs,hA,h=>by
  unfold Rps at h ⊢
  obtain⟨v,r,rfl,h1,h2⟩:=h
  exact⟨v,r,rfl,Rp.hid hB d hA h1,Rps.hid hB ds hA h2⟩
end
end
mutual
def Dt.flat:Dt→Bool
 | .lst _=>false
 | .scr _=>false
 | .obj _ _ _ _=>false
 | .tup ds=>n9 ds
 | _=>true
def n9:List Dt→Bool
 | []=>true
 | d::ds=>d.flat&&n9 ds
end
section
variable {K:PySem.W.Frag}{B B' H H':Hp}
mutual
theorem Rp.flat:∀(d:Dt) {H:Hp} {v:V},d.flat=true→Rp K B d H v→Rp K B' d H v
 | .non,_,v,_,h=>by unfold Rp at h ⊢;exact h
 | .bl b,_,v,_,h=>by unfold Rp at h ⊢;exact h
 | .int i,_,v,_,h=>by unfold Rp at h ⊢;exact h
 | .str x,_,v,_,h=>by unfold Rp at h ⊢;exact h
 | .dic,_,v,_,h=>by unfold Rp at h ⊢;exact h
 | .lst ds,_,v,f,h=>by unfold Dt.flat at f;cases f
 | .tup ds,_,v,f,h=>by
  unfold Dt.flat at f
  unfold Rp at h ⊢
  obtain⟨a,vs,rfl,h1,h2⟩:=h
  exact⟨a,vs,rfl,h1,Rps.flat ds f h2⟩
 | .scr ns,_,v,f,h=>by unfold Dt.flat at f;cases f
 | .obj C k b es,_,v,f,h=>by unfold Dt.flat at f;cases f
theorem Rps.flat:∀(ds:List Dt) {H:Hp} {vs:List V},n9 ds=true→Rps K B ds H vs→Rps K B' ds H vs
 | [],_,vs,_,h=>by unfold Rps at h ⊢;exact h
 | d::ds,_,vs,f,h=>by
  unfold n9 at f
  rw[Bool.and_eq_true]at f
  unfold Rps at h ⊢
  obtain⟨v,r,rfl,h1,h2⟩:=h
  exact⟨v,r,rfl,Rp.flat d f.1 h1,Rps.flat ds f.2 h2⟩
end
theorem Rps.length:∀{ds:List Dt} {vs:List V},Rps K B ds H vs→vs.length=ds.length
 | [],vs,h=>by rw[Rps.nil_.mp h];rfl
 | d::ds,vs,h=>by
  obtain⟨v,r,rfl,_,h2⟩:=Rps.cons_.mp h
  rw[List.length_cons,List.length_cons,Rps.length h2]
theorem Rps.get:∀{ds:List Dt} {vs:List V} {i:Nat} {d:Dt},Rps K B ds H vs→ds[i]?=some d→∃ v,vs[i]?=some v∧Rp K B d H v
 | [],vs,i,d,_,e=>by simp at e
 | c::ds,vs,0,d,h,e=>by
  obtain⟨v,r,rfl,h1,_⟩:=Rps.cons_.mp h
  simp at e;subst e
  exact⟨v,rfl,h1⟩
 | c::ds,vs,i+1,d,h,e=>by
  obtain⟨v,r,rfl,_,h2⟩:=Rps.cons_.mp h
  have e:ds[i]?=some d:=by simpa using e
  obtain⟨u,q1,q2⟩:=Rps.get h2 e
  exact⟨u,by simpa using q1,q2⟩
theorem Rps.append:∀{ds ds':List Dt} {vs vs':List V},Rps K B ds H vs→Rps K B ds' H vs'→Rps K B (ds++ds') H (vs++vs')
 | [],ds',vs,vs',h,h'=>by rw[Rps.nil_.mp h];exact h'
 | d::ds,ds',vs,vs',h,h'=>by
  obtain⟨v,r,rfl,h1,h2⟩:=Rps.cons_.mp h
  exact Rps.cons_.mpr ⟨v,r++vs',rfl,h1,Rps.append h2 h'⟩
theorem Rps.one{d:Dt}{v:V}(h:Rp K B d H v):Rps K B [d] H [v]:=Rps.cons_.mpr ⟨v,[],rfl,h,Rps.nil_.mpr rfl⟩
theorem Rps.take:∀{ds:List Dt} {vs:List V} (n:Nat),Rps K B ds H vs→Rps K B (ds.take n) H (vs.take n)
 | ds,vs,0,_=>by rw[List.take_zero,List.take_zero];exact Rps.nil_.mpr rfl
 | [],vs,n+1,h=>by rw[Rps.nil_.mp h];exact Rps.nil_.mpr rfl
 | d::ds,vs,n+1,h=>by
  obtain⟨v,r,rfl,h1,h2⟩:=Rps.cons_.mp h
  exact Rps.cons_.mpr ⟨v,r.take n,rfl,h1,Rps.take n h2⟩
theorem Rps.drop:∀{ds:List Dt} {vs:List V} (n:Nat),Rps K B ds H vs→Rps K B (ds.drop n) H (vs.drop n)
 | ds,vs,0,h=>h
 | [],vs,n+1,h=>by rw[Rps.nil_.mp h];exact Rps.nil_.mpr rfl
 | d::ds,vs,n+1,h=>by
  obtain⟨v,r,rfl,h1,h2⟩:=Rps.cons_.mp h
  exact Rps.drop n h2
theorem Rps.set:∀{ds:List Dt} {vs:List V} (i:Nat) {d:Dt} {v:V},Rps K B ds H vs→Rp K B d H v→Rps K B (ds.set i d) H (vs.set i v)
 | [],vs,i,d,v,h,_=>by rw[Rps.nil_.mp h];exact Rps.nil_.mpr rfl
 | c::ds,vs,0,d,v,h,q=>by
  obtain⟨u,r,rfl,h1,h2⟩:=Rps.cons_.mp h
  exact Rps.cons_.mpr ⟨v,r,rfl,q,h2⟩
 | c::ds,vs,i+1,d,v,h,q=>by
  obtain⟨u,r,rfl,h1,h2⟩:=Rps.cons_.mp h
  exact Rps.cons_.mpr ⟨u,r.set i v,rfl,h1,Rps.set i h2 q⟩
theorem Rps.reverse:∀{ds:List Dt} {vs:List V},Rps K B ds H vs→Rps K B ds.reverse H vs.reverse
 | [],vs,h=>by rw[Rps.nil_.mp h];exact Rps.nil_.mpr rfl
 | d::ds,vs,h=>by
  obtain⟨v,r,rfl,h1,h2⟩:=Rps.cons_.mp h
  rw[List.reverse_cons,List.reverse_cons]
  exact Rps.append (Rps.reverse h2) (Rps.one h1)
theorem Rps.ints:∀{ns:List Int} {vs:List V},Rps K B (ns.map Dt.int) H vs↔vs=ns.map V.int
 | [],vs=>Rps.nil_
 | n::ns,vs=>by
  rw[List.map_cons,Rps.cons_]
  constructor
  · rintro⟨v,r,rfl,h1,h2⟩
    rw[Rp.int_.mp h1,Rps.ints.mp h2];rfl
  · rintro rfl
    exact⟨_,_,rfl,Rp.int_.mpr rfl,Rps.ints.mpr rfl⟩
theorem Ct{p:Addr}{o:HO}(h:H p=none):hidL [p] (upd H p o)=H:=funext fun b=>by
 by_cases q:b=p
 · subst q;rw[D0 (by simp),h]
 · rw[i7 (by simpa using q),i0 q]
theorem p6{p:Addr}{o:HO}(h:H p=none):Same H (upd H p o):=fun b u e=>by rw[i0 (z8 e h)];exact e
theorem Rp.new{ds:List Dt}{vs:List V}{p:Addr}(hp:H p=none)(hB:B p=none)(r:Rps K B ds H vs):Rp K B (.lst ds) (upd H p (.lst vs)) (.ref p) :=
 Rp.lst_.mpr ⟨p,vs,rfl,hB,j0,by rw[Ct hp];exact r⟩
end
inductive Fl where
 | sh|tn|fr|nw
def Fl.isNw:Fl→Bool
 | .nw=>true
 | _=>false
def Fl.isFr:Fl→Bool
 | .nw=>true
 | .fr=>true
 | _=>false
abbrev Dv:=Fl×Dt
def nrm(f:Fl)(d:Dt):Dv:=(if d.flat then .nw else f,d)
structure Ky where
 K:PySem.W.Frag
 H₀:Hp
abbrev Cx.ky(X:Cx):Ky:=⟨X.K,X.H₀⟩
def RpF(X:Ky)(H:Hp)(f:Fl)(d:Dt)(H':Hp)(v:V):Prop:=match f with
 | .sh=>Rp X.K emp d H' v
 | .tn=>Rp X.K emp d H' v∧(∃ ds,d = .lst ds)∧∀ a,v = .ref a→H a=none
 | .fr=>Rp X.K X.H₀ d H' v
 | .nw=>Rp X.K H d H' v
section
variable {X:Ky}{H H' H1:Hp}{f:Fl}{d:Dt}{v:V}
theorem RpF.sh(h:RpF X H f d H' v):Rp X.K emp d H' v:=by
 cases f with
 | sh=>exact h
 | tn=>exact h.1
 | fr=>exact Rp.anti Same.emp d h
 | nw=>exact Rp.anti Same.emp d h
theorem RpF.fr(h0:Same X.H₀ H)(e:f.isFr=true)(h:RpF X H f d H' v):Rp X.K X.H₀ d H' v:=by
 cases f with
 | sh=>cases e
 | tn=>cases e
 | fr=>exact h
 | nw=>exact Rp.anti h0 d h
theorem RpF.mono(h:RpF X H f d H' v)(s:Same H' H1):RpF X H f d H1 v:=by
 cases f with
 | sh=>exact Rp.mono d s h
 | tn=>exact⟨Rp.mono d s h.1,h.2⟩
 | fr=>exact Rp.mono d s h
 | nw=>exact Rp.mono d s h
theorem RpF.early(s:Same H H1)(h:RpF X H1 f d H' v):RpF X H f d H' v:=by
 cases f with
 | sh=>exact h
 | tn=>exact⟨h.1,h.2.1,fun a e=>s.free (h.2.2 a e)⟩
 | fr=>exact h
 | nw=>exact Rp.anti s d h
theorem RpF.nrm(h:RpF X H f d H' v):RpF X H (nrm f d).1 d H' v:=by
 unfold L2.nrm
 by_cases q:d.flat=true
 · rw[if_pos q];exact Rp.flat d q h.sh
 · rw[if_neg q];exact h
theorem RpF.scal(q:d.flat=true)(h:Rp X.K emp d H' v):RpF X H .nw d H' v:=Rp.flat d q h
end
inductive Cell where
 | no|sh (f:Bool) (d:Dt)|ow (f:Bool) (ds:List Dt)|ex
abbrev Rho:=List Cell
def flOf(f:Bool):Fl:=if f then .fr else .sh
def Cell.val:Cell→Option Dv
 | .no=>none
 | .ex=>none
 | .sh f d=>some (nrm (flOf f) d)
 | .ow f ds=>some (flOf f,.lst ds)
def Y9(ρ:Rho)(i:Nat):Option Dv:=(ρ[i]?).bind Cell.val
def bsOf(X:Ky)(f:Bool):Hp:=if f then X.H₀ else emp
def ExcAt(K:PySem.W.Frag)(a:Addr)(h:Heap):Prop:=∃ oe C,h.get? a=some oe∧oe.cls = .ref C∧PySem.W.kitCls K (.ref C) (.type "ValueError")=some true
def RpC(X:Ky)(H:Hp):Cell→Option V→Prop
 | .no,_=>True
 | .ex,o=>∃ a φ,o=some (.ref a)∧H a=some (.ext φ)∧∀ h,φ h→ExcAt X.K a h
 | .sh f d,o=>∃ v,o=some v∧Rp X.K (bsOf X f) d H v
 | .ow f ds,o=>∃ v,o=some v∧Rp X.K (bsOf X f) (.lst ds) H v
structure RepS(X:Ky)(H:Hp)(ρ:Rho)(σ:St):Prop where
 len:ρ.length=σ.length
 base:Same X.H₀ H
 at_:∀(i:Nat) (c:Cell),ρ[i]?=some c→∃ o,σ[i]?=some o∧RpC X H c o
section
variable {X:Ky}{H H':Hp}{ρ:Rho}{σ:St}
theorem RpC.mono(e:Same H H'){c:Cell}{o:Option V}(h:RpC X H c o):RpC X H' c o:=by
 cases c with
 | no=>trivial
 | ex=>obtain⟨a,φ,q,r,z⟩:=h;exact⟨a,φ,q,e _ _ r,z⟩
 | sh f d=>obtain⟨v,q,r⟩:=h;exact⟨v,q,Rp.mono d e r⟩
 | ow f ds=>obtain⟨v,q,r⟩:=h;exact⟨v,q,Rp.mono _ e r⟩
theorem RepS.mono(h:RepS X H ρ σ)(e:Same H H'):RepS X H' ρ σ:=⟨h.len,h.base.trans e,fun i c q=>by obtain⟨o,q1,q2⟩:=h.at_ i c q;exact⟨o,q1,q2.mono e⟩⟩
theorem HF{f:Bool}{d:Dt}{v:V}(h:Rp X.K (bsOf X f) d H v):RpF X H (flOf f) d H v:=by
 cases f with
 | false=>exact h
 | true=>exact h
theorem RepS.val(h:RepS X H ρ σ){i:Nat}{f:Fl}{d:Dt}(e:Y9 ρ i=some (f,d)):∃ v,σ[i]?=some (some v)∧RpF X H f d H v:=by
 unfold Y9 at e
 cases q:ρ[i]? with
 | none=>rw[q]at e;cases e
 | some c =>
  rw[q]at e
  obtain⟨o,q1,q2⟩:=h.at_ i c q
  cases c with
  | no=>cases e
  | ex=>cases e
  | sh f' d' =>
   obtain⟨v,rfl,r⟩:=q2
   have e:nrm (flOf f') d'=(f,d):=Option.some.inj e
   have r':=(HF r).nrm
   refine⟨v,q1,?_⟩
   have e1:d'=d:=congrArg Prod.snd e
   subst e1
   rw[e]at r'
   exact r'
  | ow f' ds =>
   obtain⟨v,rfl,r⟩:=q2
   cases e
   exact⟨v,q1,HF r⟩
end
end L2

end
section
set_option Elab.async false
set_option linter.all false
set_option maxRecDepth 100000
namespace L2
open PySem PySem.Spec PyProof.Rows
theorem PE.imp{X:Cx}{e:Expr}{t t':TE}(h:PE X e t)(q:∀ σ H Q,t' σ H Q→t σ H Q):PE X e t':=fun pins s σ H Q I z=>h pins s σ H Q I (q σ H Q z)
theorem PT.imp{X:Cx}{e:Expr}{t t':TT}(h:PT X e t)(q:∀ σ H Q,t' σ H Q→t σ H Q):PT X e t':=fun pins s σ H Q I z=>h pins s σ H Q I (q σ H Q z)
theorem PW.imp{X:Cx}{e:Expr}{t t':TT}(h:PW X e t)(q:∀ σ H Q,t' σ H Q→t σ H Q):PW X e t':=fun whole pins s σ H Q I z=>h whole pins s σ H Q I (q σ H Q z)
theorem PA.imp{X:Cx}{es:List Expr}{t t':TA}(h:PA X es t)(q:∀ σ H Q,t' σ H Q→t σ H Q):PA X es t':=fun pos pins s σ H Q I z=>h pos pins s σ H Q I (q σ H Q z)
theorem g5{α β:Type}{o:Option α}{f:α→Option β}{b:β}(h:o.bind f=some b):∃ a,o=some a∧f a=some b:=by
 cases o with
 | none=>cases h
 | some a=>exact⟨a,rfl,h⟩
section
variable {X:Ky}{H H':Hp}
theorem RpF.i_{i:Int}:RpF X H .nw (.int i) H' (.int i):=(Rp.int_ (K:=X.K) (B:=H) (H:=H')).mpr rfl
theorem RpF.b_{i:Bool}:RpF X H .nw (.bl i) H' (.bl i):=(Rp.bl_ (K:=X.K) (B:=H) (H:=H')).mpr rfl
theorem RpF.s_{i:Str}:RpF X H .nw (.str i) H' (.str i):=(Rp.str_ (K:=X.K) (B:=H) (H:=H')).mpr rfl
theorem RpF.n_:RpF X H .nw .non H' .non:=(Rp.non_ (K:=X.K) (B:=H) (H:=H')).mpr rfl
end
abbrev FE:=Rho→Option Dv
abbrev FT:=Rho→Option Bool
abbrev FA:=Rho→Option (List Dv)
def upK(Y:Ky)(F:FE):TE:=fun σ H Q=>∃ ρ f d,RepS Y H ρ σ∧F ρ=some (f,d)∧∀ v H',Same H H'→RpF Y H f d H' v→Q v H'
abbrev upF(X:Cx)(F:FE):TE:=upK X.ky F
def PF(X:Cx)(e:Expr)(F:FE):Prop:=PE X e (upF X F)
def upBK(Y:Ky)(F:FT):TT:=fun σ H Q=>∃ ρ b,RepS Y H ρ σ∧F ρ=some b∧∀ H',Same H H'→Q b H'
abbrev upB(X:Cx)(F:FT):TT:=upBK X.ky F
def PFT(X:Cx)(e:Expr)(F:FT):Prop:=PT X e (upB X F)
def PFW(X:Cx)(e:Expr)(F:FT):Prop:=PW X e (upB X F)
theorem PFW.pt{X:Cx}{e:Expr}{F:FT}(h:PFW X e F):PFT X e F:=PW.pt h
section
variable {X:Cx}{a b c e:Expr}{Fa Fb Fc:FE}{pos:Pos}
def fN(i:Nat):FE:=fun ρ=>Y9 ρ i
theorem g9(i:Nat){x:Str}{pos:Pos}(hN:X.N[i]?=some x:=by rfl)(hv:Vis X.env.scope x:=by first|exact Or.inl rfl|exact Or.inr (Or.inl rfl)|exact Or.inr (Or.inr rfl))(hd:(x==("__debug__" : Str))=false:=by decide)
  (hcd:(x==("__classdict__" : Str))=false:=by decide):PF X (.Name x pos) (fN i) :=
 (m3 hN hv hd hcd).imp fun σ H Q ⟨ρ,f,d,rs,e,k⟩=>by
  obtain⟨v,e1,e2⟩:=rs.val e
  exact⟨v,e1,k v H (Same.refl H) e2⟩
def fC(d:Dt):FE:=fun _=>some (.nw,d)
theorem i8{i:Int}{j:Nat}:PF X (.Constant (.int i) j pos) (fC (.int i)):=Bq.imp (by rintro σ H Q ⟨ρ,f,d,rs,e,k⟩;cases e;exact k _ H (Same.refl H) RpF.i_)
theorem p_bl{v:Bool}{j:Nat}:PF X (.Constant (.bool v) j pos) (fC (.bl v)):=AJ.imp (by rintro σ H Q ⟨ρ,f,d,rs,e,k⟩;cases e;exact k _ H (Same.refl H) RpF.b_)
theorem p_non{j:Nat}:PF X (.Constant .none j pos) (fC .non):=O8.imp (by rintro σ H Q ⟨ρ,f,d,rs,e,k⟩;cases e;exact k _ H (Same.refl H) RpF.n_)
theorem p_str{x:Str}{j:Nat}:PF X (.Constant (.str x) j pos) (fC (.str x)):=O9.imp (by rintro σ H Q ⟨ρ,f,d,rs,e,k⟩;cases e;exact k _ H (Same.refl H) RpF.s_)
theorem BG{x:Str}{i:Int}{t:Tok}(hg:Gl X x)(hm:X.mg x=some (.int i t))(hd:(x==("__debug__" : Str))=false:=by decide):PF X (.Name x pos) (fC (.int i)) :=
 (Ks (v:=V.int i) hg hm ⟨t,rfl⟩ hd).imp (by rintro σ H Q ⟨ρ,f,d,rs,e,k⟩;cases e;exact k _ H (Same.refl H) RpF.i_)
abbrev FO:=Dt→Dt→Option Dv
def OpF(X:Cx)(f:Value→Value→Sem Value)(r:FO):Prop :=
 OpR X f (fun x y H Q=>∃ dx dy f d,Rp X.K emp dx H x∧Rp X.K emp dy H y∧r dx dy=some (f,d)∧∀ v H',Same H H'→RpF X.ky H f d H' v→Q v H')
def fOp(r:FO)(Fa Fb:FE):FE:=fun ρ=>(Fa ρ).bind fun x=>(Fb ρ).bind fun y=>r x.2 y.2
theorem Du{r:FO}{σ:St}{H:Hp}{Q:VK}(h:upF X (fOp r Fa Fb) σ H Q):
  upF X Fa σ H fun x H1=>upF X Fb σ H1 fun y H2=>∃ dx dy f d,Rp X.K emp dx H2 x∧Rp X.K emp dy H2 y∧r dx dy=some (f,d)∧∀ v H',Same H2 H'→RpF X.ky H2 f d H' v→Q v H':=by
 obtain⟨ρ,f,d,rs,e,k⟩:=h
 obtain⟨⟨fa,da⟩,ea,e⟩:=g5 e
 obtain⟨⟨fb,db⟩,eb,e⟩:=g5 e
 exact⟨ρ,fa,da,rs,ea,fun v H1 s1 r1=>⟨ρ,fb,db,rs.mono s1,eb,fun u H2 s2 r2=>⟨da,db,f,d,Rp.mono _ s2 r1.sh,r2.sh,e,fun w H' s' r'=>k w H' (s1.trans (s2.trans s')) (r'.early (s1.trans s2))⟩⟩⟩
theorem p_op{op:Operator}{r:FO}(ho:OpF X (binaryOp op) r)(ha:PF X a Fa)(hb:PF X b Fb):PF X (.BinOp a op b pos) (fOp r Fa Fb):=(Hf ho ha hb).imp fun σ H Q h=>Du h
theorem p_cmp{op:CmpOp}{r:FO}(ho:OpF X (compareOp op) r)(ha:PF X a Fa)(hb:PF X b Fb)(hm:behindInMarks op b=false):PF X (.Compare a [op] [b] pos) (fOp r Fa Fb):=(F9 ho ha hb hm).imp fun σ H Q h=>Du h
def rII(C:Int→Int→Bool)(g:Int→Int→Dt):FO
 | .int i,.int j=>if C i j then some (.nw,g i j) else none
 | _,_=>none
theorem BH{f:Value→Value→Sem Value}{P:Int→Int→Prop}{C:Int→Int→Bool}{g:Int→Int→V}{g':Int→Int→Dt}(ho:OpR X f (rI P g))(hP:∀ i j,C i j=true→P i j)(hf:∀ i j,(g' i j).flat=true)(hg:∀ i j H,Rp X.K emp (g' i j) H (g i j)):OpF X f (rII C g') :=
 fun pins s σ H x y v u Q I r1 r2 ⟨d1,d2,f,d,q1,q2,e,k⟩=>by
  unfold rII at e
  split at e
  · rename_i i j
    split at e
    · rename_i hc
      cases e
      rw[Rp.int_]at q1 q2
      exact ho pins s σ H x y v u Q I r1 r2 ⟨i,j,q1,q2,hP i j hc,k _ H (Same.refl H) (RpF.scal (hf i j) (hg i j H))⟩
    · cases e
  · cases e
theorem M4{f:Value→Value→Sem Value}{g:Int→Int→V}{g':Int→Int→Dt}(ho:OpR X f (rI0 g))(hf:∀ i j,(g' i j).flat=true)(hg:∀ i j H,Rp X.K emp (g' i j) H (g i j)):OpF X f (rII (fun _ _=>true) g') :=
 fun pins s σ H x y v u Q I r1 r2 ⟨d1,d2,f,d,q1,q2,e,k⟩=>by
  unfold rII at e
  split at e
  · rename_i i j
    rw[if_pos rfl]at e
    cases e
    rw[Rp.int_]at q1 q2
    exact ho pins s σ H x y v u Q I r1 r2 ⟨i,j,q1,q2,k _ H (Same.refl H) (RpF.scal (hf i j) (hg i j H))⟩
  · cases e
def OpF.or{f:Value→Value→Sem Value}{r r':FO}(h:OpF X f r)(h':OpF X f r'):OpF X f (fun x y=>(r x y).orElse fun _=>r' x y) :=
 fun pins s σ H x y v u Q I r1 r2 hZ=>hZ.elim fun d1 hZ=>hZ.elim fun d2 hZ=>hZ.elim fun f hZ=>hZ.elim fun d hZ=>hZ.elim fun q1 hZ=>hZ.elim fun q2 hZ=>hZ.elim fun e k=>by
  replace e:((r d1 d2).orElse fun _=>r' d1 d2)=some (f,d):=e
  cases q:r d1 d2 with
  | some z =>
   rw[q]at e
   cases e
   exact h pins s σ H x y v u Q I r1 r2 ⟨d1,d2,_,_,q1,q2,q,k⟩
  | none =>
   rw[q]at e
   exact h' pins s σ H x y v u Q I r1 r2 ⟨d1,d2,_,_,q1,q2,e,k⟩
def Z0(i j:Int):Bool:=decide (Builtin.Int.intBits i+Builtin.Int.intBits j≤134217728)||(decide (i.natAbs<2 ^ 64)||decide (j.natAbs<2 ^ 64))
def J2(_ j:Int):Bool:=decide (j≠0)&&decide (j.natAbs.log2<9000)
def E3(_ j:Int):Bool:=decide (j≠0)
def Z1(i j:Int):Bool:=decide (0≤j)&&decide (j≤1000000)&&decide (i.natAbs<2 ^ 64)
theorem KE:OpR X (binaryOp .Mult) (rI (fun i j=>Z0 i j=true) fun i j => .int (i*j)):=opI fun i j _ _ _ _ _ hc q=>by
 refine mul_int q ?_
 unfold Z0 at hc
 rw[Bool.or_eq_true,Bool.or_eq_true]at hc
 rcases hc with hc|hc|hc
 · exact IntMulOk.of_le (Nat.le_refl _) (Nat.le_refl _) (of_decide_eq_true hc)
 · have:=of_decide_eq_true hc
   exact CMul.ok (.inl ⟨by omega,by omega⟩)
 · have:=of_decide_eq_true hc
   exact CMul.ok (.inr ⟨by omega,by omega⟩)
def BJ:FO:=rII (fun _ _=>true) fun i j => .int (i+j)
def HG:FO:=rII (fun _ _=>true) fun i j => .int (i-j)
def Z2:FO:=rII Z0 fun i j => .int (i*j)
def AS:FO:=rII J2 fun i j => .int (i.fdiv j)
def J3:FO:=rII E3 fun i j => .int (i.fmod j)
def AT:FO:=rII Z1 fun i j => .int (i ^ j.toNat)
def opLt:FO:=rII (fun _ _=>true) fun i j => .bl (decide (i<j))
def opLe:FO:=rII (fun _ _=>true) fun i j => .bl (decide (i≤j))
def opGt:FO:=rII (fun _ _=>true) fun i j => .bl (decide (j<i))
def opGe:FO:=rII (fun _ _=>true) fun i j => .bl (decide (j≤i))
theorem o_addI:OpF X (binaryOp .Add) BJ:=M4 op_add (fun _ _=>rfl) fun _ _ _=>Rp.int_.mpr rfl
theorem o_sub:OpF X (binaryOp .Sub) HG:=M4 op_sub (fun _ _=>rfl) fun _ _ _=>Rp.int_.mpr rfl
theorem HH:OpF X (binaryOp .Mult) Z2:=BH KE (fun _ _ h=>h) (fun _ _=>rfl) fun _ _ _=>Rp.int_.mpr rfl
theorem BK:OpF X (binaryOp .FloorDiv) AS:=BH HD (fun i j h=>by unfold J2 at h;rw[Bool.and_eq_true]at h;exact⟨of_decide_eq_true h.1,of_decide_eq_true h.2⟩) (fun _ _=>rfl) fun _ _ _=>Rp.int_.mpr rfl
theorem R1:OpF X (binaryOp .Mod) J3:=BH Ku (fun i j h=>of_decide_eq_true h) (fun _ _=>rfl) fun _ _ _=>Rp.int_.mpr rfl
theorem HI:OpF X (binaryOp .Pow) AT:=BH op_pow (fun i j h=>by unfold Z1 at h;rw[Bool.and_eq_true,Bool.and_eq_true]at h;exact⟨of_decide_eq_true h.1.1,of_decide_eq_true h.1.2,of_decide_eq_true h.2⟩) (fun _ _=>rfl) fun _ _ _=>Rp.int_.mpr rfl
theorem o_lt:OpF X (compareOp .Lt) opLt:=M4 op_lt (fun _ _=>rfl) fun _ _ _=>Rp.bl_.mpr rfl
theorem o_le:OpF X (compareOp .LtE) opLe:=M4 op_le (fun _ _=>rfl) fun _ _ _=>Rp.bl_.mpr rfl
theorem o_gt:OpF X (compareOp .Gt) opGt:=M4 op_gt (fun _ _=>rfl) fun _ _ _=>Rp.bl_.mpr rfl
theorem o_ge:OpF X (compareOp .GtE) opGe:=M4 op_ge (fun _ _=>rfl) fun _ _ _=>Rp.bl_.mpr rfl
def lfl(ds:List Dt):Fl:=if n9 ds then .nw else .tn
def newL(ds:List Dt):Dv:=(lfl ds,.lst ds)
theorem X1{X:Ky}{H:Hp}{ds:List Dt}{vs:List V}{p:Addr}(hp:H p=none)(r:Rps X.K emp ds H vs):RpF X H (lfl ds) (.lst ds) (upd H p (.lst vs)) (.ref p):=by
 unfold lfl
 by_cases q:n9 ds=true
 · rw[if_pos q];exact Rp.new hp hp (Rps.flat ds q r)
 · rw[if_neg q];exact⟨Rp.new hp rfl r,⟨ds,rfl⟩,fun a e=>by cases e;exact hp⟩
def Cu:FO
 | .lst xs,.lst ys=>if xs.length+ys.length≤1000000 then some (newL (xs++ys)) else none
 | _,_=>none
theorem Rp.items{K:PySem.W.Frag}{B H:Hp}{ds:List Dt}{v:V}(h:Rp K B (.lst ds) H v):∃ a vs,v = .ref a∧B a=none∧H a=some (.lst vs)∧Rps K B ds H vs:=by
 obtain⟨a,vs,e,h0,h1,h2⟩:=Rp.lst_.mp h
 exact⟨a,vs,e,h0,h1,Rps.mono _ j5 h2⟩
theorem o_cat:OpF X (binaryOp .Add) Cu:=by
 rintro pins s σ H x y v u Q I r1 r2 ⟨d1,d2,f,d,q1,q2,e,k⟩
 unfold Cu at e
 split at e
 · rename_i xs ys
   split at e
   · rename_i hc
     cases e
     obtain⟨a,vs,rfl,_,ha,ra⟩:=q1.items
     obtain⟨b,ws,rfl,_,hb,rb⟩:=q2.items
     exact Dn pins s σ H _ _ v u Q I r1 r2 ⟨a,b,vs,ws,rfl,rfl,ha,hb,Nat.le_trans (by rw[ra.length,rb.length];exact hc) (by decide),fun p hp=>k _ _ (p6 hp) (X1 hp (ra.append rb))⟩
   · cases e
 · cases e
def o2:FO:=fun x y=>(BJ x y).orElse fun _=>Cu x y
theorem J4:OpF X (binaryOp .Add) o2:=o_addI.or o_cat
def truD:Dt→Option Bool
 | .non=>some false
 | .bl b=>some b
 | .int i=>some (i != 0)
 | .lst ds=>some (!ds.isEmpty)
 | .tup ds=>some (!ds.isEmpty)
 | _=>none
theorem Rps.isEmpty{K:PySem.W.Frag}{B H:Hp}{ds:List Dt}{vs:List V}(h:Rps K B ds H vs):(!vs.isEmpty)=!ds.isEmpty:=by
 have:=h.length
 cases ds<;>cases vs<;>first|rfl|(simp at this)
theorem KF{H:Hp}{d:Dt}{v:V}{k:Bool}(r:Rp X.K emp d H v)(e:truD d=some k):TruV X.K v H k:=by
 cases d with
 | non=>rw[Rp.non_.mp r];cases e;rfl
 | bl b=>rw[Rp.bl_.mp r];cases e;rfl
 | int i=>rw[Rp.int_.mp r];cases e;rfl
 | str x=>cases e
 | dic=>cases e
 | obj _ _ _ _=>cases e
 | scr x=>cases e
 | lst ds =>
  obtain⟨p,vs,rfl,_,h1,h2⟩:=r.items
  cases e
  exact .inl ⟨vs,SqL.of h1,h2.isEmpty.symm⟩
 | tup ds =>
  obtain⟨p,vs,rfl,h1,h2⟩:=Rp.tup_.mp r
  cases e
  exact .inr (.inl ⟨vs,h1,h2.isEmpty.symm⟩)
def blD:Dt→Option Bool
 | .bl b=>some b
 | _=>none
def m4(F:FE):FT:=fun ρ=>(F ρ).bind fun x=>blD x.2
def fTru(F:FE):FT:=fun ρ=>(F ρ).bind fun x=>truD x.2
theorem t_cmp{op:CmpOp}{r:FO}(ho:OpF X (compareOp op) r)(ha:PF X a Fa)(hb:PF X b Fb)(hm:behindInMarks op b=false):PFT X (.Compare a [op] [b] pos) (m4 (fOp r Fa Fb)) :=
 (Bt ho ha hb hm).imp fun σ H Q hZ=>hZ.elim fun ρ hZ=>hZ.elim fun k hZ=>hZ.elim fun rs hZ=>hZ.elim fun e q=>by
  obtain⟨⟨f,d⟩,e1,e2⟩:=g5 e
  refine Du ⟨ρ,f,d,rs,e1,fun v H' s r=>?_⟩
  cases d<;>first|cases e2|skip
  exact⟨k,Rp.bl_.mp r.sh,q H' s⟩
theorem V3(ha:PF X a Fa)(he:∀ whole,isTrue a X.env whole=(do let v ←whole;standAt a.pos;holding [v] (truthy v))):PFT X a (fTru Fa) :=
 (Hk ha he).imp fun σ H Q hZ=>hZ.elim fun ρ hZ=>hZ.elim fun k hZ=>hZ.elim fun rs hZ=>hZ.elim fun e q=>by
  obtain⟨⟨f,d⟩,e1,e2⟩:=g5 e
  exact⟨ρ,f,d,rs,e1,fun v H' s r=>⟨k,KF r.sh e2,q H' s⟩⟩
def fNot(F:FT):FT:=fun ρ=>(F ρ).map not
theorem R3{F:FT}(ha:PFT X a F):PFT X (.UnaryOp .Not a pos) (fNot F):=(pt_not ha).imp fun σ H Q hZ=>hZ.elim fun ρ hZ=>hZ.elim fun k hZ=>hZ.elim fun rs hZ=>hZ.elim fun e q=>by
 unfold fNot at e
 cases h:F ρ with
 | none=>rw[h]at e;cases e
 | some b=>rw[h]at e;cases e;exact⟨ρ,b,rs,h,q⟩
def fAnd(F G:FT):FT:=fun ρ=>(F ρ).bind fun b=>if b then G ρ else some false
def fOr(F G:FT):FT:=fun ρ=>(F ρ).bind fun b=>if b then some true else G ρ
theorem Z3{F:FT}(ha:PFT X a F):PFW X (.BoolOp .Or [a] pos) F:=pw_or1 ha
theorem w_or{rest:List Expr}{F G:FT}(ha:PFT X a F)(hb:PFW X (.BoolOp .Or (b::rest) pos) G):PFW X (.BoolOp .Or (a::b::rest) pos) (fOr F G) :=
 (pw_or ha hb).imp fun σ H Q hZ=>hZ.elim fun ρ hZ=>hZ.elim fun k hZ=>hZ.elim fun rs hZ=>hZ.elim fun e q=>by
  obtain⟨z,e1,e2⟩:=g5 e
  refine⟨ρ,z,rs,e1,fun H' s=>?_⟩
  dsimp only
  cases z with
  | true=>rw[if_pos rfl]at e2 ⊢;cases e2;exact q H' s
  | false=>rw[if_neg Bool.false_ne_true]at e2 ⊢;exact⟨ρ,k,rs.mono s,e2,fun H'' s'=>q H'' (s.trans s')⟩
def vAnd(F G:FE):FE:=fun ρ=>(m4 F ρ).bind fun b=>if b then G ρ else some (.nw,.bl false)
def vOr(F G:FE):FE:=fun ρ=>(m4 F ρ).bind fun b=>if b then some (.nw,.bl true) else G ρ
def vNot(F:FE):FE:=fun ρ=>(m4 F ρ).map fun b=>(.nw,.bl (!b))
theorem HJ{op}(h:PF X a Fa):PF X (.BoolOp op [a] pos) Fa:=pe_one h
theorem HK{rest:List Expr}(ha:PF X a Fa)(hb:PF X (.BoolOp .And (b::rest) pos) Fb):PF X (.BoolOp .And (a::b::rest) pos) (vAnd Fa Fb) :=
 (pe_and ha hb).imp fun σ H Q hZ=>hZ.elim fun ρ hZ=>hZ.elim fun f hZ=>hZ.elim fun d hZ=>hZ.elim fun rs hZ=>hZ.elim fun e k=>by
  obtain⟨z,e1,e2⟩:=g5 e
  obtain⟨⟨f1,d1⟩,e3,e4⟩:=g5 e1
  refine⟨ρ,f1,d1,rs,e3,fun v H' s r=>?_⟩
  cases d1<;>first|cases e4|skip
  refine⟨z,Rp.bl_.mp r.sh,?_⟩
  cases z with
  | true=>rw[if_pos rfl]at e2 ⊢;exact⟨ρ,f,d,rs.mono s,e2,fun v H'' s' r=>k v H'' (s.trans s') (r.early s)⟩
  | false=>rw[if_neg Bool.false_ne_true]at e2 ⊢;cases e2;exact k _ H' s RpF.b_
theorem p_not(ha:PF X a Fa):PF X (.UnaryOp .Not a pos) (vNot Fa):=(pe_not ha).imp fun σ H Q hZ=>hZ.elim fun ρ hZ=>hZ.elim fun f hZ=>hZ.elim fun d hZ=>hZ.elim fun rs hZ=>hZ.elim fun e k=>by
 unfold vNot at e
 cases h:m4 Fa ρ with
 | none=>rw[h]at e;cases e
 | some z =>
  rw[h]at e
  cases e
  obtain⟨⟨f1,d1⟩,e3,e4⟩:=g5 h
  refine⟨ρ,f1,d1,rs,e3,fun v H' s r=>?_⟩
  cases d1<;>first|cases e4|skip
  exact⟨z,Rp.bl_.mp r.sh,k _ H' s RpF.b_⟩
def fIf(F:FT)(Fa Fb:FE):FE:=fun ρ=>(F ρ).bind fun b=>if b then Fa ρ else Fb ρ
def fNeg(F:FE):FE:=fun ρ=>(F ρ).bind fun x=>match x.2 with|.int i=>some (.nw,.int (-i))|_=>none
theorem FJ(ha:PF X a Fa):PF X (.UnaryOp .USub a pos) (fNeg Fa):=(pe_un un_neg ha).imp fun σ H Q ⟨ρ,f,d,rs,e,k⟩=>by
 obtain⟨⟨f1,d1⟩,e1,e2⟩:=g5 e
 refine⟨ρ,f1,d1,rs,e1,fun v H' s r=>?_⟩
 cases d1<;>first|cases e2|skip
 rename_i i
 exact⟨i,Rp.int_.mp r.sh,k _ H' s RpF.i_⟩
def B7(r r':FO)(Fa Fb Fc:FE):FE:=fun ρ=>(Fa ρ).bind fun x=>(Fb ρ).bind fun y=>(r x.2 y.2).bind fun z=>(blD z.2).bind fun k=>if k then(Fc ρ).bind fun w=>r' y.2 w.2 else some (.nw,.bl false)
theorem AU{r r':FO}{σ:St}{H:Hp}{Q:VK}(h:upF X (B7 r r' Fa Fb Fc) σ H Q):
  Da (fun x y H Q=>∃ dx dy f d,Rp X.K emp dx H x∧Rp X.K emp dy H y∧r dx dy=some (f,d)∧∀ v H',Same H H'→RpF X.ky H f d H' v→Q v H') (fun x y H Q=>∃ dx dy f d,Rp X.K emp dx H x∧Rp X.K emp dy H y∧r' dx dy=some (f,d)∧∀ v H',Same H H'→RpF X.ky H f d H' v→Q v H')
   (upF X Fa) (upF X Fb) (upF X Fc) σ H Q:=by
 obtain⟨ρ,f,d,rs,e0,k⟩:=h
 obtain⟨⟨fa,da⟩,ea,e1⟩:=g5 e0
 obtain⟨⟨fb,db⟩,eb,e2⟩:=g5 e1
 obtain⟨⟨fz,dz⟩,ez,e3⟩:=g5 e2
 obtain⟨z,ek,e⟩:=g5 e3
 clear e3 e2 e1 e0
 refine⟨ρ,fa,da,rs,ea,fun v H1 s1 r1=>⟨ρ,fb,db,rs.mono s1,eb,fun u H2 s2 r2=>⟨da,db,fz,dz,Rp.mono _ s2 r1.sh,r2.sh,ez,fun w H3 s3 r3=>?_⟩⟩⟩
 cases dz<;>first|cases ek|skip
 refine⟨z,Rp.bl_.mp r3.sh,?_⟩
 cases z with
 | true =>
  rw[if_pos rfl]at e ⊢
  obtain⟨⟨fc,dc⟩,ec,e⟩:=g5 e
  exact⟨ρ,fc,dc,rs.mono (s1.trans (s2.trans s3)),ec,fun w' H4 s4 r4=>⟨db,dc,f,d,Rp.mono _ (s3.trans s4) r2.sh,r4.sh,e,fun y H' s' r'=>k y H' (s1.trans (s2.trans (s3.trans (s4.trans s')))) (r'.early (s1.trans (s2.trans (s3.trans s4))))⟩⟩
 | false =>
  rw[if_neg Bool.false_ne_true]at e ⊢
  cases e
  exact k _ _ (s1.trans (s2.trans s3)) RpF.b_
theorem KG{op op':CmpOp}{r r':FO}(ho:OpF X (compareOp op) r)(ho':OpF X (compareOp op') r')(ha:PF X a Fa)(hb:PF X b Fb)(hc:PF X c Fc)
 (hm:lastMarks [op,op'] [b,c]=false:=by with_unfolding_all rfl):PF X (.Compare a [op,op'] [b,c] pos) (B7 r r' Fa Fb Fc):=(Hi ho ho' ha hb hc hm).imp fun σ H Q h=>AU h
theorem FL{op op':CmpOp}{r r':FO}(ho:OpF X (compareOp op) r)(ho':OpF X (compareOp op') r')(ha:PF X a Fa)(hb:PF X b Fb)(hc:PF X c Fc)
 (hm:lastMarks [op,op'] [b,c]=false:=by with_unfolding_all rfl):PFT X (.Compare a [op,op'] [b,c] pos) (m4 (B7 r r' Fa Fb Fc)):=(Hj ho ho' ha hb hc hm).imp fun σ H Q hZ=>hZ.elim fun ρ hZ=>hZ.elim fun k hZ=>hZ.elim fun rs hZ=>hZ.elim fun e q=>by
 obtain⟨⟨f,d⟩,e1,e2⟩:=g5 e
 refine AU ⟨ρ,f,d,rs,e1,fun v H' s r=>?_⟩
 cases d<;>first|cases e2|skip
 exact⟨k,Rp.bl_.mp r.sh,q H' s⟩
theorem G3{K:PySem.W.Frag}{B H:Hp}{ds:List Dt}{vs:List V}{i:Int}{d:Dt}(h:Rps K B ds H vs)(e:atI ds i=some d):∃ v,atI vs i=some v∧Rp K B d H v:=by
 unfold atI at e ⊢
 rw[h.length]
 cases q:ixN ds.length i with
 | none=>rw[q]at e;cases e
 | some j =>
  rw[q]at e
  exact h.get e
def Fl.item:Fl→Fl
 | .tn => .sh
 | f=>f
def opAt(x:Dv)(y:Dv):Option Dv:=match x.2,y.2 with
 | .lst ds,.int i=>(atI ds i).map (nrm x.1.item)
 | .tup ds,.int i=>(atI ds i).map (nrm x.1.item)
 | .scr ns,.int i=>(atI ns i).map fun n=>(.nw,.int n)
 | _,_=>none
def fAt(Fa Fb:FE):FE:=fun ρ=>(Fa ρ).bind fun x=>(Fb ρ).bind fun y=>opAt x y
theorem RpF.item{X:Ky}{H H':Hp}{f:Fl}{ds:List Dt}{v:V}{i:Int}{d:Dt}(h:RpF X H f (.lst ds) H' v)(e:atI ds i=some d):∃ a vs w,v = .ref a∧SqL X.K H' a vs∧atI vs i=some w∧RpF X H f.item d H' w:=by
 cases f with
 | sh=>obtain⟨a,vs,rfl,_,h1,h2⟩:=Rp.items h;obtain⟨w,e1,e2⟩:=G3 h2 e;exact⟨a,vs,w,rfl,SqL.of h1,e1,e2⟩
 | tn=>obtain⟨a,vs,rfl,_,h1,h2⟩:=Rp.items h.1;obtain⟨w,e1,e2⟩:=G3 h2 e;exact⟨a,vs,w,rfl,SqL.of h1,e1,e2⟩
 | fr=>obtain⟨a,vs,rfl,_,h1,h2⟩:=Rp.items h;obtain⟨w,e1,e2⟩:=G3 h2 e;exact⟨a,vs,w,rfl,SqL.of h1,e1,e2⟩
 | nw=>obtain⟨a,vs,rfl,_,h1,h2⟩:=Rp.items h;obtain⟨w,e1,e2⟩:=G3 h2 e;exact⟨a,vs,w,rfl,SqL.of h1,e1,e2⟩
theorem RpF.itemT{X:Ky}{H H':Hp}{f:Fl}{ds:List Dt}{v:V}{i:Int}{d:Dt}(h:RpF X H f (.tup ds) H' v)(e:atI ds i=some d):∃ a vs w,v = .ref a∧SqT X.K H' a vs∧atI vs i=some w∧RpF X H f.item d H' w:=by
 cases f with
 | sh=>obtain⟨a,vs,rfl,h1,h2⟩:=Rp.tup_.mp h;obtain⟨w,e1,e2⟩:=G3 h2 e;exact⟨a,vs,w,rfl,h1,e1,e2⟩
 | tn=>obtain⟨⟨_,h2⟩,_⟩:=h.2;cases h2
 | fr=>obtain⟨a,vs,rfl,h1,h2⟩:=Rp.tup_.mp h;obtain⟨w,e1,e2⟩:=G3 h2 e;exact⟨a,vs,w,rfl,h1,e1,e2⟩
 | nw=>obtain⟨a,vs,rfl,h1,h2⟩:=Rp.tup_.mp h;obtain⟨w,e1,e2⟩:=G3 h2 e;exact⟨a,vs,w,rfl,h1,e1,e2⟩
theorem KH{α β:Type}{g:α→β}{xs:List α}{i:Int}{x:α}(h:atI xs i=some x):atI (xs.map g) i=some (g x):=by
 unfold atI at h ⊢
 rw[List.length_map]
 cases q:ixN xs.length i with
 | none=>rw[q]at h;cases h
 | some j=>rw[q]at h;have h:xs[j]?=some x:=h;show(xs.map g)[j]?=_;rw[List.getElem?_map,h];rfl
theorem p_ix(ha:PF X a Fa)(hb:PF X b Fb)(hs:BC b):PF X (.Subscript a b pos) (fAt Fa Fb) :=
 (Fz ix_seq ha hb hs).imp fun σ H Q hZ=>hZ.elim fun ρ hZ=>hZ.elim fun f hZ=>hZ.elim fun d hZ=>hZ.elim fun rs hZ=>hZ.elim fun e0 k=>by
  obtain⟨⟨fa,da⟩,ea,e1⟩:=g5 e0
  obtain⟨⟨fb,db⟩,eb,e⟩:=g5 e1
  clear e1 e0
  refine⟨ρ,fa,da,rs,ea,fun v H1 s1 r1=>⟨ρ,fb,db,rs.mono s1,eb,fun u H2 s2 r2=>?_⟩⟩
  have r1:=r1.mono s2
  unfold opAt at e
  split at e
  · rename_i ds i ed ei
    cases ed;cases ei
    cases q:atI ds i with
    | none=>rw[q]at e;cases e
    | some d0 =>
     rw[q]at e
     obtain⟨p,vs,w,rfl,h1,h2,h3⟩:=r1.item q
     have e:nrm fa.item d0=(f,d):=Option.some.inj e
     have h4:=h3.nrm
     have e1:d0=d:=congrArg Prod.snd e
     subst e1
     rw[e]at h4
     exact .inl ⟨p,vs,i,w,rfl,Rp.int_.mp r2.sh,h1,h2,k _ _ (s1.trans s2) h4⟩
  · rename_i ds i ed ei
    cases ed;cases ei
    cases q:atI ds i with
    | none=>rw[q]at e;cases e
    | some d0 =>
     rw[q]at e
     obtain⟨p,vs,w,rfl,h1,h2,h3⟩:=r1.itemT q
     have e:nrm fa.item d0=(f,d):=Option.some.inj e
     have h4:=h3.nrm
     have e1:d0=d:=congrArg Prod.snd e
     subst e1
     rw[e]at h4
     exact .inr (.inl ⟨p,vs,i,w,rfl,Rp.int_.mp r2.sh,h1,h2,k _ _ (s1.trans s2) h4⟩)
  · rename_i ns i ed ei
    cases ed;cases ei
    cases q:atI ns i with
    | none=>rw[q]at e;cases e
    | some n =>
     rw[q]at e
     cases e
     obtain⟨p,rfl,_,h1⟩:=Rp.scr_.mp r1.sh
     exact .inl ⟨p,_,i,_,rfl,Rp.int_.mp r2.sh,h1.sq,KH q,k _ _ (s1.trans s2) RpF.i_⟩
  · cases e
end
end L2

end
section
local macro_rules|`(tactic| omega)=>`(tactic| first|lia|omega +splitDisjunctions)
set_option Elab.async false
set_option linter.all false
set_option maxRecDepth 100000
namespace L2
open PySem PySem.Spec PyProof.Rows
mutual
def Dt.py:Dt→PyData
 | .non => .none
 | .bl b => .bool b
 | .int i => .int i
 | .str x => .str x
 | .lst ds => .list (pys ds)
 | .tup ds => .tuple (pys ds)
 | .scr ns => .list (ns.map .int)
 | .dic => .dict []
 | .obj _ _ _ _ => .none
def pys:List Dt→List PyData
 | []=>[]
 | d::ds=>d.py::pys ds
end
mutual
def Dt.okN:Nat→Dt→Bool
 | _,.str x=>PyData.strOk x
 | 0,.lst _=>false
 | 0,.tup _=>false
 | n+1,.lst ds=>oksN n ds
 | n+1,.tup ds=>oksN n ds
 | 0,.scr _=>false
 | _,.dic=>false
 | _,.obj _ _ _ _=>false
 | _,_=>true
def oksN:Nat→List Dt→Bool
 | _,[]=>true
 | n,d::ds=>d.okN n&&oksN n ds
end
theorem BL:∀ ns:List Int,PyData.canLayAll0 (ns.map PyData.int)=true∧PyData.depthAll (ns.map PyData.int)=0
 | []=>⟨rfl,rfl⟩
 | n::ns=>⟨by rw[List.map_cons,PyData.canLayAll0,(BL ns).1];rfl,by rw[List.map_cons,PyData.depthAll,(BL ns).2];rfl⟩
mutual
theorem FN:∀(n:Nat) (d:Dt),d.okN n=true→d.py.canLay0=true∧d.py.depth≤n
 | n,.non,_=>⟨rfl,by rw[Dt.py,PyData.depth];exact Nat.zero_le _⟩
 | n,.bl b,_=>⟨rfl,by rw[Dt.py,PyData.depth];exact Nat.zero_le _⟩
 | n,.int i,_=>⟨rfl,by rw[Dt.py,PyData.depth];exact Nat.zero_le _⟩
 | n,.str x,h=>by
  have h:PyData.strOk x=true:=by cases n<;>simpa[Dt.okN]using h
  exact⟨by rw[Dt.py,PyData.canLay0];exact h,by rw[Dt.py,PyData.depth];exact Nat.zero_le _⟩
 | 0,.lst ds,h=>by rw[Dt.okN]at h;cases h
 | 0,.tup ds,h=>by rw[Dt.okN]at h;cases h
 | 0,.scr ds,h=>by rw[Dt.okN]at h;cases h
 | n,.dic,h=>by cases n<;>(unfold Dt.okN at h;cases h)
 | n,.obj _ _ _ _,h=>by cases n<;>(unfold Dt.okN at h;cases h)
 | n+1,.lst ds,h=>by
  rw[Dt.okN]at h
  obtain⟨h1,h2⟩:=Z4 n ds h
  exact⟨by rw[Dt.py,PyData.canLay0];exact h1,by rw[Dt.py,PyData.depth];omega⟩
 | n+1,.tup ds,h=>by
  rw[Dt.okN]at h
  obtain⟨h1,h2⟩:=Z4 n ds h
  exact⟨by rw[Dt.py,PyData.canLay0];exact h1,by rw[Dt.py,PyData.depth];omega⟩
 | n+1,.scr ns,h=>by
  obtain⟨h1,h2⟩:=BL ns
  exact⟨by rw[Dt.py,PyData.canLay0];exact h1,by rw[Dt.py,PyData.depth];omega⟩
theorem Z4:∀(n:Nat) (ds:List Dt),oksN n ds=true→PyData.canLayAll0 (pys ds)=true∧PyData.depthAll (pys ds)≤n
 | n,[],_=>⟨rfl,by rw[pys,PyData.depthAll];exact Nat.zero_le _⟩
 | n,d::ds,h=>by
  rw[oksN,Bool.and_eq_true]at h
  obtain⟨h1,h2⟩:=FN n d h.1
  obtain⟨h3,h4⟩:=Z4 n ds h.2
  refine⟨by rw[pys,PyData.canLayAll0,h1,h3];rfl,?_⟩
  rw[pys,PyData.depthAll]
  exact Nat.max_le.mpr ⟨h2,h4⟩
end
theorem M5{d:Dt}{n:Nat}(h:d.okN n=true)(hn:n≤64):SeqAt.shaped d.py=true:=by
 obtain⟨h1,h2⟩:=FN n d h
 unfold SeqAt.shaped
 rw[h1,Bool.true_and]
 exact decide_eq_true (Nat.le_trans h2 hn)
section
variable {X:Cx}{pins:List (Addr×Obj)}{σ:St}{H:Hp}{s:Shared}
theorem Z5{h:Heap}:∀{ns:List Int} {us:List Value},Vals (ns.map V.int) us→∃ as,ReadsAll h us (ns.map PyData.int) as
 | [],us,r=>by cases r;exact⟨_,.nil⟩
 | n::ns,us,r=>by
  rw[List.map_cons]at r
  cases r with
  | cons r1 r2 =>
   obtain⟨t,rfl⟩:=r1
   obtain⟨as,q⟩:=Z5 r2
   exact⟨_,.cons (.int n t) q⟩
mutual
theorem K0(I:Inv X pins σ H s):∀(n:Nat) (d:Dt) {v:V} {u:Value},d.okN n=true→Rp X.K emp d H v→RelV v u→∃ as,Reads s.heap u d.py as
 | n,.non,v,u,_,h,r=>by rw[Rp.non_]at h;subst h;cases r;exact⟨_,.none⟩
 | n,.bl b,v,u,_,h,r=>by rw[Rp.bl_]at h;subst h;cases r;exact⟨_,.bool b⟩
 | n,.int i,v,u,_,h,r=>by rw[Rp.int_]at h;subst h;obtain⟨t,rfl⟩:=r;exact⟨_,.int i t⟩
 | n,.str x,v,u,_,h,r=>by rw[Rp.str_]at h;subst h;obtain⟨t,rfl⟩:=r;exact⟨_,.str x t⟩
 | n,.dic,v,u,o,h,r=>by cases n<;>(unfold Dt.okN at o;cases o)
 | n,.obj _ _ _ _,v,u,o,h,r=>by cases n<;>(unfold Dt.okN at o;cases o)
 | 0,.lst ds,v,u,o,h,r=>by rw[Dt.okN]at o;cases o
 | 0,.tup ds,v,u,o,h,r=>by rw[Dt.okN]at o;cases o
 | n+1,.lst ds,v,u,o,h,r=>by
  rw[Dt.okN]at o
  obtain⟨a,vs,rfl,_,h1,h2⟩:=Rp.lst_.mp h
  cases r
  obtain⟨its,rv,⟨o,n,e,c,dd,dt⟩,_⟩:=I.list (SqL.of (K:=X.K) h1)
  obtain⟨as,q⟩:=K1 I _ ds (by assumption) (Rps.mono ds j5 h2) rv
  exact⟨_,by rw[Dt.py];exact .list e c dt q⟩
 | n+1,.tup ds,v,u,o,h,r=>by
  rw[Dt.okN]at o
  obtain⟨a,vs,rfl,h1,h2⟩:=Rp.tup_.mp h
  cases r
  obtain⟨its,rv,⟨o,e,c,n,dt⟩,_⟩:=I.tuple h1
  obtain⟨as,q⟩:=K1 I _ ds (by assumption) h2 rv
  exact⟨_,by rw[Dt.py];exact .tuple e c dt q⟩
 | n,.scr ns,v,u,_,h,r=>by
  obtain⟨a,rfl,_,h1⟩:=Rp.scr_.mp h
  cases r
  obtain⟨its,rv,⟨o,n,e,c,dd,dt⟩,_⟩:=I.list h1.sq
  obtain⟨as,q⟩:=Z5 (h:=s.heap) rv
  exact⟨_,by rw[Dt.py];exact .list e c dt q⟩
theorem K1(I:Inv X pins σ H s):∀(n:Nat) (ds:List Dt) {vs:List V} {us:List Value},oksN n ds=true→Rps X.K emp ds H vs→Vals vs us→∃ as,ReadsAll s.heap us (pys ds) as
 | n,[],vs,us,_,h,r=>by rw[Rps.nil_]at h;subst h;cases r;exact⟨_,by rw[pys];exact .nil⟩
 | n,d::ds,vs,us,o,h,r=>by
  rw[oksN,Bool.and_eq_true]at o
  obtain⟨v,ws,rfl,h1,h2⟩:=Rps.cons_.mp h
  cases r with
  | cons r1 r2 =>
   obtain⟨as,q1⟩:=K0 I n d o.1 h1 r1
   obtain⟨bs,q2⟩:=K1 I n ds o.2 h2 r2
   exact⟨_,by rw[pys];exact .cons q1 q2⟩
end
end
def eqD(x y:Dt):Bool:=PyData.eqv x.py y.py
section
variable {X:Cx}{a b c e:Expr}{Fa Fb Fc:FE}{pos:Pos}
def opEq:FO:=fun x y=>if x.okN 8&&y.okN 8 then some (.nw,.bl (eqD x y)) else none
def opNe:FO:=fun x y=>if x.okN 8&&y.okN 8 then some (.nw,.bl (!eqD x y)) else none
theorem o_eq(hu:X.A.units+64<cLine):OpF X (compareOp .Eq) opEq:=by
 rintro pins s σ H x y v u Q I r1 r2 ⟨d1,d2,f,d,q1,q2,e,k⟩
 unfold opEq at e
 split at e
 · rename_i h
   rw[Bool.and_eq_true]at h
   cases e
   obtain⟨as,ra⟩:=K0 I _ d1 h.1 q1 r1
   obtain⟨bs,rb⟩:=K0 I _ d2 h.2 q2 r2
   exact eq_dataH ra rb (M5 h.1 (by decide)) (M5 h.2 (by decide)) hu ⟨.bl _,H,I,rfl,k _ H (Same.refl H) RpF.b_⟩
 · cases e
theorem o_ne(hu:X.A.units+64<cLine):OpF X (compareOp .NotEq) opNe:=by
 rintro pins s σ H x y v u Q I r1 r2 ⟨d1,d2,f,d,q1,q2,e,k⟩
 unfold opNe at e
 split at e
 · rename_i h
   rw[Bool.and_eq_true]at h
   cases e
   obtain⟨as,ra⟩:=K0 I _ d1 h.1 q1 r1
   obtain⟨bs,rb⟩:=K0 I _ d2 h.2 q2 r2
   exact ne_dataH ra rb (M5 h.1 (by decide)) (M5 h.2 (by decide)) hu ⟨.bl _,H,I,rfl,k _ H (Same.refl H) RpF.b_⟩
 · cases e
end
def RpFs(X:Ky)(H:Hp):List Dv→Hp→List V→Prop
 | [],_,vs=>vs=[]
 | x::xs,H',vs=>∃ v r,vs=v::r∧RpF X H x.1 x.2 H' v∧RpFs X H xs H' r
def upAs(X:Cx)(F:FA):TA:=fun σ H Q=>∃ ρ xs,RepS X.ky H ρ σ∧F ρ=some xs∧∀ vs H',Same H H'→RpFs X.ky H xs H' vs→Q vs H'
def PFA(X:Cx)(es:List Expr)(F:FA):Prop:=PA X es (upAs X F)
def sndL:List Dv→List Dt
 | []=>[]
 | x::xs=>x.2::sndL xs
def J5:List Dv→Bool
 | []=>true
 | x::xs=>x.1.isNw&&J5 xs
def C5:List Dv→Bool
 | []=>true
 | x::xs=>x.1.isFr&&C5 xs
section
variable {X:Ky}{H H' H1:Hp}
theorem RpFs.sh:∀{xs:List Dv} {vs:List V},RpFs X H xs H' vs→Rps X.K emp (sndL xs) H' vs
 | [],vs,h=>Rps.nil_.mpr h
 | x::xs,vs,⟨v,r,e,h1,h2⟩=>Rps.cons_.mpr ⟨v,r,e,h1.sh,RpFs.sh h2⟩
theorem RpFs.nw:∀{xs:List Dv} {vs:List V},J5 xs=true→RpFs X H xs H' vs→Rps X.K H (sndL xs) H' vs
 | [],vs,_,h=>Rps.nil_.mpr h
 | ⟨f,d⟩::xs,vs,q,⟨v,r,e,h1,h2⟩=>by
  unfold J5 at q
  rw[Bool.and_eq_true]at q
  cases f<;>first|(exact absurd q.1 Bool.false_ne_true)|exact Rps.cons_.mpr ⟨v,r,e,h1,RpFs.nw q.2 h2⟩
theorem RpFs.fr(h0:Same X.H₀ H):∀{xs:List Dv} {vs:List V},C5 xs=true→RpFs X H xs H' vs→Rps X.K X.H₀ (sndL xs) H' vs
 | [],vs,_,h=>Rps.nil_.mpr h
 | ⟨f,d⟩::xs,vs,q,⟨v,r,e,h1,h2⟩=>by
  unfold C5 at q
  rw[Bool.and_eq_true]at q
  exact Rps.cons_.mpr ⟨v,r,e,h1.fr h0 q.1,RpFs.fr h0 q.2 h2⟩
theorem RpFs.mono:∀{xs:List Dv} {vs:List V},RpFs X H xs H' vs→Same H' H1→RpFs X H xs H1 vs
 | [],vs,h,_=>h
 | x::xs,vs,⟨v,r,e,h1,h2⟩,s=>⟨v,r,e,h1.mono s,RpFs.mono h2 s⟩
theorem RpFs.early(s:Same H H1):∀{xs:List Dv} {vs:List V},RpFs X H1 xs H' vs→RpFs X H xs H' vs
 | [],vs,h=>h
 | x::xs,vs,⟨v,r,e,h1,h2⟩=>⟨v,r,e,h1.early s,RpFs.early s h2⟩
end
section
variable {X:Cx}{a b c e:Expr}{es:List Expr}{Fa Fb Fe:FE}{Fs:FA}{pos:Pos}
def fNil:FA:=fun _=>some []
def f9(Fa:FE)(Fs:FA):FA:=fun ρ=>(Fa ρ).bind fun x=>(Fs ρ).bind fun xs=>some (x::xs)
theorem j3:PFA X [] fNil:=B4.imp (by rintro σ H Q ⟨ρ,xs,rs,e,k⟩;cases e;exact k [] H (Same.refl H) rfl)
theorem i9(ha:PF X e Fe)(hr:PFA X es Fs)(hs:starEach (e::es) X.env=(false,eval e X.env)::starEach es X.env:=by rfl):PFA X (e::es) (f9 Fe Fs) :=
 (u3 ha hr hs).imp fun σ H Q hZ=>hZ.elim fun ρ hZ=>hZ.elim fun xs hZ=>hZ.elim fun rs hZ=>hZ.elim fun e0 k=>by
  obtain⟨⟨f,d⟩,e1,e2⟩:=g5 e0
  obtain⟨ys,e3,e4⟩:=g5 e2
  cases e4
  exact⟨ρ,f,d,rs,e1,fun v H1 s1 r1=>⟨ρ,ys,rs.mono s1,e3,fun vs H2 s2 r2=>k _ _ (s1.trans s2) ⟨v,vs,rfl,r1.mono s2,r2.early s1⟩⟩⟩
theorem RpFs.length{X:Ky}{H H':Hp}:∀{xs:List Dv} {vs:List V},RpFs X H xs H' vs→vs.length=xs.length
 | [],vs,h=>by rw[show vs=[]from h];rfl
 | x::xs,vs,⟨v,r,e,_,h2⟩=>by rw[e,List.length_cons,List.length_cons,RpFs.length h2]
def fLst(Fs:FA):FE:=fun ρ=>(Fs ρ).bind fun xs=>if xs.length≤1000 then some (if J5 xs then .nw else .tn,.lst (sndL xs)) else none
def fTup(Fs:FA):FE:=fun ρ=>(Fs ρ).bind fun xs=>if xs.length≤1000 then some (if J5 xs then .nw else if C5 xs then .fr else .sh,.tup (sndL xs)) else none
theorem K2(h:PFA X es Fs):PF X (.List es pos) (fLst Fs):=(Bv h).imp fun σ H Q hZ=>hZ.elim fun ρ hZ=>hZ.elim fun f hZ=>hZ.elim fun d hZ=>hZ.elim fun rs hZ=>hZ.elim fun e0 k=>by
 obtain⟨xs,e1,e2⟩:=g5 e0
 split at e2
 · rename_i hl
   cases e2
   refine⟨ρ,xs,rs,e1,fun vs H1 s1 r1=>⟨Nat.le_trans (by rw[r1.length];exact hl) (by decide),fun p hp=>k _ _ (s1.trans (p6 hp)) ?_⟩⟩
   have hp0:H p=none:=s1.free hp
   by_cases q:J5 xs=true
   · rw[if_pos q]
     exact Rp.new (K:=X.K) (B:=H) hp hp0 (r1.nw q)
   · rw[if_neg q]
     exact⟨Rp.new hp rfl r1.sh,⟨_,rfl⟩,fun a e=>by cases e;exact hp0⟩
 · cases e2
theorem FQ{x1}(h:PFA X es Fs):PF X (.Tuple es x1 pos) (fTup Fs):=(pe_tup h).imp fun σ H Q hZ=>hZ.elim fun ρ hZ=>hZ.elim fun f hZ=>hZ.elim fun d hZ=>hZ.elim fun rs hZ=>hZ.elim fun e0 k=>by
 obtain⟨xs,e1,e2⟩:=g5 e0
 split at e2
 · rename_i hl
   cases e2
   refine⟨ρ,xs,rs,e1,fun vs H1 s1 r1=>⟨Nat.le_trans (by rw[r1.length];exact hl) (by decide),fun p hp=>k _ _ (s1.trans (p6 hp)) ?_⟩⟩
   have r2:=r1.mono (p6 (o := .tup vs) hp)
   by_cases q:J5 xs=true
   · rw[if_pos q]
     exact(Rp.tup_ (K:=X.K) (B:=H)).mpr ⟨p,vs,rfl,SqT.of j0,r2.nw q⟩
   · rw[if_neg q]
     by_cases q2:C5 xs=true
     · rw[if_pos q2]
       exact(Rp.tup_ (K:=X.K) (B:=X.H₀)).mpr ⟨p,vs,rfl,SqT.of j0,r2.fr rs.base q2⟩
     · rw[if_neg q2]
       exact(Rp.tup_ (K:=X.K) (B:=emp)).mpr ⟨p,vs,rfl,SqT.of j0,r2.sh⟩
 · cases e2
abbrev FC:=List Dt→Option Dt
def spc(K:PySem.W.Frag)(fr:Bool)(c:FC):Sp:=fun vs H Q _=>∃ ds d,Rps K emp ds H vs∧c ds=some d∧∀ v H',Same H H'→Rp K (if fr then H else emp) d H' v→Q v H'
def j7(fr:Bool)(c:FC)(Fs:FA):FE:=fun ρ=>(Fs ρ).bind fun xs=>(c (sndL xs)).map (nrm (if fr then .nw else .sh))
theorem Cv{X:Ky}{fr:Bool}{H H1 H':Hp}{d:Dt}{v:V}(s:Same H H1)(r:Rp X.K (if fr then H1 else emp) d H' v):RpF X H (nrm (if fr then .nw else .sh) d).1 d H' v:=by
 cases fr with
 | true=>exact RpF.nrm (f := .nw) (RpF.early s (show RpF X H1 .nw d H' v from r))
 | false=>exact RpF.nrm (f := .sh) r
theorem p_call{fr:Bool}{k:Nat}{f:Addr}{fd:FuncData}{ps:List Str}{ct:FC}{x:Str}{p:Pos}(F:FnOk X.prog X.w X.K X.mg X.base CX0 k f fd ps (spc X.K fr ct))(hr:Room k X.A)(hg:Gl X x)(hm:X.mg x=some (.ref f))(hk:PySem.W.keepIn X.K (.ref f)=true)(hb:Binds X.K fd ps [])
  (ha:PFA X (e::es) Fs) (hdb:(x==("__debug__" : Str))=false:=by decide) (hst:starEach (e::es) X.env=(false,eval e X.env)::starEach es X.env:=by rfl) (hpl:(backTo pos (starEach es X.env)).any (·.1)=false:=by rfl):PF X (.Call (.Name x p) (e::es) [] pos) (j7 fr ct Fs) :=
 (Q5 (E:=E0) (dvs:=[]) F hr hg hm hk hb .nil O0 ha hdb hst hpl).imp fun σ H Q hZ=>hZ.elim fun ρ hZ=>hZ.elim fun f hZ=>hZ.elim fun d hZ=>hZ.elim fun rs hZ=>hZ.elim fun e0 k=>by
  obtain⟨xs,e1,e2⟩:=g5 e0
  cases q:ct (sndL xs) with
  | none=>rw[q]at e2;cases e2
  | some d0 =>
   rw[q]at e2
   have e2:nrm (if fr then .nw else .sh) d0=(f,d):=Option.some.inj e2
   have e3:d0=d:=congrArg Prod.snd e2
   subst e3
   refine⟨ρ,xs,rs,e1,fun vs H1 s1 r1=>?_⟩
   dsimp only
   rw[List.append_nil]
   refine⟨_,d0,r1.sh,q,fun v H' s' r'=>k v H' (s1.trans s') ?_⟩
   have:=Cv (X:=X.ky) s1 r'
   rw[e2]at this
   exact this
abbrev FB:=List Dt→Option Dv
def R4(X:Cx)(f:Value)(r:FB):Prop:=CallR X f (fun xs H Q=>∃ ds f d,Rps X.K emp ds H xs∧r ds=some (f,d)∧∀ v H',Same H H'→RpF X.ky H f d H' v→Q v H')
def fBlt(r:FB)(Fs:FA):FE:=fun ρ=>(Fs ρ).bind fun xs=>r (sndL xs)
theorem FU{r:FB}{σ:St}{H:Hp}{Q:VK}(h:upF X (fBlt r Fs) σ H Q):upAs X Fs σ H fun vs H1=>∃ ds f d,Rps X.K emp ds H1 vs∧r ds=some (f,d)∧∀ v H',Same H1 H'→RpF X.ky H1 f d H' v→Q v H':=by
 obtain⟨ρ,f,d,rs,e0,k⟩:=h
 obtain⟨xs,e1,e2⟩:=g5 e0
 exact⟨ρ,xs,rs,e1,fun vs H1 s1 r1=>⟨_,f,d,r1.sh,e2,fun v H' s' r'=>k v H' (s1.trans s') (r'.early s1)⟩⟩
theorem KI{id:String}{r:FB}{x:Str}{p:Pos}(hc:R4 X (.builtin id) r)(hg:Gl X x)(hm:X.mg x=none)(hv:bootBuiltins x=some (.builtin id))(ha:PFA X (e::es) Fs)(hn:x ≠ "__name__" := by decide)(hdb:(x==("__debug__" : Str))=false:=by decide)(hst:starEach (e::es) X.env=(false,eval e X.env)::starEach es X.env:=by rfl)(hpl:(backTo pos (starEach es X.env)).any (·.1)=false:=by rfl):
 PF X (.Call (.Name x p) (e::es) [] pos) (fBlt r Fs):=(Cq hc hg hm hv ha hn hdb hst hpl).imp fun σ H Q h=>FU h
theorem HL{T:String}{r:FB}{x:Str}{p:Pos}(hc:R4 X (.type T) r)(hg:Gl X x)(hm:X.mg x=none)(hv:bootBuiltins x=some (.type T))(ha:PFA X (e::es) Fs)(hn:x ≠ "__name__" := by decide)(hdb:(x==("__debug__" : Str))=false:=by decide)(hst:starEach (e::es) X.env=(false,eval e X.env)::starEach es X.env:=by rfl)(hpl:(backTo pos (starEach es X.env)).any (·.1)=false:=by rfl):
 PF X (.Call (.Name x p) (e::es) [] pos) (fBlt r Fs):=(GI hc hg hm hv ha hn hdb hst hpl).imp fun σ H Q h=>FU h
end
section
variable {X:Cx}
theorem Rps.one'{K:PySem.W.Frag}{B H:Hp}{d:Dt}{vs:List V}(h:Rps K B [d] H vs):∃ v,vs=[v]∧Rp K B d H v:=by
 obtain⟨v,r,rfl,h1,h2⟩:=Rps.cons_.mp h
 rw[Rps.nil_.mp h2]
 exact⟨v,rfl,h1⟩
def bLen:FB
 | [.lst xs]=>some (.nw,.int xs.length)
 | [.tup xs]=>some (.nw,.int xs.length)
 | [.scr xs]=>some (.nw,.int xs.length)
 | _=>none
theorem E4:R4 X (.builtin "len") bLen:=by
 rintro pins s σ H xs us Q I r ⟨ds,f,d,rs,e,k⟩
 unfold bLen at e
 split at e
 · cases e
   obtain⟨v,rfl,h⟩:=rs.one'
   obtain⟨p,vs,rfl,_,q1,q2⟩:=h.items
   exact G0 pins s σ H _ us Q I r ⟨p,vs,rfl,.inl (SqL.of q1),by rw[q2.length];exact k _ H (Same.refl H) RpF.i_⟩
 · cases e
   obtain⟨v,rfl,h⟩:=rs.one'
   obtain⟨p,vs,rfl,q1,q2⟩:=Rp.tup_.mp h
   exact G0 pins s σ H _ us Q I r ⟨p,vs,rfl,.inr q1,by rw[q2.length];exact k _ H (Same.refl H) RpF.i_⟩
 · cases e
   obtain⟨v,rfl,h⟩:=rs.one'
   obtain⟨p,rfl,_,q1⟩:=Rp.scr_.mp h
   exact G0 pins s σ H _ us Q I r ⟨p,_,rfl,.inl q1.sq,by rw[List.length_map];exact k _ H (Same.refl H) RpF.i_⟩
 · cases e
def bTup:FB
 | [.lst xs]=>some (if n9 xs then .nw else .sh,.tup xs)
 | [.tup xs]=>some (if n9 xs then .nw else .sh,.tup xs)
 | _=>none
theorem FV{X:Ky}{H H':Hp}{xs:List Dt}{v:V}(h:Rp X.K emp (.tup xs) H' v):RpF X H (if n9 xs then .nw else .sh) (.tup xs) H' v:=by
 by_cases q:n9 xs=true
 · rw[if_pos q];exact RpF.scal (by rw[Dt.flat];exact q) h
 · rw[if_neg q];exact h
theorem FY:R4 X (.type "tuple") bTup:=by
 rintro pins s σ H xs us Q I r ⟨ds,f,d,rs,e,k⟩
 unfold bTup at e
 split at e
 · cases e
   obtain⟨v,rfl,h⟩:=rs.one'
   obtain⟨p,vs,rfl,_,q1,q2⟩:=h.items
   exact N9 pins s σ H _ us Q I r ⟨p,vs,rfl,.inl ⟨SqL.of q1,fun l hl=>k _ _ (p6 hl) (FV (Rp.tup_.mpr ⟨l,vs,rfl,SqT.of j0,Rps.mono _ (p6 hl) q2⟩))⟩⟩
 · cases e
   obtain⟨v,rfl,h⟩:=rs.one'
   obtain⟨p,vs,rfl,q1,q2⟩:=Rp.tup_.mp h
   exact N9 pins s σ H _ us Q I r ⟨p,vs,rfl,.inr ⟨q1,k _ H (Same.refl H) (FV h)⟩⟩
 · cases e
def bLst:FB
 | [.lst xs]=>some (newL xs)
 | [.tup xs]=>some (newL xs)
 | _=>none
theorem c_lst:R4 X (.type "list") bLst:=by
 rintro pins s σ H xs us Q I r ⟨ds,f,d,rs,e,k⟩
 unfold bLst at e
 split at e
 · cases e
   obtain⟨v,rfl,h⟩:=rs.one'
   obtain⟨p,vs,rfl,_,q1,q2⟩:=h.items
   exact Q7 pins s σ H _ us Q I r ⟨p,vs,rfl,.inl (SqL.of q1),fun l hl=>k _ _ (p6 hl) (X1 hl q2)⟩
 · cases e
   obtain⟨v,rfl,h⟩:=rs.one'
   obtain⟨p,vs,rfl,q1,q2⟩:=Rp.tup_.mp h
   exact Q7 pins s σ H _ us Q I r ⟨p,vs,rfl,.inr q1,fun l hl=>k _ _ (p6 hl) (X1 hl q2)⟩
 · cases e
def bAbs:FB
 | [.int i]=>some (.nw,.int (if i<0 then -i else i))
 | _=>none
theorem c_abs:R4 X (.builtin "abs") bAbs:=by
 rintro pins s σ H xs us Q I r ⟨ds,f,d,rs,e,k⟩
 unfold bAbs at e
 split at e
 · rename_i i
   cases e
   obtain⟨v,rfl,h⟩:=rs.one'
   rw[Rp.int_]at h
   subst h
   exact Hl pins s σ H _ us Q I r ⟨i,rfl,k _ H (Same.refl H) RpF.i_⟩
 · cases e
def V4:List Dt→Option (List Bool)
 | []=>some []
 | .bl b::ds=>(V4 ds).map (b::·)
 | _=>none
theorem AV{K:PySem.W.Frag}{B H:Hp}:∀{ds:List Dt} {bs:List Bool} {vs:List V},V4 ds=some bs→Rps K B ds H vs→vs=bs.map V.bl
 | [],bs,vs,e,r=>by cases e;exact Rps.nil_.mp r
 | .bl b::ds,bs,vs,e,r=>by
  obtain⟨v,ws,rfl,h1,h2⟩:=Rps.cons_.mp r
  unfold V4 at e
  cases q:V4 ds with
  | none=>rw[q]at e;cases e
  | some cs=>rw[q]at e;cases e;rw[Rp.bl_.mp h1,AV q h2];rfl
 | .non::ds,bs,vs,e,r=>by cases e
 | .int _::ds,bs,vs,e,r=>by cases e
 | .str _::ds,bs,vs,e,r=>by cases e
 | .lst _::ds,bs,vs,e,r=>by cases e
 | .tup _::ds,bs,vs,e,r=>by cases e
 | .scr _::ds,bs,vs,e,r=>by cases e
 | .dic::ds,bs,vs,e,r=>by cases e
 | .obj _ _ _ _::ds,bs,vs,e,r=>by cases e
def bAll:FB
 | [.lst xs]=>(V4 xs).map fun bs=>(.nw,.bl (bs.all id))
 | _=>none
theorem GL(bs:List Bool):(List.range bs.length).all (fun i=>bs.getD i false)=bs.all id:=by
 rw[Bool.eq_iff_iff,List.all_eq_true,List.all_eq_true]
 constructor
 · intro h b hb
   obtain⟨i,hi,e⟩:=List.getElem_of_mem hb
   have:=h i (List.mem_range.mpr hi)
   simp[List.getD,List.getElem?_eq_getElem hi,e]at this
   exact this
 · intro h i hi
   have hi:=List.mem_range.mp hi
   have:=h _ (List.getElem_mem hi)
   simpa[List.getD,List.getElem?_eq_getElem hi]using this
theorem KJ{bs:List Bool}{us:List Value}(r:Vals (bs.map V.bl) us){prog:Program}{w:World}{A:Around}:TruthOf prog w A (fun i v=>us.toArray[i]?=some v) (fun i=>bs.getD i false):=by
 intro i v s Q E hP hQ
 have e:us[i]?=some v:=by simpa using hP
 cases q:bs[i]? with
 | none =>
  have:=r.none_of (i:=i) (by rw[List.getElem?_map,q];rfl)
  rw[this]at e;cases e
 | some b =>
  obtain⟨u,h1,h2⟩:=r.get (i:=i) (x:=V.bl b) (by rw[List.getElem?_map,q];rfl)
  rw[e]at h1
  cases h1
  cases h2
  have hQ':Q b s:=by simpa[List.getD,q]using hQ
  exact wpAny_truthy_bool hQ'
theorem c_all(hc:X.calm=true):R4 X (.builtin "all") bAll:=by
 rintro pins s σ H xs us Q I r ⟨ds,f,d,rs,e,k⟩
 unfold bAll at e
 split at e
 · rename_i ys
   cases q:V4 ys with
   | none=>rw[q]at e;cases e
   | some bs =>
    rw[q]at e
    cases e
    obtain⟨v,rfl,h⟩:=rs.one'
    obtain⟨p,vs,rfl,_,q1,q2⟩:=h.items
    obtain⟨u,rfl,ru⟩:=r.one
    cases ru
    have ev:=AV q q2
    subst ev
    obtain⟨its,rv,pl,hz⟩:=I.list (SqL.of (K:=X.K) q1)
    have hlen:its.toArray.size=bs.length:=by rw[List.size_toArray,←rv.length,List.length_map]
    refine call_all_walk (wpAny_pyIter_list pl.isList ?_)
    have hne:p≠s.heap.objs.size:=Nat.ne_of_lt (by obtain⟨o,e,_⟩:=pl.isList;exact Heap.lt_size e)
    refine⟨_,_,_,_,_,_,fun i=>bs.getD i false,rfl,Walks.list (A:=X.A.in1) (I.ok.hd hc) s.heap.objs.size p hne its.toArray,⟨⟨_,Heap.get?_push_size _ rfl,rfl,rfl⟩,pl.isList.at fun o e=>Heap.get?_push_of_some _ e⟩,KJ rv,fun h' tk hk=>?_⟩
    rw[hlen,GL]
    exact⟨.bl _,H,I.kept fun b o e=>hk b o (by simp;exact Nat.ne_of_lt (Heap.lt_size e)) (Heap.get?_push_of_some _ e),rfl,k _ H (Same.refl H) RpF.b_⟩
 · cases e
def tyN:Dt→String
 | .non => "NoneType"
 | .bl _ => "bool"
 | .int _ => "int"
 | .str _ => "str"
 | .lst _ => "list"
 | .scr _ => "list"
 | .tup _ => "tuple"
 | .dic => "dict"
 | .obj _ _ _ _ => "Book"
def AW(t T:String):Bool:=t==T||(t == "bool" && T == "int")
def okT(T:String):Bool:=T == "int" || T == "bool" || T == "str" || T == "list" || T == "tuple" || T == "dict"
theorem T8{T:String}(h:okT T=true):T = "int" ∨ T = "bool" ∨ T = "str" ∨ T = "list" ∨ T = "tuple" ∨ T = "dict" := by
 unfold okT at h
 simp only[Bool.or_eq_true,beq_iff_eq]at h
 rcases h with((((h|h)|h)|h)|h)|h
 · exact .inl h
 · exact .inr (.inl h)
 · exact .inr (.inr (.inl h))
 · exact .inr (.inr (.inr (.inl h)))
 · exact .inr (.inr (.inr (.inr (.inl h))))
 · exact .inr (.inr (.inr (.inr (.inr h))))
def Dt.isO:Dt→Bool
 | .obj _ _ _ _=>true
 | _=>false
theorem kit_D{K:PySem.W.Frag}{d:Dt}{T:String}(h:okT T=true)(ho:d.isO=false):PySem.W.kitOne K (.type (tyN d)) (.type T)=some (AW (tyN d) T):=by
 rcases T8 h with rfl|rfl|rfl|rfl|rfl|rfl<;>cases d<;>first|rfl|cases ho
def fIsi(T:String)(F:FE):FE:=fun ρ=>(F ρ).map fun x=>(.nw,.bl (AW (tyN x.2) T))
theorem KK{T:String}(hT:okT T=true):CallR X (.builtin "isinstance") (fun xs H Q=>∃ d v,xs=[v,.ty T]∧Rp X.K emp d H v∧Q (.bl (AW (tyN d) T)) H):=by
 intro pins s σ H xs us Q I r ⟨d,v,ex,h1,fin⟩
 subst ex
 obtain⟨u,u',rfl,r1,r2⟩:=vals2 r
 cases r2
 have e:d.isO=false→_:=fun ho=>kit_D (K:=X.K) (d:=d) hT ho
 cases d with
 | obj C k b es =>
  obtain⟨a,dx,vk,vb,l,vs,rfl,_,q,_,_,_,bk,_⟩:=Rp.obj_.mp h1
  cases r1
  have sub:AW (tyN (.obj C k b es)) T=false:=by rcases T8 hT with rfl|rfl|rfl|rfl|rfl|rfl<;>rfl
  have mem:T∈["int", "bool", "str", "list", "tuple", "dict"]:=by rcases T8 hT with rfl|rfl|rfl|rfl|rfl|rfl<;>decide
  refine D9 (x := .ref a) I rfl (.ins q bk.cls bk.ha bk.hn bk.tk bk.hm) (bk.is T mem) fun tk=>⟨.bl _,H,I.tok tk,rfl,?_⟩
  rw[sub]at fin
  exact fin
 | non=>rw[Rp.non_.mp h1]at r1;exact D9 I r1 .non (e rfl) fun tk=>⟨.bl _,H,I.tok tk,rfl,fin⟩
 | bl b=>rw[Rp.bl_.mp h1]at r1;exact D9 I r1 (.bl b) (e rfl) fun tk=>⟨.bl _,H,I.tok tk,rfl,fin⟩
 | int i=>rw[Rp.int_.mp h1]at r1;exact D9 I r1 (.int i) (e rfl) fun tk=>⟨.bl _,H,I.tok tk,rfl,fin⟩
 | str x=>rw[Rp.str_.mp h1]at r1;exact D9 I r1 (.str x) (e rfl) fun tk=>⟨.bl _,H,I.tok tk,rfl,fin⟩
 | dic =>
  obtain⟨a,rfl,q⟩:=Rp.dic_.mp h1
  cases r1
  exact PySem.W.kia_one PySem.W.kitx_dict I.kIn ⟨_,(I.hok a _ q).1,rfl⟩ (e rfl) (fun z=>nomatch z) fun tk=>⟨.bl _,H,I.tok tk,rfl,fin⟩
 | lst ys =>
  obtain⟨p,vs,rfl,_,q1,q2⟩:=h1.items
  cases r1
  obtain⟨its,_,pl,_⟩:=I.list (SqL.of (K:=X.K) q1)
  obtain⟨o,ho,hc,_⟩:=pl.isList
  exact PySem.W.kia_one PySem.W.kitx_list I.kIn ⟨o,ho,hc⟩ (e rfl) (fun z=>nomatch z) fun tk=>⟨.bl _,H,I.tok tk,rfl,fin⟩
 | scr ys =>
  obtain⟨p,rfl,_,q1⟩:=Rp.scr_.mp h1
  cases r1
  obtain⟨its,_,pl,_⟩:=I.list q1.sq
  obtain⟨o,ho,hc,_⟩:=pl.isList
  exact PySem.W.kia_one PySem.W.kitx_list I.kIn ⟨o,ho,hc⟩ (e rfl) (fun z=>nomatch z) fun tk=>⟨.bl _,H,I.tok tk,rfl,fin⟩
 | tup ys =>
  obtain⟨p,vs,rfl,q1,q2⟩:=Rp.tup_.mp h1
  cases r1
  obtain⟨its,_,pl,_⟩:=I.tuple q1
  obtain⟨o,ho,hc,_⟩:=pl
  exact PySem.W.kia_one PySem.W.kitx_tuple I.kIn ⟨o,ho,hc⟩ (e rfl) (fun z=>nomatch z) fun tk=>⟨.bl _,H,I.tok tk,rfl,fin⟩
theorem Cw{a:Expr}{Fa:FE}{x:Str}{T:String}{p q pos:Pos}(hT:okT T=true)(hg:Gl X "isinstance")(hm:X.mg "isinstance" = none)(hgT:Gl X x)(hmT:X.mg x=none)(hvT:bootBuiltins x=some (.type T))(ha:PF X a Fa)
  (hn:x ≠ "__name__" := by decide) (hd:(x==("__debug__" : Str))=false:=by decide) (hs1:starEach [.Name x q] X.env=[(false,eval (.Name x q) X.env)]:=by rfl)
  (hs:starEach [a,.Name x q] X.env=(false,eval a X.env)::starEach [.Name x q] X.env:=by rfl):PF X (.Call (.Name "isinstance" p) [a,.Name x q] [] pos) (fIsi T Fa) :=
 (Cq (KK hT) hg hm boot_isinstance (u3 ha (u3 (pe_ty hgT hmT hvT hn hd) B4 hs1) hs) (by decide) (by decide) hs (by rw[hs1];rfl)).imp fun σ H Q hZ=>hZ.elim fun ρ hZ=>hZ.elim fun f hZ=>hZ.elim fun d hZ=>hZ.elim fun rs hZ=>hZ.elim fun e0 k=>by
  unfold fIsi at e0
  cases h:Fa ρ with
  | none=>rw[h]at e0;cases e0
  | some z =>
   rw[h]at e0
   cases e0
   exact⟨ρ,z.1,z.2,rs,h,fun v H1 s1 r1=>⟨z.2,v,rfl,r1.sh,k _ H1 s1 RpF.b_⟩⟩
abbrev FP:=Rho→Option (Option Int)
def upP(X:Cx)(F:FP):TO:=fun σ H Q=>∃ ρ o,RepS X.ky H ρ σ∧F ρ=some o∧∀ H',Same H H'→Q o H'
def PFP(X:Cx)(e:Option Expr)(F:FP):Prop:=PO X e (upP X F)
def u5:FP:=fun _=>some none
def intD:Dt→Option Int
 | .int i=>some i
 | _=>none
def E5(F:FE):FP:=fun ρ=>(F ρ).bind fun x=>(intD x.2).map some
theorem PO.imp{e:Option Expr}{t t':TO}(h:PO X e t)(q:∀ σ H Q,t' σ H Q→t σ H Q):PO X e t':=fun pins s σ H Q I z=>h pins s σ H Q I (q σ H Q z)
theorem BM:PFP X none u5:=Bx.imp (by rintro σ H Q ⟨ρ,o,rs,e,k⟩;cases e;exact k H (Same.refl H))
theorem BN{e:Expr}{F:FE}(h:PF X e F):PFP X (some e) (E5 F):=(Bz h).imp fun σ H Q ⟨ρ,o,rs,e,k⟩=>by
 obtain⟨⟨f,d⟩,e1,e2⟩:=g5 e
 refine⟨ρ,f,d,rs,e1,fun v H1 s1 r1=>?_⟩
 cases d<;>first|cases e2|skip
 rename_i i
 exact⟨i,Rp.int_.mp r1.sh,k H1 s1⟩
def cutD{α:Type}(xs:List α)(lo hi:Option Int):List α:=(xs.drop (HT.sIx xs.length 0 lo)).take (HT.sIx xs.length xs.length hi-HT.sIx xs.length 0 lo)
def fSl(F:FE)(L U:FP):FE:=fun ρ=>(F ρ).bind fun x=>(L ρ).bind fun lo=>(U ρ).bind fun hi=>match x.2 with|.lst ds=>some (newL (cutD ds lo hi))|_=>none
theorem X2{e:Expr}{F:FE}{lo hi:Option Expr}{L U:FP}{pos p2:Pos}(he:PF X e F)(hl:PFP X lo L)(hu:PFP X hi U):PF X (.Subscript e (.Slice lo hi none p2) pos) (fSl F L U) :=
 (Y6 BE he hl hu).imp fun σ H Q hZ=>hZ.elim fun ρ hZ=>hZ.elim fun f hZ=>hZ.elim fun d hZ=>hZ.elim fun rs hZ=>hZ.elim fun e0 k=>by
  obtain⟨⟨fx,dx⟩,e1,e2⟩:=g5 e0
  obtain⟨l,e3,e4⟩:=g5 e2
  obtain⟨u,e5,e6⟩:=g5 e4
  clear e0 e2 e4
  refine⟨ρ,fx,dx,rs,e1,fun v H1 s1 r1=>⟨ρ,l,rs.mono s1,e3,fun H2 s2=>⟨ρ,u,rs.mono (s1.trans s2),e5,fun H3 s3=>?_⟩⟩⟩
  have ex:∃ ds,dx = .lst ds∧newL (cutD ds l u)=(f,d):=by
   cases dx<;>first|(rename_i ds;exact⟨ds,rfl,Option.some.inj e6⟩)|cases e6
  obtain⟨ds,rfl,e7⟩:=ex
  cases e7
  obtain⟨p,vs,rfl,_,q1,q2⟩:=(Rp.mono _ (s2.trans s3) r1.sh).items
  refine⟨p,vs,rfl,SqL.of q1,fun a ha=>k _ _ ((s1.trans (s2.trans s3)).trans (p6 ha)) ?_⟩
  have h1:Rps X.K emp (cutD ds l u) H3 (cutV vs l u):=by
   unfold cutD cutV
   rw[q2.length]
   exact Rps.take _ (Rps.drop _ q2)
  exact(X1 ha h1).early (s1.trans (s2.trans s3))
end
end L2

end
section
local macro_rules|`(tactic| omega)=>`(tactic| first|lia|omega +splitDisjunctions)
set_option Elab.async false
set_option linter.all false
set_option maxRecDepth 100000
namespace L2
open PySem PySem.Spec PyProof.Rows
def Walk(K:PySem.W.Frag)(J:It)(items:List Dt)(H1:Hp):Prop:=∀(A:List Addr) (H:Hp),Same H1 (hidL A H)→(∀ a∈A,∃ o,H a=some o) →
 (∀(i:Nat) (d:Dt),items[i]?=some d→J.go i H∧∀ x H',J.yld i H x H'→Same (hidL A H) (hidL A H')∧(∀ a∈A,H' a=H a)∧Rp K emp d (hidL A H') x)∧∀ i,items.length≤i→J.stop i H
abbrev FI:=Rho→Option (List Dt)
def upIK(Y:Ky)(F:FI):TI:=fun σ H R=>∃ ρ items,RepS Y H ρ σ∧F ρ=some items∧∀ J H',Same H H'→items.length≤sizeLine→Walk Y.K J items H'→R J H'
abbrev upI(X:Cx)(F:FI):TI:=upIK X.ky F
def PFI(X:Cx)(tg e:Expr)(F:FI):Prop:=PI X tg e (upI X F)
theorem PI.imp{X:Cx}{tg e:Expr}{t t':TI}(h:PI X tg e t)(q:∀ σ H Q,t' σ H Q→t σ H Q):PI X tg e t':=fun pins s σ H Q I z=>h pins s σ H Q I (q σ H Q z)
section
variable {X:Cx}{tg a b e:Expr}{Fa Fb Fe:FE}{pos:Pos}
theorem GM{K:PySem.W.Frag}{p:Addr}{ds:List Dt}{vs:List V}{H1:Hp}(h1:SqL K H1 p vs)(h2:Rps K emp ds H1 vs):Walk K (Itl K p) ds H1:=by
 intro A H sm hA
 have s2:Same H1 H:=sm.trans j5
 refine⟨fun i d e=>?_,fun i hi=>⟨vs,s2.seq h1,by rw[h2.length];exact hi⟩⟩
 obtain⟨v,e1,e2⟩:=h2.get e
 refine⟨⟨vs,v,s2.seq h1,e1⟩,?_⟩
 rintro x H' ⟨z,y⟩
 subst z
 have hx:=y vs (s2.seq h1)
 rw[e1]at hx
 cases hx
 exact⟨Same.refl _,fun _ _=>rfl,Rp.mono _ sm e2⟩
theorem HM{K:PySem.W.Frag}{p:Addr}{ds:List Dt}{vs:List V}{H1:Hp}(h1:SqT K H1 p vs)(h2:Rps K emp ds H1 vs):Walk K (Itt K p) ds H1:=by
 intro A H sm hA
 have s2:Same H1 H:=sm.trans j5
 refine⟨fun i d e=>?_,fun i hi=>⟨vs,s2.seqT h1,by rw[h2.length];exact hi⟩⟩
 obtain⟨v,e1,e2⟩:=h2.get e
 refine⟨⟨vs,v,s2.seqT h1,e1⟩,?_⟩
 rintro x H' ⟨z,y⟩
 subst z
 have hx:=y vs (s2.seqT h1)
 rw[e1]at hx
 cases hx
 exact⟨Same.refl _,fun _ _=>rfl,Rp.mono _ sm e2⟩
def K3(lo:Int)(n:Nat):List Dt:=(List.range n).map fun(k:Nat) => .int (lo+(k:Int))
theorem Dw{K:PySem.W.Frag}{lo:Int}{n:Nat}{H1:Hp}:Walk K (Itr lo n) (K3 lo n) H1:=by
 intro A H sm hA
 refine⟨fun i d e=>?_,fun i hi=>by unfold K3 at hi;rw[List.length_map,List.length_range]at hi;exact hi⟩
 unfold K3 at e
 rw[List.getElem?_map]at e
 have hi:i<n:=by
  by_cases hi:i<n
  · exact hi
  · rw[List.getElem?_eq_none (by simp;omega)]at e;cases e
 rw[List.getElem?_range hi]at e
 cases e
 refine⟨hi,fun x H' hZ=>hZ.elim fun z y=>?_⟩
 subst z;subst y
 exact⟨Same.refl _,fun _ _=>rfl,Rp.int_.mpr rfl⟩
def seqD:Dt→Option (List Dt)
 | .lst ds=>some ds
 | .tup ds=>some ds
 | _=>none
def iSeq(F:FE):FI:=fun ρ=>(F ρ).bind fun x=>seqD x.2
theorem Cy(ha:PF X a Fa):PFI X tg a (iSeq Fa):=by
 intro pins s σ H R I ⟨ρ,items,rs,e0,k⟩
 obtain⟨⟨f,d⟩,e1,e2⟩:=g5 e0
 refine thn (ha pins s σ H (fun x H1=>Same H H1∧Rp X.K emp d H1 x) I ⟨ρ,f,d,rs,e1,fun v H1 s1 r1=>⟨s1,r1.sh⟩⟩) fun v s1 hZ=>hZ.elim fun x hZ=>hZ.elim fun H1 hZ=>hZ.elim fun I1 hZ=>hZ.elim fun r1 hZ=>hZ.elim fun sm rd=>?_
 cases d<;>first|cases e2|skip
 · rename_i ds
   obtain⟨p,vs,rfl,_,h1,h2⟩:=rd.items
   cases r1
   obtain⟨its,rv,pl,hz⟩:=I1.list (SqL.of (K:=X.K) h1)
   refine wpAny_pyIter_list pl.isList ?_
   refine⟨s1.heap.objs.size,[s1.heap.objs.size],_,_,H1,rfl,I1.kept (t':=s1.toks) fun b o e=>Heap.get?_push_of_some _ e,GC p _,⟨_,Heap.get?_push_size _ rfl,rfl,rfl⟩,fun b hb=>?_,k _ H1 sm (by rw[←h2.length];exact hz) (GM (SqL.of h1) h2)⟩
   have e:b=s1.heap.objs.size:=by simpa using hb
   subst e
   exact I1.fpOk (Nat.le_refl _) (I1.hok.fresh (Nat.le_refl _))
 · rename_i ds
   obtain⟨p,vs,rfl,h1,h2⟩:=Rp.tup_.mp rd
   cases r1
   obtain⟨its,rv,pl,hz⟩:=I1.tuple h1
   refine wpAny_pyIter_tuple (show s1.heap.IsTuple p its.toArray from pl) ?_
   refine⟨s1.heap.objs.size,[s1.heap.objs.size],_,_,H1,rfl,I1.kept (t':=s1.toks) fun b o e=>Heap.get?_push_of_some _ e,CY p _,⟨_,Heap.get?_push_size _ rfl,rfl,rfl⟩,fun b hb=>?_,k _ H1 sm (by rw[←h2.length];exact hz) (HM h1 h2)⟩
   have e:b=s1.heap.objs.size:=by simpa using hb
   subst e
   exact I1.fpOk (Nat.le_refl _) (I1.hok.fresh (Nat.le_refl _))
def V5(i:Int):Bool:=decide (-1000000≤i)&&decide (i≤1000000)
theorem rngOk_{i:Int}(h:V5 i=true): -1000000≤i∧i≤1000000:=by
 unfold V5 at h
 rw[Bool.and_eq_true]at h
 exact⟨of_decide_eq_true h.1,of_decide_eq_true h.2⟩
def M6(F:FE):FI:=fun ρ=>(F ρ).bind fun x=>(intD x.2).bind fun j=>if V5 j then some (K3 0 j.toNat) else none
theorem Dx{lo:Int}{n:Nat}:(K3 lo n).length=n:=by unfold K3;simp
theorem KL{d:Dt}{i:Int}(h:intD d=some i):d = .int i:=by
 cases d<;>first|cases h|skip
 rfl
theorem HN{p:Pos}(hg:Gl X "range")(hm:X.mg "range" = none)(ha:PF X a Fa)(hs:starEach [a] X.env=[(false,eval a X.env)]:=by rfl):PFI X tg (.Call (.Name "range" p) [a] [] pos) (M6 Fa) :=
 (AK hg hm (u3 ha B4 hs) hs).imp fun σ H R hZ=>hZ.elim fun ρ hZ=>hZ.elim fun items hZ=>hZ.elim fun rs hZ=>hZ.elim fun e0 k=>by
  obtain⟨⟨f,d⟩,e1,e2⟩:=g5 e0
  obtain⟨j,e3,e4⟩:=g5 e2
  clear e0 e2
  have ed:=KL e3
  cases (show d = .int j from ed)
  split at e4
  · rename_i hr
    cases e4
    obtain⟨h1,h2⟩:=rngOk_ hr
    refine⟨ρ,f,_,rs,e1,fun v H1 s1 r1=>⟨j,by rw[Rp.int_.mp r1.sh],by omega,by omega,k _ H1 s1 ?_ Dw⟩⟩
    rw[Dx]
    have:sizeLine=16777216:=rfl
    omega
  · cases e4
end
inductive Tg where
 | one (i:Nat)|many (is:List Nat)
def D7:List Nat→TGs
 | []=>gNil
 | i::is=>gCons (D8 i) (D7 is)
def Tg.low(K:PySem.W.Frag):Tg→TG
 | .one i=>D8 i
 | .many is=>gTup K is.length (D7 is)
def C6:Rho→List Nat→List Dt→Rho
 | ρ,i::is,d::ds=>C6 (ρ.set i (.sh false d)) is ds
 | ρ,_,_=>ρ
def Tg.put:Tg→Dt→Rho→Option Rho
 | .one i,d,ρ=>some (ρ.set i (.sh false d))
 | .many is,.tup ds,ρ=>if ds.length=is.length then some (C6 ρ is ds) else none
 | .many _,_,_=>none
def Tg.below(nt:Nat):Tg→Prop
 | .one i=>i<nt
 | .many is=>∀ i∈is,i<nt
def KeepS(nt:Nat)(σ σ':St):Prop:=σ'.length=σ.length∧∀ i,nt≤i→σ'[i]?=σ[i]?
theorem KeepS.refl{nt:Nat}{σ:St}:KeepS nt σ σ:=⟨rfl,fun _ _=>rfl⟩
theorem KeepS.set{nt i:Nat}{σ:St}{v:V}(h:i<nt):KeepS nt σ (σ.set i (some v)):=⟨List.length_set,fun j hj=>List.getElem?_set_ne (by omega)⟩
theorem KeepS.trans{nt:Nat}{a b c:St}(h:KeepS nt a b)(k:KeepS nt b c):KeepS nt a c:=⟨k.1.trans h.1,fun i hi=>(k.2 i hi).trans (h.2 i hi)⟩
theorem V6:∀{is:List Nat} {vs:List V} {σ:St} {H:Hp} {Q Q':St→Hp→Prop},D7 is vs σ H Q→(∀ σ H,Q σ H→Q' σ H)→D7 is vs σ H Q':=by
 intro is
 induction is with
 | nil=>intro vs σ H Q Q' ⟨e,q⟩ k;exact⟨e,k _ _ q⟩
 | cons j js ih=>intro vs σ H Q Q' ⟨v,r,e,q⟩ k;exact⟨v,r,e,ih q k⟩
theorem AX{nt:Nat}:∀{is:List Nat} {vs:List V} {σ:St} {H:Hp} {Q:St→Hp→Prop},(∀ i∈is,i<nt)→D7 is vs σ H Q→D7 is vs σ H fun σ2 H2=>KeepS nt σ σ2∧Q σ2 H2
 | [],vs,σ,H,Q,_,⟨e,q⟩=>⟨e,KeepS.refl,q⟩
 | i::is,vs,σ,H,Q,hi,⟨v,r,e,q⟩=>by
  refine⟨v,r,e,?_⟩
  have q:D7 is r (σ.set i (some v)) H Q:=q
  have z:=AX (nt:=nt) (fun j hj=>hi j (List.mem_cons_of_mem _ hj)) q
  show D7 is r (σ.set i (some v)) H _
  exact V6 z fun σ2 H2 hZ=>hZ.elim fun k1 k2=>⟨(KeepS.set (hi i List.mem_cons_self)).trans k1,k2⟩
theorem Tg.ok{K:PySem.W.Frag}{nt:Nat}{g:Tg}(h:g.below nt):TgOk nt (g.low K):=by
 intro x σ H Q q
 cases g with
 | one i=>exact⟨KeepS.set h,q⟩
 | many is =>
  obtain⟨a,xs,e,hq,hl,q⟩:=q
  exact⟨a,xs,e,hq,hl,AX h q⟩
theorem Tg.low_mono{K:PySem.W.Frag}{g:Tg}{v:V}{σ:St}{H:Hp}{Q Q':St→Hp→Prop}(h:g.low K v σ H Q)(k:∀ σ H,Q σ H→Q' σ H):g.low K v σ H Q':=by
 cases g with
 | one i=>exact k _ _ h
 | many is =>
  obtain⟨a,xs,e,hq,hl,q⟩:=h
  exact⟨a,xs,e,hq,hl,V6 q k⟩
section
variable {Y:Ky}{H H':Hp}{ρ:Rho}{σ:St}
theorem RepS.set(h:RepS Y H ρ σ){i:Nat}{f:Bool}{d:Dt}{v:V}(r:Rp Y.K (bsOf Y f) d H v):RepS Y H (ρ.set i (.sh f d)) (σ.set i (some v)):=by
 refine⟨by rw[List.length_set,List.length_set];exact h.len,h.base,fun j c q=>?_⟩
 by_cases e:i=j
 · subst e
   rw[List.getElem?_set]at q ⊢
   rw[if_pos rfl]at q ⊢
   split at q
   · rename_i hl
     cases q
     rw[if_pos (by rw[←h.len];exact hl)]
     exact⟨_,rfl,v,rfl,r⟩
   · cases q
 · rw[List.getElem?_set_ne e]at q ⊢
   exact h.at_ j c q
theorem Z6{Hh:Hp}{ρ':Rho}:∀{is:List Nat} {ds:List Dt} {vs:List V} {ρ:Rho} {σ:St},RepS Y Hh ρ σ→Rps Y.K emp ds Hh vs→ds.length=is.length→C6 ρ is ds=ρ' →
  D7 is vs σ H fun σ' H'=>H'=H∧RepS Y Hh ρ' σ'
 | [],[],vs,ρ,σ,rs,r,hl,q=>⟨Rps.nil_.mp r,rfl,by rw[←q];exact rs⟩
 | [],d::ds,vs,ρ,σ,rs,r,hl,q=>by cases hl
 | i::is,[],vs,ρ,σ,rs,r,hl,q=>by cases hl
 | i::is,d::ds,vs,ρ,σ,rs,r,hl,q=>by
  obtain⟨v,r',rfl,h1,h2⟩:=Rps.cons_.mp r
  exact⟨v,r',rfl,Z6 (rs.set (f:=false) h1) h2 (by simpa using hl) q⟩
theorem Tg.sim{Hh:Hp}{g:Tg}{d:Dt}{v:V}{ρ':Rho}(sm:Same Hh H)(rs:RepS Y Hh ρ σ)(r:Rp Y.K emp d Hh v)(h:g.put d ρ=some ρ'):
  g.low Y.K v σ H fun σ' H'=>H'=H∧RepS Y Hh ρ' σ':=by
 cases g with
 | one i=>cases h;exact⟨rfl,rs.set (f:=false) r⟩
 | many is =>
  cases d<;>first|cases h|skip
  rename_i ds
  replace h:(if ds.length=is.length then some (C6 ρ is ds) else none)=some ρ':=h
  split at h
  · rename_i hl
    obtain⟨a,vs,rfl,h1,h2⟩:=Rp.tup_.mp r
    exact⟨a,vs,rfl,sm.seqT h1,by rw[h2.length];exact hl,Z6 rs h2 hl (Option.some.inj h)⟩
  · cases h
end
section
variable {X:Cx}{pos:Pos}
theorem g_one{i:Nat}{x:Str}(hN:X.N.Nodup)(hi:X.N[i]?=some x)(hx:Loc X.env.scope x)(hf:X.fn x=true∨X.env.scope.names.lookup x=some .local):PG X (.Name x pos) ((Tg.one i).low X.K):=Fw hN hi hx hf
end
def R5(g:Tg)(Fc:FT)(Fe:FE)(ρ0:Rho):List Dt→Option (List Dv)
 | []=>some []
 | x::xs=>(g.put x ρ0).bind fun ρ1=>(Fc ρ1).bind fun b=>if b then(Fe ρ1).bind fun v=>(R5 g Fc Fe ρ0 xs).bind fun r=>some (v::r) else R5 g Fc Fe ρ0 xs
def Z7:Cell→Cell
 | .no => .no
 | .ex => .no
 | .sh _ d => .sh false d
 | .ow _ ds => .sh false (.lst ds)
def sigD(nt:Nat)(js:List Nat)(ρ:Rho):Rho:=List.replicate nt Cell.no++js.map fun j=>match ρ[j]? with|some c=>Z7 c|none => .no
def A6(nt:Nat)(js:List Nat)(Fi:FI)(g:Tg)(Fc:FT)(Fe:FE):FE:=fun ρ=>(Fi ρ).bind fun items=>(R5 g Fc Fe (sigD nt js ρ) items).bind fun vs=>some (if C5 vs then .nw else .tn,.lst (sndL vs))
theorem T9{g:Tg}{Fc:FT}{Fe:FE}{ρ0:Rho}:∀{xs:List Dt} {vs:List Dv},R5 g Fc Fe ρ0 xs=some vs→vs.length≤xs.length
 | [],vs,h=>by cases h;exact Nat.le_refl _
 | x::xs,vs,h=>by
  unfold R5 at h
  obtain⟨ρ1,_,h⟩:=g5 h
  obtain⟨b,_,h⟩:=g5 h
  split at h
  · obtain⟨v,_,h⟩:=g5 h
    obtain⟨r,h1,h⟩:=g5 h
    cases h
    have:=T9 h1
    rw[List.length_cons,List.length_cons];omega
  · have:=T9 h
    rw[List.length_cons];omega
def PFTs(X:Cx)(ifs:List Expr)(F:FT):Prop:=PTs X ifs (upB X F)
def fYes:FT:=fun _=>some true
theorem ts_nil{X:Cx}:PFTs X [] fYes:=fun pins s σ H Q I hZ=>hZ.elim fun ρ hZ=>hZ.elim fun b hZ=>hZ.elim fun rs hZ=>hZ.elim fun e k=>by cases e;exact KC pins s σ H Q I (k H (Same.refl H))
theorem RpC.shS{Y:Ky}{H H1:Hp}{c:Cell}{o:Option V}(h:RpC Y H c o):RpC ⟨Y.K,H1⟩ H (Z7 c) o:=by
 cases c with
 | no=>trivial
 | ex=>trivial
 | sh f d=>obtain⟨v,q,r⟩:=h;exact⟨v,q,Rp.anti Same.emp d r⟩
 | ow f ds=>obtain⟨v,q,r⟩:=h;exact⟨v,q,Rp.anti Same.emp _ r⟩
theorem RepS.sigs{Y:Ky}{H H1:Hp}{ρ:Rho}{σ:St}{nt:Nat}{js:List Nat}(h:RepS Y H ρ σ)(hj:∀ j∈js,j<σ.length)(h1:Same H1 H):RepS ⟨Y.K,H1⟩ H (sigD nt js ρ) (sig nt js σ):=by
 unfold sigD sig
 refine⟨by simp,h1,fun i c q=>?_⟩
 by_cases hi:i<nt
 · rw[List.getElem?_append_left (by simpa using hi),List.getElem?_replicate,if_pos hi]at q
   cases q
   exact⟨none,by rw[List.getElem?_append_left (by simpa using hi),List.getElem?_replicate,if_pos hi],trivial⟩
 · rw[List.getElem?_append_right (by simp;omega),List.length_replicate,List.getElem?_map]at q
   rw[List.getElem?_append_right (by simp;omega),List.length_replicate,List.getElem?_map]
   cases ej:js[i-nt]? with
   | none=>rw[ej]at q;cases q
   | some j =>
    rw[ej]at q
    have hlt:=hj j (List.mem_of_getElem? ej)
    have hlt':j<ρ.length:=by rw[h.len];exact hlt
    rw[Option.map_some,List.getElem?_eq_getElem hlt']at q
    cases q
    obtain⟨o,e1,e2⟩:=h.at_ j _ (List.getElem?_eq_getElem hlt')
    refine⟨o,?_,e2.shS⟩
    rw[Option.map_some,e1];rfl
def frE(t:Hp→TE)(H1:Hp):TE:=fun σ H Q=>∃ A:List Addr,(∀ a∈A,(∃ vs,H a=some (.lst vs))∧H1 a=none)∧t H1 σ (hidL A H) fun v H'=>(∀ a∈A,H' a=none)→Q v (t8 A H H')
def frT(t:Hp→TT)(H1:Hp):TT:=fun σ H Q=>∃ A:List Addr,(∀ a∈A,(∃ vs,H a=some (.lst vs))∧H1 a=none)∧t H1 σ (hidL A H) fun v H'=>(∀ a∈A,H' a=none)→Q v (t8 A H H')
theorem PTs.frame{Y:Cx}{ifs:List Expr}{t:Hp→TT}(h:PTs Y ifs (t Y.H₀)):PTs Y ifs (frT t Y.H₀):=by
 intro pins s σ H Q I ⟨A,hA,z⟩
 refine thn (h _ s σ _ _ (I.hide hA) z) ?_
 rintro u s' ⟨H',J,q⟩
 obtain⟨hn,J'⟩:=I.unhide hA J
 exact⟨_,J',q hn⟩
theorem BO{D:Addr}{H:Hp}{o:HO}:hidL [D] (upd H D o)=hidL [D] H:=funext fun b=>by
 by_cases q:b=D
 · subst q;rw[D0 (by simp),D0 (by simp)]
 · rw[i7 (by simpa using q),i7 (by simpa using q),i0 q]
theorem HP{D:Addr}{H:Hp}(h:H D=none):hidL [D] H=H:=funext fun b=>by
 by_cases q:b=D
 · subst q;rw[D0 (by simp),h]
 · rw[i7 (by simpa using q)]
section
variable {X:Cx}{N:List Str}{scope:Scope}{nt:Nat}{js:List Nat}{tg elt iter:Expr}{ifs:List Expr}{Fi:FI}{g:Tg}{Fc:FT}{Fe:FE}{pos:Pos}
theorem RpFs.append{Y:Ky}{H H':Hp}:∀{xs ys:List Dv} {vs ws:List V},RpFs Y H xs H' vs→RpFs Y H ys H' ws→RpFs Y H (xs++ys) H' (vs++ws)
 | [],ys,vs,ws,h,h'=>by rw[show vs=[]from h];exact h'
 | x::xs,ys,vs,ws,⟨v,r,e,h1,h2⟩,h'=>⟨v,r++ws,by rw[e];rfl,h1,RpFs.append h2 h'⟩
def RpE(Y:Ky)(x:Dv)(H':Hp)(v:V):Prop:=if x.1.isFr then Rp Y.K Y.H₀ x.2 H' v else Rp Y.K emp x.2 H' v
def RpEs(Y:Ky):List Dv→Hp→List V→Prop
 | [],_,vs=>vs=[]
 | x::xs,H',vs=>∃ v r,vs=v::r∧RpE Y x H' v∧RpEs Y xs H' r
theorem RpE.of{Y:Ky}{H H':Hp}{x:Dv}{v:V}(h0:Same Y.H₀ H)(h:RpF Y H x.1 x.2 H' v):RpE Y x H' v:=by
 unfold RpE
 by_cases q:x.1.isFr=true
 · rw[if_pos q];exact h.fr h0 q
 · rw[if_neg q];exact h.sh
theorem RpE.mono{Y:Ky}{H H':Hp}{x:Dv}{v:V}(h:RpE Y x H v)(s:Same H H'):RpE Y x H' v:=by
 unfold RpE at h ⊢
 by_cases q:x.1.isFr=true
 · rw[if_pos q]at h ⊢;exact Rp.mono _ s h
 · rw[if_neg q]at h ⊢;exact Rp.mono _ s h
theorem RpEs.mono{Y:Ky}{H H':Hp}(s:Same H H'):∀{xs:List Dv} {vs:List V},RpEs Y xs H vs→RpEs Y xs H' vs
 | [],vs,h=>h
 | x::xs,vs,⟨v,r,e,h1,h2⟩=>⟨v,r,e,h1.mono s,RpEs.mono s h2⟩
theorem RpEs.append{Y:Ky}{H':Hp}:∀{xs ys:List Dv} {vs ws:List V},RpEs Y xs H' vs→RpEs Y ys H' ws→RpEs Y (xs++ys) H' (vs++ws)
 | [],ys,vs,ws,h,h'=>by rw[show vs=[]from h];exact h'
 | x::xs,ys,vs,ws,⟨v,r,e,h1,h2⟩,h'=>⟨v,r++ws,by rw[e];rfl,h1,RpEs.append h2 h'⟩
theorem RpEs.length{Y:Ky}{H':Hp}:∀{xs:List Dv} {vs:List V},RpEs Y xs H' vs→vs.length=xs.length
 | [],vs,h=>by rw[show vs=[]from h];rfl
 | x::xs,vs,⟨v,r,e,_,h2⟩=>by rw[e,List.length_cons,List.length_cons,RpEs.length h2]
theorem RpEs.sh{Y:Ky}{H':Hp}:∀{xs:List Dv} {vs:List V},RpEs Y xs H' vs→Rps Y.K emp (sndL xs) H' vs
 | [],vs,h=>Rps.nil_.mpr h
 | x::xs,vs,⟨v,r,e,h1,h2⟩=>by
  refine Rps.cons_.mpr ⟨v,r,e,?_,RpEs.sh h2⟩
  unfold RpE at h1
  split at h1
  · exact Rp.anti Same.emp _ h1
  · exact h1
theorem RpEs.fr{Y:Ky}{H':Hp}:∀{xs:List Dv} {vs:List V},C5 xs=true→RpEs Y xs H' vs→Rps Y.K Y.H₀ (sndL xs) H' vs
 | [],vs,_,h=>Rps.nil_.mpr h
 | x::xs,vs,q,⟨v,r,e,h1,h2⟩=>by
  unfold C5 at q
  rw[Bool.and_eq_true]at q
  refine Rps.cons_.mpr ⟨v,r,e,?_,RpEs.fr q.2 h2⟩
  unfold RpE at h1
  rw[if_pos q.1]at h1
  exact h1
theorem KM{σ:St}{H:Hp}{Q:VK}(hj:∀ j∈js,j<σ.length)(h:upF X (A6 nt js Fi g Fc Fe) σ H Q):
   HA nt js (upI X Fi) (g.low X.K) (frT fun H1=>upBK ⟨X.K,H1⟩ Fc) (frE fun H1=>upK ⟨X.K,H1⟩ Fe) σ H Q:=by
 obtain⟨ρ,f,d,rs,e0,k⟩:=h
 obtain⟨items,ei,e1⟩:=g5 e0
 obtain⟨vs0,ec,e2⟩:=g5 e1
 cases e2
 clear e0 e1
 refine⟨ρ,items,rs,ei,fun J H1 sm hsz wk D hD=>?_⟩
 have nD:H D=none:=sm.free hD
 refine⟨fun i m ys H2=>m=items.length-i∧H2 D=some (.lst ys)∧Same H1 (hidL [D] H2)∧∃ ds rest,RpEs ⟨X.K,H1⟩ ds (hidL [D] H2) ys∧R5 g Fc Fe (sigD nt js ρ) (items.drop i)=some rest∧ds++rest=vs0,⟨_,rfl,j0,?_,[],vs0,rfl,ec,rfl⟩,?_⟩
 · rw[BO,HP hD];exact Same.refl _
 rintro i m ys H2 ⟨rfl,e2,s2,ds,rest,r2,c2,es⟩
 obtain⟨w1,w2⟩:=wk [D] H2 s2 (fun a ha=>by rw[List.mem_singleton.mp ha];exact⟨_,e2⟩)
 by_cases hlt:i<items.length
 · obtain⟨x,hx⟩:∃ x,items[i]?=some x:=⟨_,List.getElem?_eq_getElem hlt⟩
   have hdrop:items.drop i=x::items.drop (i+1):=by
     rw[List.drop_eq_getElem_cons hlt]
     rw[List.getElem?_eq_getElem hlt]at hx
     cases hx;rfl
   rw[hdrop]at c2
   unfold R5 at c2
   obtain⟨ρ1,p1,c3⟩:=g5 c2
   obtain⟨b,p2,c4⟩:=g5 c3
   obtain⟨go,yl⟩:=w1 i x hx
   refine .inr ⟨go,fun xv H3 y3=>?_⟩
   obtain⟨s3,k3,r3⟩:=yl xv H3 y3
   have e3:H3 D=some (.lst ys):=by rw[k3 D (by simp)];exact e2
   have s13:Same H1 (hidL [D] H3):=s2.trans s3
   refine Tg.low_mono (Tg.sim (Y:=⟨X.K,H1⟩) (Hh:=hidL [D] H3) j5 ((rs.mono (sm.trans s13)).sigs hj s13) r3 p1) ?_
   rintro σ4 H4 ⟨eH,rs4⟩
   subst eH
   have own:∀{H':Hp},H' D=some (.lst ys)→∀ a∈[D],(∃ vs,H' a=some (.lst vs))∧H1 a=none:=fun{H'} z a ha=>by
     rw[List.mem_singleton.mp ha]
     exact⟨⟨ys,z⟩,hD⟩
   refine⟨[D],own e3,ρ1,b,rs4,p2,fun H5 s5 n5=>?_⟩
   have h5:hidL [D] (t8 [D] H4 H5)=H5:=Q9 n5
   have e5:t8 [D] H4 H5 D=some (.lst ys):=by rw[X0 (by simp)];exact e3
   have m5:items.length-(i+1)<items.length-i:=by omega
   dsimp only
   cases b with
   | true =>
     rw[if_pos rfl]at c4 ⊢
     obtain⟨⟨fv,dv⟩,p3,c5⟩:=g5 c4
     obtain⟨rest',p4,c6⟩:=g5 c5
     cases c6
     have rs5:RepS ⟨X.K,H1⟩ H5 ρ1 σ4:=rs4.mono s5
     refine⟨[D],own e5,ρ1,fv,dv,by rw[h5];exact rs5,p3,fun v H6 s6 r6 n6=>?_⟩
     rw[h5]at s6 r6
     have h6:hidL [D] (t8 [D] (t8 [D] H4 H5) H6)=H6:=Q9 n6
     have r2':RpEs ⟨X.K,H1⟩ ds H6 ys:=r2.mono (s3.trans (s5.trans s6))
     have hlen:ys.length<sizeLine:=by
       have a1:=T9 ec
       have a2:=r2.length
       rw[←es,List.length_append,List.length_cons]at a1
       omega
     refine⟨by rw[X0 (by simp)];exact e5,hlen,_,m5,rfl,j0,?_,ds++[(fv,dv)],rest',?_,p4,by rw[List.append_assoc];exact es⟩
     · rw[BO,h6];exact s13.trans (s5.trans s6)
     · rw[BO,h6];exact r2'.append ⟨v,[],rfl,RpE.of rs5.base r6,rfl⟩
   | false =>
     rw[if_neg Bool.false_ne_true]at c4 ⊢
     refine⟨_,m5,rfl,e5,?_,ds,rest,?_,c4,es⟩
     · rw[h5];exact s13.trans s5
     · rw[h5];exact r2.mono (s3.trans s5)
 · have hd:items.drop i=[]:=List.drop_of_length_le (by omega)
   rw[hd]at c2
   cases c2
   rw[List.append_nil]at es
   subst es
   refine .inl ⟨w2 i (by omega),k _ H2 (sm.trans (s2.trans j5)) ?_⟩
   by_cases q:C5 ds=true
   · rw[if_pos q]
     exact(Rp.lst_ (K:=X.K) (B:=H)).mpr ⟨D,ys,rfl,nD,e2,Rps.anti (show Same H H1 from sm) _ (r2.fr q)⟩
   · rw[if_neg q]
     exact⟨Rp.lst_.mpr ⟨D,ys,rfl,rfl,e2,r2.sh⟩,⟨_,rfl⟩,fun a e=>by cases e;exact nD⟩
theorem p_comp(S:CompScope X N scope nt js)(hc:X.calm=true)(hi:PFI X tg iter Fi)(hg:∀ cl C fp s H,PG (r8 X N scope cl C fp s H) tg (g.low X.K))(hb:g.below nt)
  (hcs:∀ cl C fp s H,PFTs (r8 X N scope cl C fp s H) ifs Fc) (he:∀ cl C fp s H,PF (r8 X N scope cl C fp s H) elt Fe) (hj:∀ j∈js,j<X.N.length)
  (hs:∀ x,foldedSetIterable iter X.env x=pure x:=by intro _;rfl):PF X (.ListComp elt [⟨tg,iter,ifs,0⟩] scope pos) (A6 nt js Fi g Fc Fe):=by
 intro pins s σ H Q I h
 exact KD S hc hi hg (Tg.ok hb) (fun cl C fp s H=>PTs.frame (t:=fun H1=>upBK ⟨X.K,H1⟩ Fc) (hcs cl C fp s H)) (fun cl C fp s H=>PE.frame (he cl C fp s H)) hs pins s σ H Q I (KM (fun j z=>by rw[I.len];exact hj j z) h)
end
end L2

end
section
set_option Elab.async false
set_option linter.all false
set_option maxRecDepth 100000
namespace L2
open PySem PySem.Spec PySem.W PyProof.Rows
def C2(h:Heap)(e:Addr)(c:Value):Prop:=∃ oe vs,h.get? e=some oe∧oe.data = .fields vs∧vs[2]?=some c
section
variable {M:Model}{A:Around}{E:Value→Shared→Prop}{s:Shared}{base:Heap}{env:Env}{outer l:List Env}{L e:Addr}{cls a0:Value}{Q:Unit→Shared→Prop}
theorem FZ{oe:Obj}{vs:Array Value}{head:Value}{hn:Bool}(hfr:A.frames=some (env::outer))(hl:s.heap.FunFrames base (env::outer))(hf:env.frame=some L)(g0:s.heap.get? e=some oe)(sb:base.StaysIn s.heap)(en:base.get? e=none)(gd:oe.data = .fields vs)(gs:1<vs.size)(ga:vs[0]?=some a0)
   (k:∀ h',Heap.NotedW base (env::outer) e oe.cls a0 (rawInt L) s.heap h'→(∀ c,vs[2]?=some c→C2 h' e c)→Q () { s with heap:=h' }) :
   wpAny M A (do let a ←frameOf env;let pl ←entryPlaceOf L hn;let b ←EntryCells.newEntry head a .none (rawInt L) .none pl;setField (.ref e) 1 b) Q E s:=by
 have nf:e ∉ (env::outer).filterMap (·.frame):=fun m=>by
   obtain⟨_,o,go,no⟩:=hl.mem m
   rw[g0]at go
   cases go
   exact no vs gd
 refine wpAny_bind (wpAny_frameOf_fun hfr hl hf fun hA so=>wpAny_bind (wpAny_entryPlaceOf fun pp ip=>?_))
 unfold EntryCells.newEntry newFields
 refine wpAny_bind (wpAny_newObj_type ?_ (ip.sizeOk5 _ _ _ _ _))
 generalize eo:({ cls := .type "traceback",dict:=none,data := .fields ([head,.ref L,.none,rawInt L,.none]++(if pp.isEmpty then List.replicate 6 Value.none else pp)).toArray }:Obj)=ot
 have g1:hA.get? e=some oe:=(so.2.1 e nf).trans g0
 have s1:base.StaysIn hA:=fun b o go=>(so.2.1 b fun m=>by rw[(hl.mem m).1]at go;cases go).trans (sb b o go)
 have g2:(hA.push ot).get? e=some oe:=Heap.get?_push_of_some _ g1
 refine wpAny_setField g2 gd gs (k _ ?_ ?_)
 all_goals
   have ne:hA.objs.size≠e:=Nat.ne_of_gt (Heap.lt_size g1)
   have d3:=Obj.data_mapFields gd (·.setIfInBounds 1 (Value.ref hA.objs.size))
   have g3:=Heap.get?_update_self (Obj.mapFields (·.setIfInBounds 1 (Value.ref hA.objs.size))) g2 (Obj.isFreed_of_fields d3)
 · have t3:((hA.push ot).update e (Obj.mapFields (·.setIfInBounds 1 (Value.ref hA.objs.size)))).get? hA.objs.size=some ot:=(Heap.get?_update_other _ _ (Ne.symm ne)).trans (Heap.get?_push_size hA (by rw[←eo];rfl))
   have kp:∀ b o,b≠e→hA.get? b=some o→((hA.push ot).update e (Obj.mapFields (·.setIfInBounds 1 (Value.ref hA.objs.size)))).get? b=some o:=fun b o n go=>by
     rw[Heap.get?_update_other _ _ (Ne.symm n)]
     exact Heap.get?_push_of_some _ go
   have nr:∀ b o,s.heap.get? b=some o→(∀ ws,o.data ≠ .fields ws)→b≠e:=fun b o go no q=>by
     rw[q,g0]at go
     cases go
     exact no vs gd
   refine⟨fun b o go=>kp b o (fun q=>by rw[q,en]at go;cases go) (s1 b o go),hl.of_keeps fun b o go no=>?_,⟨_,_,hA.objs.size,ot,_,g3,⟨Obj.cls_mapFields _ _,by rw[Array.getElem?_setIfInBounds_ne (by decide)];exact ga⟩,d3,by simp[gs],s1.fresh,ne,t3,by rw[←eo],by first|(simp;done)|(rcases ip with rfl|⟨_,_,_,_,_,_,_,rfl⟩<;>simp)⟩,fun b o go no=>?_⟩
   · obtain⟨sl,hs⟩:=so.2.2 b o go
     exact⟨_,kp b _ (nr b o go no) hs,rfl⟩
   · obtain⟨sl,hs⟩:=so.2.2 b o go
     exact⟨sl,kp b _ (nr b o go no) hs⟩
 · exact fun c hc=>⟨_,_,g3,d3,by rw[Array.getElem?_setIfInBounds_ne (by decide)];exact hc⟩
theorem Ga(hfr:A.frames=some (env::outer))(hf:env.frame=some L)(fl:Heap.FlyingW base (env::outer) e cls a0 s.heap)
  (k:∀ h',Heap.HeldW base (env::outer) e cls a0 L h'→s.heap.UpToSlots h'→(∀ c,C2 s.heap e c→C2 h' e c)→Q () { s with heap:=h' }):wpAny M A (noteFrame (.ref e) env) Q E s:=by
 obtain⟨sb,en,hl,oe,vs,T,oT,ts,g0,⟨gc,ga⟩,gd,g1,nT,Te,gT,gt,g3⟩:=fl
 subst gc
 unfold noteFrame
 simp only[hf]
 refine wpAny_bind (wpAny_field g0 gd g1 ?_)
 rw[if_pos (show(Value.ref T != Value.none)=true from by simp)]
 refine wpAny_bind (wpAny_field gT gt g3 ?_)
 rw[if_neg (show ¬((Value.none==rawInt L)=true)from by simp[rawInt])]
 refine wpAny_bind (wpAny_setField gT gt (Array.getElem?_eq_some_iff.mp g3).1 ?_)
 have ot:∀ b,b≠T→(s.heap.update T (Obj.mapFields (·.setIfInBounds 3 Value.none))).get? b=s.heap.get? b:=fun b hb=>Heap.get?_update_other _ _ (Ne.symm hb)
 have nr:∀ b o,s.heap.get? b=some o→(∀ ws,o.data ≠ .fields ws)→b≠T:=fun b o go no q=>by
  rw[q,gT]at go
  cases go
  exact no ts gt
 refine FZ (s:={ s with heap:=s.heap.update T (Obj.mapFields (·.setIfInBounds 3 Value.none)) }) hfr (hl.of_keeps fun b o go no=>⟨o,(ot b (nr b o go no)).trans go,rfl⟩) hf ((ot e (Ne.symm Te)).trans g0)
  (fun b o go=>(ot b fun q=>by rw[q,nT]at go;cases go).trans (sb b o go)) en gd (Array.getElem?_eq_some_iff.mp g1).1 ga fun h' ⟨x1,x2,x3,x4⟩ x5=>k h' ⟨x1,en,x2,x3⟩ (fun b o go no=>x4 b o ((ot b (nr b o go no)).trans go) no) fun c ⟨oe',vs',y1,y2,y3⟩=>?_
 rw[g0]at y1
 cases y1
 rw[gd]at y2
 cases y2
 exact x5 c y3
theorem R6{fl:Value}(sb:base.StaysIn s.heap)(hl:s.heap.FunFrames base l)(en:base.get? e=none)(ht:s.heap.TracedAtW base e cls a0 fl)
  (k:∀ h',Heap.FlyingW base l e cls a0 h'→s.heap.UpToSlots h'→(∀ c,C2 s.heap e c→C2 h' e c)→Q () { s with heap:=h' }):wpAny M A (setFlight (.ref e) none) Q E s:=by
 obtain⟨oe,vs,T,oT,ts,g0,gc,gd,g1,nT,Te,gT,gt,g3⟩:=ht
 have sz:3<ts.size:=(Array.getElem?_eq_some_iff.mp g3).1
 have ot:∀ b,b≠T→(s.heap.update T (Obj.mapFields (·.setIfInBounds 3 ((none:Option Addr).elim Value.none fun z=>rawInt z)))).get? b=s.heap.get? b:=fun b hb=>Heap.get?_update_other _ _ (Ne.symm hb)
 have nr:∀ b o,s.heap.get? b=some o→(∀ ws,o.data ≠ .fields ws)→b≠T:=fun b o go no q=>by
  rw[q,gT]at go
  cases go
  exact no ts gt
 unfold setFlight
 refine wpAny_bind (wpAny_field g0 gd g1 ?_)
 rw[if_pos (show(Value.ref T != Value.none)=true from by simp)]
 have e0:=(ot e (Ne.symm Te)).trans g0
 refine wpAny_setField gT gt sz (k _ ⟨fun b o go=>(ot b fun q=>by rw[q,nT]at go;cases go).trans (sb b o go),en,hl.of_keeps fun b o go no=>⟨o,(ot b (nr b o go no)).trans go,rfl⟩,oe,vs,T,_,_,e0,gc,gd,g1,nT,Te,Heap.get?_update_self _ gT (Obj.isFreed_of_fields (Obj.data_mapFields gt _)),Obj.data_mapFields gt _,by simp[sz]⟩
  (fun b o go no=>⟨o.slots,(ot b (nr b o go no)).trans go⟩) fun c ⟨oe',vs',y1,y2,y3⟩=>⟨oe',vs',(ot e (Ne.symm Te)).trans y1,y2,y3⟩)
theorem HQ(hfr:A.frames=some (env::outer))(hf:env.frame=some L)(fl:Heap.FlyingW base (env::outer) e cls a0 s.heap)
  (k:∀ h',Heap.FlyingW base outer e cls a0 h'→s.heap.UpToSlots h'→(∀ c,C2 s.heap e c→C2 h' e c)→Q () { s with heap:=h' }):wpAny M A (leaving env (.ref e)) Q E s:=by
 unfold leaving
 refine wpAny_bind (Ga hfr hf fl fun h1 ⟨x1,x2,x3,x4⟩ us cc=>R6 (s:={ s with heap:=h1 }) x1 x3 x2 x4 fun h2 ⟨y1,y2,⟨_,_,y3⟩,y4⟩ us2 cc2=>k h2 ⟨y1,y2,y3,y4⟩ (us.trans us2) fun c z=>cc2 c (cc c z))
theorem made_c{h:Heap}{args:List Value}(hfr:A.frames=some (env::outer))(hf:env.frame=some L)(sb:base.StaysIn h)(hl:h.FunFrames base (env::outer))(hx:Heap.MadeExcOf h s.heap e cls args)
  (k:∀ h' t,Heap.FlyingW base outer e cls (.ref t) h'→s.heap.UpToSlots h'→C2 h' e .none→Q () { s with heap:=h' }):wpAny M A (leaving env (.ref e)) Q E s:=by
 obtain⟨t,g0,tn,gt⟩:=hx.there
 have fr:∀ b,h.get? b=none→base.get? b=none:=fun b hb=>by
  cases q:base.get? b with
  | none=>rfl
  | some o=>have:=sb b o q;rw[hb]at this;cases this
 unfold leaving noteFrame
 simp only[hf]
 refine wpAny_bind (wpAny_bind (wpAny_field g0 rfl (x := .none) rfl ?_))
 rw[if_neg (show ¬((Value.none != Value.none)=true)from by decide)]
 exact FZ (a0 := .ref t) hfr (hl.of_keeps fun b o hb _=>⟨o,hx.keeps b o hb,rfl⟩) hf g0 (fun b o hb=>hx.keeps b o (sb b o hb)) (fr e hx.new) rfl (show 1<6 by decide) rfl fun h1 ⟨x1,x2,x3,x4⟩ x5 =>
  R6 (s:={ s with heap:=h1 }) x1 x2 (fr e hx.new) x3 fun h2 ⟨y1,y2,⟨_,_,y3⟩,y4⟩ us2 cc2=>k h2 t ⟨y1,y2,y3,y4⟩ (Heap.UpToSlots.trans x4 us2) (cc2 _ (x5 _ rfl))
end
end L2

end
section
set_option Elab.async false
set_option linter.all false
set_option maxRecDepth 100000
namespace L2
open PySem PySem.Spec PySem.W PyProof.Rows
def Fly(h0:Heap)(H:Hp)(e C:Addr)(c:Value)(h:Heap):Prop :=
 h0.get? e=none∧H e=none∧∃ oe vs T oT ts a0,h.get? e=some oe∧oe.cls = .ref C∧vs[0]?=some a0∧oe.data = .fields vs∧vs[1]?=some (.ref T)∧h0.get? T=none∧H T=none∧T≠e∧h.get? T=some oT∧oT.data = .fields ts∧ts[3]?=some .none∧vs[2]?=some c
def ctxO:Value→Option Addr
 | .none=>none
 | _=>some 0
theorem BP{l:List Env}{env:Env}{a:Addr}(h:env∈l)(e:env.frame=some a):a∈frs l:=List.mem_filterMap.mpr ⟨env,h,e⟩
theorem UpToSlots.trans{h h1 h2:Heap}(a:h.UpToSlots h1)(b:h1.UpToSlots h2):h.UpToSlots h2:=fun c o e n=>by
 obtain⟨sl,e1⟩:=a c o e n
 obtain⟨sl2,e2⟩:=b c _ e1 n
 exact⟨sl2,e2⟩
section
variable {P:Program}{w:World}{fs ex:List Addr}{H0 H:Hp}{h0 h h':Heap}{l:List Env}{bas:Heap}{e C:Addr}{c:Value}
theorem HR(u:Un fs ex H0 H h0 h)(k:∀ b o o',h0.get? b=some o→h.get? b=some o'→b ∉ frs l→h'.get? b=some o')(sl:∀ b∈frs l,∀ o,h.get? b=some o→∃ z,h'.get? b=some { o with slots:=z })
  (hf:∀ b∈frs l,b∈fs∨h0.get? b=none):Un fs ex H0 H h0 h' where
 keep:=fun b o q n hb hx=>k b o o q (u.keep b o q n hb hx) fun z=>(hf b z).elim hb fun e=>by rw[e]at q;cases q
 slot:=fun b o q n hb hx=>by
  obtain⟨z,e⟩:=u.slot b o q n hb hx
  by_cases m:b∈frs l
  · obtain⟨z',e'⟩:=sl b m _ e
    exact⟨z',e'⟩
  · exact⟨z,k b o _ q e m⟩
 free:=u.free
 there:=fun b o q hx=>by
  obtain⟨o',e⟩:=u.there b o q hx
  by_cases m:b∈frs l
  · obtain⟨z',e'⟩:=sl b m _ e
    exact⟨_,e'⟩
  · exact⟨_,k b o _ q e m⟩
 tups:=u.tups
 frzs:=u.frzs
 tbls:=u.tbls
theorem ObjOk.obj{a:Addr}{o:HO}(x:ObjOk P w H h a o):∃ ob,h.get? a=some ob:=by
 cases o with
 | lst xs=>obtain⟨_,_,_,_,e⟩:=x;exact⟨_,e⟩
 | tup xs=>obtain⟨_,_,_,_,e,_⟩:=x;exact⟨_,e⟩
 | dK kvs=>obtain⟨_,_,_,_,o,_,_,e,_⟩:=x;exact⟨_,e⟩
 | dT kvs=>obtain⟨_,_,_,_,o,_,_,e,_⟩:=x;exact⟨_,e⟩
 | set S n=>obtain⟨o,_,_,_,e,_⟩:=x;exact⟨_,e⟩
 | ins C dx fs=>obtain⟨_,_,_,e,_⟩:=x;exact⟨_,e⟩
 | own y=>obtain⟨_,e⟩:=x;exact⟨_,e⟩
 | xd fs=>obtain⟨_,⟨_,_,_,e,_⟩,_⟩:=x;exact⟨_,e⟩
 | rng lo hi=>obtain⟨_,_,_,e⟩:=x;exact⟨_,e⟩
 | frz ob u=>obtain⟨e,_⟩:=x;exact⟨_,e⟩
 | tbl ps=>exact⟨_,show h.get? a=some _ from x⟩
 | met f y=>exact⟨_,show h.get? a=some _ from x⟩
 | ext φ=>obtain⟨_,⟨_,e⟩,_⟩:=x;exact⟨_,e⟩
theorem Gc(hok:HOk P w H h)(k:∀ b o,H b≠none→h.get? b=some o→h'.get? b=some o):HOk P w H h':=fun b ob e =>
 (hok b ob e).stay (fun c v hc q=>k c v (by
  rcases hc with rfl|hc
  · rw[e];exact fun z=>nomatch z
  · rw[hc];exact fun z=>nomatch z) q) (fun _ q=>q) fun _ _ q=>q
theorem Fly.c2(f:Fly h0 H e C c h):C2 h e c:=by
 obtain⟨n,n2,oe,vs,T,oT,ts,a0,q1,q2,q3,q4,q5,q6,q7,q8,q9,q10,q11,q12⟩:=f
 exact⟨oe,vs,q1,q4,q12⟩
theorem Fly.base(f:Fly h0 H e C c h)(ff:h.FunFrames bas l):∃ T a0,h0.get? T=none∧H T=none∧(hideAll h (e::T::frs l)).FlyingW l e (.ref C) a0 h:=by
 obtain⟨n,n2,oe,vs,T,oT,ts,a0,q1,q2,q3,q4,q5,q6,q7,q8,q9,q10,q11,_⟩:=f
 refine⟨T,a0,q6,q7,fun b o z=>of_hideAll _ z,hideAll_none _ (by simp),funFrames_hide ff fun env he a ea=>by simp[BP he ea],oe,vs,T,oT,ts,q1,⟨q2,q3⟩,q4,q5,hideAll_none _ (by simp),q8,q9,q10,q11⟩
theorem Fly.step{T:Addr}{l':List Env}{a0:Value}(n:h0.get? e=none)(n2:H e=none)(n3:h0.get? T=none)(n4:H T=none)(ff:h.FunFrames bas l)(st:∀ b∈frs l,H b=none)(hok:HOk P w H h)(u:Un fs ex H0 H h0 h)
   (f:(hideAll h (e::T::frs l)).FlyingW l' e (.ref C) a0 h') (us:h.UpToSlots h') (hf:∀ b∈frs l,b∈fs∨h0.get? b=none) (hx:∀ b o,h0.get? b=some o→b ∉ ex) (cc:C2 h' e c):Fly h0 H e C c h'∧HOk P w H h'∧Un fs ex H0 H h0 h':=by
 have sl:∀ b∈frs l,∀ o,h.get? b=some o→∃ z,h'.get? b=some { o with slots:=z }:=fun b hb o q=>by
   obtain⟨_,o',q',nf⟩:=ff.mem hb
   rw[q]at q';cases q'
   exact us b o q nf
 have k:∀ b o,h.get? b=some o→b ∉ (e::T::frs l)→h'.get? b=some o:=fun b o q m=>f.1 b o (hideAll_get _ q m)
 obtain⟨s1,s2,s3,oe,vs,T',oT,ts,q1,⟨q2,q3⟩,q4,q5,q6,q7,q8,q9,q10⟩:=f
 have hT:T'=T∨h.get? T'=none:=by
   by_cases m:T'∈(e::T::frs l)
   · rcases List.mem_cons.mp m with z|m
     · exact absurd z q7
     · rcases List.mem_cons.mp m with z|m
       · exact .inl z
       · obtain⟨_,o,e1,nf⟩:=ff.mem m
         obtain⟨z,e2⟩:=sl T' m o e1
         rw[q8]at e2
         cases e2
         exact absurd q9 (nf ts)
   · refine .inr ?_
     cases z:h.get? T' with
     | none=>rfl
     | some o=>rw[hideAll_get _ z m]at q6;cases q6
 have q12:vs[2]?=some c:=by
   obtain⟨oe',vs',y1,y2,y3⟩:=cc
   rw[q1]at y1;cases y1
   rw[q4]at y2;cases y2
   exact y3
 refine⟨⟨n,n2,oe,vs,T',oT,ts,a0,q1,q2,q3,q4,q5,?_,?_,q7,q8,q9,q10,q12⟩,Gc hok fun b o hb q=>k b o q fun m=>?_,HR u (fun b o o' q q' m=>k b o' q' fun z=>?_) sl hf⟩
 · rcases hT with z|z
   · rw[z];exact n3
   · cases y:h0.get? T' with
     | none=>rfl
     | some o=>obtain⟨o',e'⟩:=u.there T' o y (hx T' o y);rw[z]at e';cases e'
 · rcases hT with z|z
   · rw[z];exact n4
   · cases y:H T' with
     | none=>rfl
     | some o =>
       obtain⟨ob,q⟩:=(hok T' o y).obj
       rw[z]at q;cases q
 · rcases List.mem_cons.mp m with z|m
   · exact hb (z ▸ n2)
   · rcases List.mem_cons.mp m with z|m
     · exact hb (z ▸ n4)
     · exact hb (st b m)
 · rcases List.mem_cons.mp z with z|z
   · rw[z,n]at q;cases q
   · rcases List.mem_cons.mp z with z|z
     · rw[z,n3]at q;cases q
     · exact m z
end
def CX1(P:Program)(w:World):CXT:=fun outer H s E e s' =>
 ∃ ea C H' c,e = .ref ea∧s'.os=s.os∧AllBare s'.gens∧Un (frs outer) [] H H' s.heap s'.heap∧HOk P w H' s'.heap∧Fly s.heap H' ea C c s'.heap∧E (.ref C) (ctxO c) H'
section
variable {P:Program}{w:World}{K:PySem.W.Frag}{mg:Str→Option Value}{base:Heap}{N:List Str}{qual:Str}{scope:Scope}{f:Addr}{cd:Value}{A:Around}{outer:List Env}{s₀:Shared}{H₀:Hp}{E:XK}
abbrev cx1(P:Program)(w:World)(K:PySem.W.Frag)(mg:Str→Option Value)(base:Heap)(N:List Str)(qual:Str)(scope:Scope)(f:Addr)(cd:Value)(A:Around)(outer:List Env)(s₀:Shared)(H₀:Hp)(E:XK):Cx:=cxOf (CX1 P w) P w K mg base N qual scope f cd A outer s₀ H₀ E
theorem pass1:B5 (CX1 P w) (cx1 P w K mg base N qual scope f cd A outer s₀ H₀ E) E:=by
 rintro pins σ H s e s' I ⟨ea,C,H',c,rfl,os,bare,un,hok,fly,hE⟩
 have I':Inv (cx1 P w K mg base N qual scope f cd A outer s₀ H₀ E) pins σ H' s':=I.call' os un hok bare fun b z=>absurd z (by simp)
 have ff:=I'.stack
 obtain⟨T,a0,n3,n4,fl⟩:=fly.base ff
 have c2:=fly.c2
 obtain⟨n1,n2,_⟩:=fly
 have old:∀{b:Addr},s.heap.get? b=none→s₀.heap.get? b=none:=fun{b} z=>by
  cases y:s₀.heap.get? b with
  | none=>rfl
  | some o=>obtain⟨o',e'⟩:=I.base.there b o y (by show b ∉ ([]:List Addr);simp);rw[z]at e';cases e'
 refine HQ I'.ok.frames rfl fl fun h' fl' us cc=>?_
 have hf:∀ b∈frs (envOfC qual scope s₀.heap.objs.size f cd::outer),b∈frs outer∨s₀.heap.get? b=none:=fun b hb=>by
  rcases List.mem_cons.mp (I'.stkSub b hb)with z|z
  · rw[z];exact .inr (Heap.get?_none_of_le (Nat.le_refl _))
  · exact .inl z
 obtain⟨f1,f2,f3⟩:=Fly.step (P:=P) (w:=w) (old n1) n2 (old n3) n4 ff I'.stkFree I'.hok I'.base fl' us hf (fun b o _=>by show b ∉ ([]:List Addr);simp) (cc c c2)
 exact⟨ea,C,H',c,rfl,I'.os,I'.bare,f3,f2,f1,hE⟩
theorem rais1{pins:List (Addr×Obj)}{σ:St}{H:Hp}{s s':Shared}{ea C:Addr}{args:List Value}(I:Inv (cx1 P w K mg base N qual scope f cd A outer s₀ H₀ E) pins σ H s)(m:s.heap.MadeExcOf s'.heap ea (.ref C) args)(os:s'.os=s.os)(gn:s'.gens=s.gens)(hE:E (.ref C) none H):
  (cx1 P w K mg base N qual scope f cd A outer s₀ H₀ E).xe (.ref ea) s':=by
 have ff:=I.stack
 have old:∀{b:Addr},s.heap.get? b=none→s₀.heap.get? b=none:=fun{b} z=>by
  cases y:s₀.heap.get? b with
  | none=>rfl
  | some o=>obtain⟨o',e'⟩:=I.base.there b o y (by show b ∉ ([]:List Addr);simp);rw[z]at e';cases e'
 have unt:∀{b:Addr},s.heap.get? b=none→H b=none:=fun{b} z=>by
  cases y:H b with
  | none=>rfl
  | some o=>obtain⟨o',e'⟩:=(I.hok b o y).obj;rw[z]at e';cases e'
 refine made_c (base:=hideAll s.heap (frs (envOfC qual scope s₀.heap.objs.size f cd::outer))) (h:=s.heap) I.ok.frames rfl (fun b o z=>of_hideAll _ z) (funFrames_hide ff fun env he a ea=>BP he ea) m fun h' t fl' us cc=>?_
 have hf:∀ b∈frs (envOfC qual scope s₀.heap.objs.size f cd::outer),b∈frs outer∨s₀.heap.get? b=none:=fun b hb=>by
  rcases List.mem_cons.mp (I.stkSub b hb)with z|z
  · rw[z];exact .inr (Heap.get?_none_of_le (Nat.le_refl _))
  · exact .inl z
 have sl:∀ b∈frs (envOfC qual scope s₀.heap.objs.size f cd::outer),∀ o,s.heap.get? b=some o→∃ z,h'.get? b=some { o with slots:=z }:=fun b hb o q=>by
  obtain⟨_,o',q',nf⟩:=ff.mem hb
  rw[q]at q';cases q'
  exact us b o (m.keeps b o q) nf
 have k:∀ b o,s.heap.get? b=some o→b ∉ frs (envOfC qual scope s₀.heap.objs.size f cd::outer)→h'.get? b=some o:=fun b o q n=>fl'.1 b o (hideAll_get _ q n)
 obtain⟨s1,s2,s3,oe,vs,T,oT,ts,q1,⟨q2,q3⟩,q4,q5,q6,q7,q8,q9,q10⟩:=fl'
 have q12:vs[2]?=some .none:=by
  obtain⟨oe',vs',y1,y2,y3⟩:=cc
  rw[q1]at y1;cases y1
  rw[q4]at y2;cases y2
  exact y3
 have hT:s.heap.get? T=none:=by
  by_cases mT:T∈frs (envOfC qual scope s₀.heap.objs.size f cd::outer)
  · obtain⟨_,o,e1,nf⟩:=ff.mem mT
    obtain⟨z,e2⟩:=sl T mT o e1
    rw[q8]at e2
    cases e2
    exact absurd q9 (nf ts)
  · cases z:s.heap.get? T with
    | none=>rfl
    | some o=>rw[hideAll_get _ z mT]at q6;cases q6
 refine⟨ea,C,H,.none,rfl,os.trans I.os,by rw[gn];exact I.bare,HR (l:=envOfC qual scope s₀.heap.objs.size f cd::outer) I.base (fun b o o' _ q' n=>k b o' q' n) sl hf,Gc I.hok fun b o hb q=>k b o q fun z=>hb (I.stkFree b z),⟨old m.new,unt m.new,oe,vs,T,oT,ts,_,q1,q2,q3,q4,q5,old hT,unt hT,q7,q8,q9,q10,q12⟩,hE⟩
end
def exN:Nat→Str
 | 0 => "HallError"
 | 1 => "NoHall"
 | 2 => "NoBasket"
 | 3 => "NoPlace"
 | 4 => "NoText"
 | 5 => "Unlike"
 | 6 => "TooMany"
 | 8 => "NoText"
 | _ => "NotWithin"
def wk(n:Nat):Bool:=n==8
def HFly(h0:Heap)(H:Hp)(e C L:Addr)(c:Value)(h:Heap):Prop :=
 h0.get? e=none∧H e=none∧∃ oe vs T oT ts a0,h.get? e=some oe∧oe.cls = .ref C∧vs[0]?=some a0∧oe.data = .fields vs∧vs[1]?=some (.ref T)∧h0.get? T=none∧H T=none∧T≠e∧h.get? T=some oT∧oT.data = .fields ts∧ts[3]?=some (rawInt L)∧vs[2]?=some c
def HS(X:Cx)(E:XK):Prop:=∀(pins:List (Addr×Obj)) (σ:St) (H:Hp) (s:Shared) (ea C L:Addr) (c:Value),X.env.frame=some L→Inv X pins σ H s→HFly X.s₀.heap H ea C L c s.heap→E (.ref C) (ctxO c) H→X.xe (.ref ea) s
theorem landH1{P:Program}{w:World}{K:PySem.W.Frag}{mg:Str→Option Value}{base:Heap}{N:List Str}{qual:Str}{scope:Scope}{f:Addr}{cd:Value}{A:Around}{outer:List Env}{s₀:Shared}{H₀:Hp}{E:XK}:
  HS (cx1 P w K mg base N qual scope f cd A outer s₀ H₀ E) E:=by
 rintro pins σ H s ea C L c hL I ⟨n1,n2,oe,vs,T,oT,ts,a0,q1,q2,q3,q4,q5,n3,n4,q8,q9,q10,q11,q12⟩ hE
 have ff:=I.stack
 have hh:(hideAll s.heap (ea::T::frs (envOfC qual scope s₀.heap.objs.size f cd::outer))).HeldW (envOfC qual scope s₀.heap.objs.size f cd::outer) ea (.ref C) a0 L s.heap :=
  ⟨fun b o z=>of_hideAll _ z,hideAll_none _ (by simp),funFrames_hide ff fun env he a ea=>by simp[BP he ea],oe,vs,T,oT,ts,q1,⟨q2,q3⟩,q4,q5,hideAll_none _ (by simp),q8,q9,q10,q11⟩
 show wpAny _ _ (leaving _ _) _ _ _
 unfold leaving
 refine wpAny_bind (wpAny_noteFrame_againW hL hh.2.2.2 (R6 hh.1 hh.2.2.1 hh.2.1 hh.2.2.2 fun h' fl' us cc=>?_))
 have hf:∀ b∈frs (envOfC qual scope s₀.heap.objs.size f cd::outer),b∈frs outer∨s₀.heap.get? b=none:=fun b hb=>by
  rcases List.mem_cons.mp (I.stkSub b hb)with z|z
  · rw[z];exact .inr (Heap.get?_none_of_le (Nat.le_refl _))
  · exact .inl z
 obtain⟨f1,f2,f3⟩:=Fly.step (P:=P) (w:=w) n1 n2 n3 n4 ff I.stkFree I.hok I.base fl' us hf (fun b o _=>by show b ∉ ([]:List Addr);simp) (cc c ⟨oe,vs,q1,q4,q12⟩)
 exact⟨ea,C,H,c,rfl,I.os,I.bare,f3,f2,f1,hE⟩
def XOk(X:Cx)(H₀:Hp)(wk:Bool)(C:Addr):Prop:=∃ E:XK,(∀ H o,Same H₀ H→(o=none∨wk=true)→E (.ref C) o H)∧B5 (CX1 X.prog X.w) X E ∧
 (∀(pins:List (Addr×Obj)) (σ:St) (H:Hp) (s s':Shared) (ea:Addr) (args:List Value),Inv X pins σ H s→s.heap.MadeExcOf s'.heap ea (.ref C) args→s'.os=s.os→s'.gens=s.gens→E (.ref C) none H→X.xe (.ref ea) s')∧HS X E
theorem XOk.base{X:Cx}{H₀ H1:Hp}{wk:Bool}{C:Addr}(h:XOk X H₀ wk C)(s:Same H₀ H1):XOk X H1 wk C:=by
 obtain⟨E,a,b,c⟩:=h
 exact⟨E,fun H o z=>a H o (s.trans z),b,c⟩
theorem xok1{P:Program}{w:World}{K:PySem.W.Frag}{mg:Str→Option Value}{base:Heap}{N:List Str}{qual:Str}{scope:Scope}{f:Addr}{cd:Value}{A:Around}{outer:List Env}{s₀:Shared}{H₀:Hp}{E:XK}{wk:Bool}{C:Addr}(h:∀ H o,Same H₀ H→(o=none∨wk=true)→E (.ref C) o H):
 XOk (cx1 P w K mg base N qual scope f cd A outer s₀ H₀ E) H₀ wk C:=⟨E,h,pass1,fun pins σ H s s' ea args I m os gn hE=>rais1 I m os gn hE,landH1⟩
end L2

end
section
local macro_rules|`(tactic| omega)=>`(tactic| first|lia|omega +splitDisjunctions)
set_option Elab.async false
set_option linter.all false
set_option maxRecDepth 100000
namespace L2
open PySem PySem.Spec PyProof.Rows
abbrev Own:=List (Nat×Addr)
abbrev Own.adr(O:Own):List Addr:=O.map (·.2)
def CellB(X:Cx)(H:Hp)(O:Own)(i:Nat):Cell→Option V→Prop
 | .no,_=>True
 | .ex,o=>∃ a φ,o=some (.ref a)∧hidL O.adr H a=some (.ext φ)∧∀ h,φ h→ExcAt X.K a h
 | .sh f d,o=>∃ v,o=some v∧Rp X.K (bsOf X.ky f) d (hidL O.adr H) v
 | .ow f ds,o=>∃ a vs,(i,a)∈O∧o=some (.ref a)∧H a=some (.lst vs)∧Rps X.K (bsOf X.ky f) ds (hidL O.adr H) vs
structure RepO(X:Cx)(H₀ H:Hp)(O:Own)(ρ:Rho)(σ:St):Prop where
 ndA:O.adr.Nodup
 ndI:(O.map (·.1)).Nodup
 own:OwnL X O.adr H
 len:ρ.length=σ.length
 b0:Same X.H₀ H₀
 same:Same H₀ (hidL O.adr H)
 at_:∀(i:Nat) (c:Cell),ρ[i]?=some c→∃ o,σ[i]?=some o∧CellB X H O i c o
def RepB(X:Cx)(H₀ H:Hp)(ρ:Rho)(σ:St):Prop:=∃ O,RepO X H₀ H O ρ σ
def AY:Cell→Cell
 | .ow _ _ => .no
 | c=>c
def v8:Rho→Rho
 | []=>[]
 | c::ρ=>AY c::v8 ρ
theorem AZ:∀ ρ:Rho,v8 ρ=ρ.map AY
 | []=>rfl
 | c::ρ=>by rw[v8,AZ ρ,List.map_cons]
section
variable {X:Cx}{H₀ H H':Hp}{O:Own}{ρ:Rho}{σ:St}
theorem RepO.mono(h:RepO X H₀ H O ρ σ)(sm:Same H H'):RepO X H₀ H' O ρ σ:=by
 refine⟨h.ndA,h.ndI,fun a ha=>?_,h.len,h.b0,h.same.trans (r9 sm),fun i c e=>?_⟩
 · obtain⟨⟨vs,q⟩,z⟩:=h.own a ha
   exact⟨⟨vs,sm _ _ q⟩,z⟩
 · obtain⟨o,e1,e2⟩:=h.at_ i c e
   refine⟨o,e1,?_⟩
   cases c with
   | no=>trivial
   | ex=>obtain⟨a,φ,q,r,z⟩:=e2;exact⟨a,φ,q,r9 sm _ _ r,z⟩
   | sh f d=>obtain⟨v,q,r⟩:=e2;exact⟨v,q,Rp.mono _ (r9 sm) r⟩
   | ow f ds=>obtain⟨a,vs,q1,q2,q3,r⟩:=e2;exact⟨a,vs,q1,q2,sm _ _ q3,Rps.mono _ (r9 sm) r⟩
theorem RepO.base(h:RepO X H₀ H O ρ σ){H1:Hp}(sm:Same H1 H₀)(b:Same X.H₀ H1):RepO X H1 H O ρ σ:=⟨h.ndA,h.ndI,h.own,h.len,b,sm.trans h.same,h.at_⟩
theorem RepO.below(h:RepO X H₀ H O ρ σ):Same X.H₀ H:=h.b0.trans (h.same.trans j5)
theorem RepO.bsFree(h:RepO X H₀ H O ρ σ){a:Addr}(ha:a∈O.adr)(f:Bool):bsOf X.ky f a=none:=by
 cases f with
 | false=>rfl
 | true=>exact(h.own a ha).2
theorem R7{i:Nat}{a:Addr}(h:(i,a)∈O):a∈O.adr:=List.mem_map.mpr ⟨_,h,rfl⟩
theorem RepO.all(h:RepO X H₀ H O ρ σ):RepS X.ky H ρ σ:=by
 refine⟨h.len,h.below,fun i c e=>?_⟩
 obtain⟨o,e1,e2⟩:=h.at_ i c e
 refine⟨o,e1,?_⟩
 cases c with
 | no=>trivial
 | ex=>obtain⟨a,φ,q,r,z⟩:=e2;exact⟨a,φ,q,j5 _ _ r,z⟩
 | sh f d=>obtain⟨v,q,r⟩:=e2;exact⟨v,q,Rp.mono _ j5 r⟩
 | ow f ds =>
  obtain⟨a,vs,q1,q2,q3,r⟩:=e2
  exact⟨_,q2,Rp.lst_.mpr ⟨a,vs,rfl,h.bsFree (R7 q1) f,q3,Rps.mono _ (A5 fun b hb=>by rw[List.mem_singleton.mp hb];exact R7 q1) r⟩⟩
theorem RepO.rest(h:RepO X H₀ H O ρ σ):RepS X.ky (hidL O.adr H) (v8 ρ) σ:=by
 rw[AZ]
 refine⟨by rw[List.length_map];exact h.len,h.b0.trans h.same,fun i c e=>?_⟩
 rw[List.getElem?_map]at e
 cases q:ρ[i]? with
 | none=>rw[q]at e;cases e
 | some c' =>
  rw[q]at e
  obtain⟨o,e1,e2⟩:=h.at_ i c' q
  refine⟨o,e1,?_⟩
  cases c' with
  | no=>cases e;trivial
  | ex=>cases e;exact e2
  | sh f d=>cases e;obtain⟨v,q,r⟩:=e2;exact⟨v,q,r⟩
  | ow f ds=>cases e;trivial
def R8(O:Own)(i:Nat):Own:=O.filter fun p=>p.1 != i
theorem E6{p:Nat×Addr}{i:Nat}:p∈R8 O i↔p∈O∧p.1≠i:=by
 unfold R8
 rw[List.mem_filter]
 simp
theorem C3{i:Nat}:∀ a∈(R8 O i).adr,a∈O.adr:=fun a ha=>by
 obtain⟨p,hp,e⟩:=List.mem_map.mp ha
 exact List.mem_map.mpr ⟨p,(E6.mp hp).1,e⟩
theorem RepO.set(h:RepO X H₀ H O ρ σ){i:Nat}{f:Bool}{d:Dt}{v:V}(r:Rp X.K (bsOf X.ky f) d (hidL O.adr H) v):RepO X H₀ H (R8 O i) (ρ.set i (.sh f d)) (σ.set i (some v)):=by
 have sm:Same (hidL O.adr H) (hidL (R8 O i).adr H):=A5 C3
 refine⟨h.ndA.sublist (List.Sublist.map _ (List.filter_sublist)),h.ndI.sublist (List.Sublist.map _ (List.filter_sublist)),fun a ha=>h.own a (C3 a ha),by rw[List.length_set,List.length_set];exact h.len,h.b0,h.same.trans sm,fun j c q=>?_⟩
 by_cases e:i=j
 · subst e
   rw[List.getElem?_set,if_pos rfl]at q
   rw[List.getElem?_set,if_pos rfl]
   split at q
   · rename_i hl
     cases q
     rw[if_pos (by rw[←h.len];exact hl)]
     exact⟨_,rfl,v,rfl,Rp.mono _ sm r⟩
   · cases q
 · rw[List.getElem?_set_ne e]at q ⊢
   obtain⟨o,e1,e2⟩:=h.at_ j c q
   refine⟨o,e1,?_⟩
   cases c with
   | no=>trivial
   | ex=>obtain⟨a,φ,q,r,z⟩:=e2;exact⟨a,φ,q,sm _ _ r,z⟩
   | sh f d=>obtain⟨v,q,r⟩:=e2;exact⟨v,q,Rp.mono _ sm r⟩
   | ow f ds=>obtain⟨a,vs,q1,q2,q3,r⟩:=e2;exact⟨a,vs,E6.mpr ⟨q1,fun z=>e z.symm⟩,q2,q3,Rps.mono _ sm r⟩
theorem HU{D:Addr}{A:List Addr}{H:Hp}:hidL A (hidL [D] H)=hidL (D::A) H:=funext fun b=>by
 unfold hidL
 by_cases q1:b=D
 · subst q1;simp
 · by_cases q2:b∈A
   · simp[q1,q2]
   · simp[q1,q2]
theorem Gd{O:Own}(nd:O.adr.Nodup):∀{p q:Nat×Addr},p∈O→q∈O→p.2=q.2→p=q:=by
 induction O with
 | nil=>intro p q hp;cases hp
 | cons o O ih =>
  intro p q hp hq e
  have nd:(o.2::O.map (·.2)).Nodup:=nd
  obtain⟨n1,n2⟩:=List.nodup_cons.mp nd
  rcases List.mem_cons.mp hp with hp|hp<;>rcases List.mem_cons.mp hq with hq|hq
  · rw[hp,hq]
  · exact absurd (List.mem_map.mpr ⟨q,hq,by rw[←e,hp]⟩) n1
  · exact absurd (List.mem_map.mpr ⟨p,hp,by rw[e,hq]⟩) n1
  · exact ih n2 hp hq e
theorem KN{O:Own}(nd:(O.map (·.1)).Nodup):∀{p q:Nat×Addr},p∈O→q∈O→p.1=q.1→p=q:=by
 induction O with
 | nil=>intro p q hp;cases hp
 | cons o O ih =>
  intro p q hp hq e
  have nd:(o.1::O.map (·.1)).Nodup:=nd
  obtain⟨n1,n2⟩:=List.nodup_cons.mp nd
  rcases List.mem_cons.mp hp with hp|hp<;>rcases List.mem_cons.mp hq with hq|hq
  · rw[hp,hq]
  · exact absurd (List.mem_map.mpr ⟨q,hq,by rw[←e,hp]⟩) n1
  · exact absurd (List.mem_map.mpr ⟨p,hp,by rw[e,hq]⟩) n1
  · exact ih n2 hp hq e
theorem Dy{A:List Addr}{a:Addr}{o:HO}{H:Hp}(h:a∈A):hidL A (upd H a o)=hidL A H:=funext fun b=>by
 by_cases q:b∈A
 · rw[D0 q,D0 q]
 · rw[i7 q,i7 q,i0 fun z=>q (by rw[z];exact h)]
theorem RepO.upd(h:RepO X H₀ H O ρ σ){i:Nat}{a:Addr}{f g:Bool}{ds ds0:List Dt}{vs:List V}(hc:ρ[i]?=some (.ow g ds0))(hi:(i,a)∈O)(r:Rps X.K (bsOf X.ky f) ds (hidL O.adr H) vs):
   RepO X H₀ (upd H a (.lst vs)) O (ρ.set i (.ow f ds)) σ:=by
 have ha:a∈O.adr:=R7 hi
 have hh:hidL O.adr (L2.upd H a (.lst vs))=hidL O.adr H:=Dy ha
 have hlt:i<ρ.length:=by
   by_cases hlt:i<ρ.length
   · exact hlt
   · rw[List.getElem?_eq_none (by omega)]at hc;cases hc
 refine⟨h.ndA,h.ndI,fun b hb=>?_,by rw[List.length_set];exact h.len,h.b0,by rw[hh];exact h.same,fun j c q=>?_⟩
 · by_cases e:b=a
   · subst e;exact⟨⟨vs,j0⟩,(h.own b hb).2⟩
   · rw[i0 e];exact h.own b hb
 · by_cases e:i=j
   · subst e
     rw[List.getElem?_set,if_pos rfl,if_pos hlt]at q
     cases q
     obtain⟨o,e1,a',vs',q1,q2,q3,r'⟩:=h.at_ i _ hc
     have e2:(i,a')=(i,a):=KN h.ndI q1 hi rfl
     cases e2
     exact⟨o,e1,a,vs,hi,q2,j0,by rw[hh];exact r⟩
   · rw[List.getElem?_set_ne e]at q
     obtain⟨o,e1,e2⟩:=h.at_ j c q
     refine⟨o,e1,?_⟩
     cases c with
     | no=>trivial
     | ex=>obtain⟨b,φ,q,r,z⟩:=e2;exact⟨b,φ,q,by rw[hh];exact r,z⟩
     | sh f d=>obtain⟨v,q,r⟩:=e2;exact⟨v,q,by rw[hh];exact r⟩
     | ow f ds' =>
      obtain⟨b,vs',q1,q2,q3,r'⟩:=e2
      have hne:b≠a:=fun z=>by
       have:=Gd h.ndA q1 hi z
       exact e (congrArg Prod.fst this).symm
      exact⟨b,vs',q1,q2,by rw[i0 hne];exact q3,by rw[hh];exact r'⟩
def relC:Cell→Cell
 | .ow f ds => .sh f (.lst ds)
 | c=>c
def Ba(ρ:Rho)(i:Nat):Rho:=match ρ[i]? with|some c=>ρ.set i (relC c)|none=>ρ
def relS:List Nat→Rho→Rho
 | [],ρ=>ρ
 | i::is,ρ=>relS is (Ba ρ i)
theorem RepO.rel(h:RepO X H₀ H O ρ σ)(i:Nat):RepO X H₀ H (R8 O i) (Ba ρ i) σ:=by
 have sm:Same (hidL O.adr H) (hidL (R8 O i).adr H):=A5 C3
 have hl:(Ba ρ i).length=ρ.length:=by
  unfold Ba
  split
  · exact List.length_set
  · rfl
 refine⟨h.ndA.sublist (List.Sublist.map _ (List.filter_sublist)),h.ndI.sublist (List.Sublist.map _ (List.filter_sublist)),fun a ha=>h.own a (C3 a ha),hl.trans h.len,h.b0,h.same.trans sm,fun j c q=>?_⟩
 have other:∀{c:Cell},ρ[j]?=some c→(∀ f ds,c = .ow f ds→j≠i)→∃ o,σ[j]?=some o∧CellB X H (R8 O i) j c o:=fun{c} q hne=>by
  obtain⟨o,e1,e2⟩:=h.at_ j c q
  refine⟨o,e1,?_⟩
  cases c with
  | no=>trivial
  | ex=>obtain⟨a,φ,q,r,z⟩:=e2;exact⟨a,φ,q,sm _ _ r,z⟩
  | sh f d=>obtain⟨v,q,r⟩:=e2;exact⟨v,q,Rp.mono _ sm r⟩
  | ow f ds=>obtain⟨a,vs,q1,q2,q3,r⟩:=e2;exact⟨a,vs,E6.mpr ⟨q1,hne f ds rfl⟩,q2,q3,Rps.mono _ sm r⟩
 unfold Ba at q
 cases e:ρ[i]? with
 | none =>
  rw[e]at q
  exact other q fun f ds _ z=>by rw[z,e]at q;cases q
 | some c' =>
  rw[e]at q
  dsimp only at q
  by_cases hij:i=j
  · subst hij
    have hlt:i<ρ.length:=by
     by_cases hlt:i<ρ.length
     · exact hlt
     · rw[List.getElem?_eq_none (by omega)]at e;cases e
    rw[List.getElem?_set,if_pos rfl,if_pos hlt]at q
    cases q
    cases c' with
    | no=>obtain⟨o,e1,e2⟩:=h.at_ i _ e;exact⟨o,e1,trivial⟩
    | ex=>exact other e fun f ds z=>by cases z
    | sh f d=>exact other e fun f ds z=>by cases z
    | ow f ds =>
     obtain⟨o,e1,a,vs,q1,q2,q3,r⟩:=h.at_ i _ e
     have hna:a ∉ (R8 O i).adr:=fun z=>by
       obtain⟨p,hp,ep⟩:=List.mem_map.mp z
       have:=Gd h.ndA (E6.mp hp).1 q1 ep
       exact(E6.mp hp).2 (by rw[this])
     refine⟨o,e1,.ref a,q2,Rp.lst_.mpr ⟨a,vs,rfl,h.bsFree (R7 q1) f,by rw[i7 hna];exact q3,Rps.mono _ ?_ r⟩⟩
     rw[R0,HU]
     refine A5 fun b hb=>?_
     rcases List.mem_cons.mp hb with z|z
     · rw[z];exact R7 q1
     · exact C3 b z
  · rw[List.getElem?_set_ne hij]at q
    exact other q fun f ds _ z=>hij z.symm
theorem RepO.rels(h:RepO X H₀ H O ρ σ):∀ is:List Nat,∃ O',RepO X H₀ H O' (relS is ρ) σ:=fun is=>by
 induction is generalizing O ρ with
 | nil=>exact⟨O,h⟩
 | cons i is ih=>exact ih (h.rel i)
end
inductive Oc where
 | nx (ρ:Rho)|rt (f:Fl) (d:Dt)|bk (ρ:Rho)|ct (ρ:Rho)|ex (n:Nat)
def OcOk(X:Cx)(H₀:Hp)(D:Ends):Oc→Prop
 | .nx ρ=>∀ σ H,RepB X H₀ H ρ σ→D.nx σ H
 | .rt f d=>∀ v H,Same H₀ H→Rp X.K (bsOf X.ky f.isFr) d H v→D.rt v H
 | .bk ρ=>∀ σ H,RepB X H₀ H ρ σ→D.bk σ H
 | .ct ρ=>∀ σ H,RepB X H₀ H ρ σ→D.ct σ H
 | .ex n=>∀ C,X.mg (exN n)=some (.ref C)→XOk X H₀ (wk n) C
abbrev FS:=Rho→Option Oc
def upS(X:Cx)(F:FS):TS:=fun D σ H=>∃ H₀ ρ oc,RepB X H₀ H ρ σ∧F ρ=some oc∧OcOk X H₀ D oc
def PFS(X:Cx)(st:Stmt)(F:FS):Prop:=PS X st (upS X F)
def PFSs(X:Cx)(sts:List Stmt)(F:FS):Prop:=PSs X sts (upS X F)
theorem PS.imp{X:Cx}{st:Stmt}{t t':TS}(h:PS X st t)(q:∀ D σ H,t' D σ H→t D σ H):PS X st t':=fun pins s σ H D I z=>h pins s σ H D I (q D σ H z)
theorem PSs.imp{X:Cx}{st:List Stmt}{t t':TS}(h:PSs X st t)(q:∀ D σ H,t' D σ H→t D σ H):PSs X st t':=fun pins s σ H D I z=>h pins s σ H D I (q D σ H z)
section
variable {X:Cx}{st:Stmt}{rest:List Stmt}{F G:FS}{e:Expr}{Fe:FE}{pos:Pos}
def A7:FS:=fun ρ=>some (.nx ρ)
def seqO(G:FS):Oc→Option Oc
 | .nx ρ=>G ρ
 | o=>some o
def sSeq(F G:FS):FS:=fun ρ=>(F ρ).bind (seqO G)
theorem u9:PFSs X [] A7:=o9.imp (by rintro D σ H ⟨H₀,ρ,oc,rb,e,k⟩;cases e;exact k σ H rb)
theorem m7(h:PFS X st F):PFSs X [st] F:=j8 h
theorem o0(h1:PFS X st F)(h2:PFSs X rest G):PFSs X (st::rest) (sSeq F G):=(j4 h1 h2).imp fun D σ H hZ=>hZ.elim fun H₀ hZ=>hZ.elim fun ρ hZ=>hZ.elim fun oc hZ=>hZ.elim fun rb hZ=>hZ.elim fun e k=>by
 obtain⟨o1,e1,e2⟩:=g5 e
 refine⟨H₀,ρ,o1,rb,e1,?_⟩
 cases o1 with
 | nx ρ'=>exact fun σ' H' rb'=>⟨H₀,ρ',oc,rb',e2,k⟩
 | rt f d=>cases e2;exact k
 | ex C=>cases e2;exact k
 | bk ρ'=>cases e2;exact k
 | ct ρ'=>cases e2;exact k
def K4:FS:=fun _=>none
theorem BQ:PFS X st K4:=fun pins s σ H D I hZ=>hZ.elim fun H₀ hZ=>hZ.elim fun ρ hZ=>hZ.elim fun oc hZ=>hZ.elim fun rb hZ=>hZ.elim fun e k=>by cases e
def sRet(F:FE):FS:=fun ρ=>(F ρ).map fun x => .rt x.1 x.2
theorem v9(he:PF X e Fe):PFS X (.Return (some e) pos) (sRet Fe):=(r0 he).imp fun D σ H ⟨H₀,ρ,oc,⟨O,rb⟩,e0,k⟩=>by
 unfold sRet at e0
 cases h:Fe ρ with
 | none=>rw[h]at e0;cases e0
 | some x =>
  rw[h]at e0
  cases e0
  refine⟨ρ,x.1,x.2,rb.all,h,fun v H' sm r=>k v H' (rb.same.trans (j5.trans sm)) ?_⟩
  by_cases q:x.1.isFr=true
  · rw[q];exact r.fr rb.below q
  · rw[show x.1.isFr=false by simpa using q];exact r.sh
def sIf(c:FT)(F G:FS):FS:=fun ρ=>(c ρ).bind fun b=>if b then F ρ else G ρ
theorem s_if{c:Expr}{a b:List Stmt}{Fc:FT}(hc:PFT X c Fc)(ha:PFSs X a F)(hb:PFSs X b G):PFS X (.If c a b pos) (sIf Fc F G):=(A4 hc ha hb).imp fun D σ H ⟨H₀,ρ,oc,⟨O,rb⟩,e0,k⟩=>by
 obtain⟨z,e1,e2⟩:=g5 e0
 refine⟨ρ,z,rb.all,e1,fun H' sm=>?_⟩
 dsimp only
 cases z with
 | true=>rw[if_pos rfl]at e2 ⊢;exact⟨H₀,ρ,oc,⟨O,rb.mono sm⟩,e2,k⟩
 | false=>rw[if_neg Bool.false_ne_true]at e2 ⊢;exact⟨H₀,ρ,oc,⟨O,rb.mono sm⟩,e2,k⟩
def Z8(F:FE):FS:=fun ρ=>(F ρ).map fun _ => .nx ρ
theorem HV(he:PF X e Fe)(hs:swapsWith e none pos.line X.env=pure false:=by rfl):PFS X (.Expr e pos) (Z8 Fe):=(u8 he hs).imp fun D σ H ⟨H₀,ρ,oc,⟨O,rb⟩,e0,k⟩=>by
 unfold Z8 at e0
 cases h:Fe ρ with
 | none=>rw[h]at e0;cases e0
 | some x =>
  rw[h]at e0
  cases e0
  exact⟨ρ,x.1,x.2,rb.all,h,fun v H' sm r=>k σ H' ⟨O,rb.mono sm⟩⟩
def AsgF(X:Cx)(st:Stmt)(i:Nat)(F:FE):Prop:=PS X st (tAsg (upF X F) (D8 i))
theorem HW{i:Nat}{x:Str}{pos':Pos}(he:PF X e Fe)(hN:X.N.Nodup)(hi:X.N[i]?=some x)(hx:Loc X.env.scope x)(hs:swapsWith e (some (.Name x pos')) pos.line X.env=pure false)(hf:X.fn x=true∨X.env.scope.names.lookup x=some .local):
 AsgF X (.Assign [.Name x pos'] e pos) i Fe:=J7 hN hi hx he hs hf
def sSet(rels:List Nat)(i:Nat)(F:FE):FS:=fun ρ=>(F (v8 (relS rels ρ))).map fun x => .nx ((relS rels ρ).set i (.sh x.1.isFr x.2))
theorem s_set{rels:List Nat}{i:Nat}(ha:AsgF X st i Fe):PFS X st (sSet rels i Fe):=(PS.frame ha).imp fun D σ H ⟨H₀,ρ,oc,⟨O,rb⟩,e0,k⟩=>by
 unfold sSet at e0
 cases h:Fe (v8 (relS rels ρ)) with
 | none=>rw[h]at e0;cases e0
 | some x =>
  rw[h]at e0
  cases e0
  obtain⟨O',rb'⟩:=rb.rels rels
  refine⟨O'.adr,rb'.own,v8 (relS rels ρ),x.1,x.2,rb'.rest,h,fun v H' sm r hn=>?_⟩
  have hg:hidL O'.adr (t8 O'.adr H H')=H':=Q9 hn
  have rb2:RepO X H₀ (t8 O'.adr H H') O' (relS rels ρ) σ:=rb'.mono (Same.glue sm hn)
  refine k _ _ ⟨_,rb2.set (f:=x.1.isFr) ?_⟩
  rw[hg]
  by_cases q:x.1.isFr=true
  · rw[q];exact r.fr (rb'.b0.trans rb'.same) q
  · rw[show x.1.isFr=false by simpa using q];exact r.sh
def sSetA(i:Nat)(F:FE):FS:=fun ρ=>(F ρ).bind fun x=>if x.1.isNw then some (.nx (ρ.set i (.sh true x.2))) else none
def sOwn(i:Nat)(F:FE):FS:=fun ρ=>(F (v8 ρ)).bind fun x=>match x with
 | (.nw,.lst ds)=>if i<ρ.length then some (.nx (ρ.set i (.ow true ds))) else none
 | (.tn,.lst ds)=>if i<ρ.length then some (.nx (ρ.set i (.ow false ds))) else none
 | _=>none
def sOwnA(i:Nat)(F:FE):FS:=fun ρ=>(F ρ).bind fun x=>match x with
 | (.nw,.lst ds)=>if i<ρ.length then some (.nx (ρ.set i (.ow true ds))) else none
 | _=>none
def forF(g:Tg)(F:FS):List Dt→FS
 | [],ρ=>some (.nx ρ)
 | x::xs,ρ=>(g.put x ρ).bind fun ρ2=>(F ρ2).bind fun oc=>match oc with|.nx ρ'=>forF g F xs ρ'|.ct ρ'=>forF g F xs ρ'|.bk ρ'=>some (.nx ρ')|.rt f d=>some (.rt f d)|.ex C=>some (.ex C)
def sFor(rels:List Nat)(Fi:FI)(g:Tg)(F:FS):FS:=fun ρ=>(Fi (v8 (relS rels ρ))).bind fun items=>forF g F items (relS rels ρ)
end
section
variable {X:Cx}{H₀ H H':Hp}{O:Own}{ρ ρ':Rho}{σ:St}
theorem V7:∀{is:List Nat} {ds:List Dt} {vs:List V} {O:Own} {ρ:Rho} {σ:St},RepO X H₀ H O ρ σ→Rps X.K emp ds (hidL O.adr H) vs→ds.length=is.length→C6 ρ is ds=ρ' →
  D7 is vs σ H fun σ' H'=>H'=H∧∃ O',RepO X H₀ H O' ρ' σ'
 | [],[],vs,O,ρ,σ,rs,r,hl,q=>⟨Rps.nil_.mp r,rfl,O,by rw[←q];exact rs⟩
 | [],d::ds,vs,O,ρ,σ,rs,r,hl,q=>by cases hl
 | i::is,[],vs,O,ρ,σ,rs,r,hl,q=>by cases hl
 | i::is,d::ds,vs,O,ρ,σ,rs,r,hl,q=>by
  obtain⟨v,r',rfl,h1,h2⟩:=Rps.cons_.mp r
  exact⟨v,r',rfl,V7 (rs.set (f:=false) h1) (Rps.mono _ (A5 C3) h2) (by simpa using hl) q⟩
theorem Tg.simO{g:Tg}{d:Dt}{v:V}(rs:RepO X H₀ H O ρ σ)(r:Rp X.K emp d (hidL O.adr H) v)(h:g.put d ρ=some ρ'):
  g.low X.K v σ H fun σ' H'=>H'=H∧∃ O',RepO X H₀ H O' ρ' σ':=by
 cases g with
 | one i=>cases h;exact⟨rfl,_,rs.set (f:=false) r⟩
 | many is =>
  cases d<;>first|cases h|skip
  rename_i ds
  replace h:(if ds.length=is.length then some (C6 ρ is ds) else none)=some ρ':=h
  split at h
  · rename_i hl
    obtain⟨a,vs,rfl,h1,h2⟩:=Rp.tup_.mp r
    exact⟨a,vs,rfl,j5.seqT h1,by rw[h2.length];exact hl,V7 rs h2 hl (Option.some.inj h)⟩
  · cases h
end
section
variable {X:Cx}{tg iter:Expr}{body:List Stmt}{Fi:FI}{g:Tg}{F:FS}{pos:Pos}
theorem s_for{rels:List Nat}(hp:PassesOwn (model X.prog X.w) X.A X.env X.xe)(hc:X.calm=true)(hi:PFI X tg iter Fi)(hg:PG X tg (g.low X.K))(hb:PFSs X body F)
   (hs:∀ x,foldedSetIterable iter X.env x=pure x:=by intro _;rfl):PFS X (.For tg iter body [] pos) (sFor rels Fi g F):=(He hp hc (PI.frame hi) hg hb hs).imp fun D σ H ⟨H₀,ρ,oc,⟨O,rb⟩,e0,k⟩=>by
 obtain⟨items,e1,e2⟩:=g5 e0
 obtain⟨O',rb'⟩:=rb.rels rels
 refine⟨O'.adr,rb'.own,v8 (relS rels ρ),items,rb'.rest,e1,fun J H1 sm hsz wk hn=>?_⟩
 have hg1:hidL O'.adr (t8 O'.adr H H1)=H1:=Q9 hn
 have s01:Same H₀ H1:=rb'.same.trans sm
 have start:RepO X H1 (t8 O'.adr H H1) O' (relS rels ρ) σ:=by
   have z:=rb'.mono (Same.glue sm hn)
   exact⟨z.ndA,z.ndI,z.own,z.len,rb'.b0.trans s01,by rw[hg1];exact Same.refl _,z.at_⟩
 have back:∀{oc:Oc},OcOk X H₀ D oc→OcOk X H1 D oc:=fun{oc} z=>by
   cases oc with
   | nx ρ5=>exact fun σ5 H5 hZ=>hZ.elim fun O5 r5=>z σ5 H5 ⟨O5,r5.base s01 rb'.b0⟩
   | bk ρ5=>exact fun σ5 H5 hZ=>hZ.elim fun O5 r5=>z σ5 H5 ⟨O5,r5.base s01 rb'.b0⟩
   | ct ρ5=>exact fun σ5 H5 hZ=>hZ.elim fun O5 r5=>z σ5 H5 ⟨O5,r5.base s01 rb'.b0⟩
   | rt f d=>exact fun v H5 s5 r5=>z v H5 (s01.trans s5) r5
   | ex n=>exact fun C q=>(z C q).base s01
 refine⟨fun i m σ' H'=>m=items.length-i∧∃ ρ',RepB X H1 H' ρ' σ'∧forF g F (items.drop i) ρ'=some oc,⟨_,rfl,_,⟨O',start⟩,e2⟩,?_⟩
 rintro i m σ' H' ⟨rfl,ρ',⟨O2,r2⟩,f2⟩
 obtain⟨w1,w2⟩:=wk O2.adr H' r2.same fun a ha=>by obtain⟨⟨vs,q⟩,_⟩:=r2.own a ha;exact⟨_,q⟩
 by_cases hlt:i<items.length
 · obtain⟨x,hx⟩:∃ x,items[i]?=some x:=⟨_,List.getElem?_eq_getElem hlt⟩
   have hdrop:items.drop i=x::items.drop (i+1):=by
    rw[List.drop_eq_getElem_cons hlt]
    rw[List.getElem?_eq_getElem hlt]at hx
    cases hx;rfl
   rw[hdrop]at f2
   unfold forF at f2
   obtain⟨ρ2,p1,f3⟩:=g5 f2
   obtain⟨oc',p2,f4⟩:=g5 f3
   obtain⟨go,yl⟩:=w1 i x hx
   refine .inr ⟨go,fun σ3 H3=>∃ ρ3,RepB X H1 H3 ρ3 σ3∧forF g F (items.drop (i+1)) ρ3=some oc,fun σ3 H3 hZ=>hZ.elim fun ρ3 hZ=>hZ.elim fun r3 f3=>⟨items.length-(i+1),by omega,rfl,ρ3,r3,f3⟩,fun xv H3 y3=>?_⟩
   obtain⟨s3,k3,r3⟩:=yl xv H3 y3
   have sm3:Same H' H3:=fun b o e=>by
    by_cases hb:b∈O2.adr
    · rw[k3 b hb];exact e
    · exact(m8 (s3 b o (by rw[i7 hb];exact e))).2
   refine Tg.low_mono (Tg.simO (r2.mono sm3) r3 p1) ?_
   rintro σ4 H4 ⟨eH,O4,r4⟩
   subst eH
   refine⟨H1,ρ2,oc',⟨O4,r4⟩,p2,?_⟩
   cases oc' with
   | nx ρ5=>exact fun σ5 H5 r5=>⟨ρ5,r5,f4⟩
   | ct ρ5=>exact fun σ5 H5 r5=>⟨ρ5,r5,f4⟩
   | bk ρ5=>cases f4;exact back k
   | rt f d=>cases f4;exact back k
   | ex C=>cases f4;exact back k
 · have hd:items.drop i=[]:=List.drop_of_length_le (by omega)
   rw[hd]at f2
   cases f2
   exact .inl ⟨w2 i (by omega),back k σ' H' ⟨O2,r2⟩⟩
end
section
variable {P:Program}{w:World}{K:PySem.W.Frag}{mg:Str→Option Value}{base:Heap}
def rho0(n:Nat)(ds:List Dt):Rho:=ds.map (Cell.sh false)++List.replicate (n-ds.length) Cell.no
theorem P3{X:Cx}{H:Hp}{ds:List Dt}{vs:List V}{N:List Str}(h0:X.H₀=H)(h:Rps X.K emp ds H vs):RepO X H H [] (rho0 N.length ds) (start N vs):=by
 have hl:=h.length
 refine⟨List.nodup_nil,List.nodup_nil,fun a ha=>(nomatch ha),by unfold rho0 start;simp[hl],by rw[h0];exact Same.refl H,by show Same H (hidL [] H);rw[Q8];exact Same.refl H,fun i c e=>?_⟩
 unfold rho0 at e
 unfold start
 by_cases hi:i<ds.length
 · rw[List.getElem?_append_left (by simpa using hi),List.getElem?_map]at e
   cases q:ds[i]? with
   | none=>rw[q]at e;cases e
   | some d =>
     rw[q]at e
     cases e
     obtain⟨v,e1,e2⟩:=h.get q
     refine⟨some v,?_,v,rfl,by show Rp X.K emp d (hidL [] H) v;rw[Q8];exact e2⟩
     rw[List.getElem?_append_left (by simp;omega),List.getElem?_map,e1];rfl
 · rw[List.getElem?_append_right (by simp;omega),List.getElem?_replicate]at e
   split at e
   · cases e
     rename_i hlt
     simp at hlt
     refine⟨none,?_,trivial⟩
     rw[List.getElem?_append_right (by simp;omega),List.getElem?_replicate,if_pos (by simp;omega)]
   · cases e
def cOf(np n:Nat)(fr:Bool)(F:FS):FC:=fun ds=>if ds.length=np then
 (F (rho0 n ds)).bind fun oc=>match oc with|.rt f d=>if fr&&!(f.isFr||d.flat) then none else some d|.nx _=>some .non|_=>none
 else none
theorem Fun.data{x qual:Str}{st:Stmt}{f:Addr}{fd:FuncData}{N ps:List Str}{k:Nat}{fr:Bool}{F:FS}(Fu:Fun K x qual st f fd)(S:FnScope N ps (f8 st))
    (body:∀(cdv:Value) (A:Around) (outer:List Env) (s:Shared) (H:Hp) (E:XK),Room k (A.deeper (envOfC qual (f8 st) s.heap.objs.size f cdv)) →
      PFSs (cxOf CX0 P w K mg base N qual (f8 st) f cdv A outer s H E).nox (j9 st) F):FnOk P w K mg base CX0 (k+1) f fd ps (spc K fr (cOf ps.length N.length fr F)):=by
  refine Fu.ok S (fun vs H Q E h=>?_) (fun cdv A outer s H vs Q E hr h=>?_)
  · obtain⟨ds,d,r,e,q⟩:=h
    unfold cOf at e
    split at e
    · rename_i hl
      rw[r.length];exact hl
    · cases e
  · obtain⟨ ds,d,r,e,q⟩:=h
    unfold cOf at e
    split at e
    · rename_i hl
      obtain⟨oc,e1,e2⟩:=g5 e
      refine⟨_,body cdv A outer s H E hr,H,rho0 N.length ds,oc,⟨[],P3 rfl r⟩,e1,?_⟩
      cases oc with
      | nx ρ=>cases e2;exact fun σ H' hZ=>hZ.elim fun O rb=>q _ H' (rb.same.trans j5) (Rp.non_.mpr rfl)
      | bk ρ=>cases e2
      | ct ρ=>cases e2
      | ex C=>cases e2
      | rt f d' =>
        have e2:(if(fr&&!(f.isFr||d'.flat))=true then none else some d')=some d:=e2
        split at e2
        · cases e2
        · rename_i hf
          cases e2
          refine fun v H' sm r'=>q v H' sm ?_
          cases fr with
          | false=>exact Rp.anti Same.emp _ r'
          | true =>
            have hf:f.isFr=true∨d.flat=true:=by
              cases h1:f.isFr<;>cases h2:d.flat<;>simp[h1,h2]at hf ⊢
            rcases hf with hf|hf
            · rw[hf]at r';exact r'
            · exact Rp.flat d hf r'
    · cases e
theorem GN{l:PySem.W.OpenLaw}{q:Program}{loose:List Str}{XP:(Str→Option Value)→Heap→Prop}{YP:World→Heap→Prop}{d:DefRec}{K:Params→PySem.W.Frag}{x:Str}{k:Nat}{fr:Bool}{c:FC}(hn:l.most=some 63)(hdf:d.params.defaults=[])
  (hY:∀(w:World) (h:Heap),YP w h→(K w.params).In h)
  (F:∀(w:World) (mg:Str→Option Value) (fa:Addr) (h:Heap),(K w.params).In h→h.Ns mainGlobals mg→mg d.name=some (.ref fa) →
   ∃ fd:FuncData,(∀(s:Shared) (u:Value),BindsTo s fd ⟨[u],[]⟩ [(x,u)])∧∀ base:Heap,(K w.params).In base→base.Ns mainGlobals mg→FnOk l.prog w (K w.params) mg base CX0 k fa fd [x] (spc (K w.params) fr c))
  (hc:∀ ns:List Int,ns.length≤63→c [.scr ns]=some (.bl true))
  (hr:Room k callerA):PySem.W.WalkO q loose XP YP l.row.toRowW d [] (fun f vs=>PySem.call f vs) :=
 L2.KB (n:=63) (k:=k) (x:=x) (CX:=fun _=>CX0) (sp:=fun w=>spc (K w.params) fr c) hn (by decide) hdf hr hY F
  (fun w H a ns hl hO hS=>⟨[.scr ns],_,Rps.one (Rp.scr_.mpr ⟨a,rfl,rfl,SqF.of hS hO⟩),hc ns hl,fun v H' _ r=>by cases fr<;>exact Rp.bl_.mp r⟩) fun _ _ _ _ _ z=>z
end
def Dz(XN:List Str)(xs:List (Str×NameKind))(scope:Scope)(N:List Str)(nt:Nat)(js:List Nat):Bool :=
 decide ((scope.names.map (·.1)).Nodup)&&(N.length==nt+js.length)&&((List.range js.length).all fun k=>match js[k]? with
  | some j=>(match N[nt+k]?,XN[j]? with|some x,some y=>x==y&&scope.names.lookup x==some .free|_,_=>false)
  | none=>false)&&scope.names.all fun p=>p.2 != .free||xs.lookup p.1==some .cell||xs.lookup p.1==some .free
theorem DA{X:Cx}{N:List Str}{scope:Scope}{nt:Nat}{js:List Nat}(XN:List Str)(xs:List (Str×NameKind))(h1:X.N=XN)(h2:X.env.scope.names=xs)(hk:scope.kind = .function)(c:Dz XN xs scope N nt js=true):CompScope X N scope nt js:=by
 unfold Dz at c
 rw[Bool.and_eq_true,Bool.and_eq_true,Bool.and_eq_true]at c
 obtain⟨⟨⟨c1,c2⟩,c3⟩,c4⟩:=c
 have nd:=of_decide_eq_true c1
 refine⟨hk,nd,fun x hx e=>by rw[B6 nd hx,e],beq_iff_eq.mp c2,fun k j e=>?_,fun x hx e=>?_⟩
 · have hk:k<js.length:=by
     by_cases hk:k<js.length
     · exact hk
     · rw[List.getElem?_eq_none (by omega)]at e;cases e
   have z:=List.all_eq_true.mp c3 k (List.mem_range.mpr hk)
   rw[e]at z
   dsimp only at z
   rw[h1]
   cases q1:N[nt+k]? with
   | none=>rw[q1]at z;cases z
   | some x =>
     cases q2:XN[j]? with
     | none=>rw[q1,q2]at z;cases z
     | some y =>
       rw[q1,q2]at z
       dsimp only at z
       rw[Bool.and_eq_true]at z
       have exy:x=y:=beq_iff_eq.mp z.1
       subst exy
       exact⟨x,rfl,rfl,beq_iff_eq.mp z.2⟩
 · have z:=List.all_eq_true.mp c4 x hx
   rw[e]at z
   have z:(xs.lookup x.1==some .cell||xs.lookup x.1==some .free)=true:=by simpa using z
   show X.env.scope.names.lookup x.1=_∨X.env.scope.names.lookup x.1=_
   rw[h2]
   rcases Bool.or_eq_true _ _ |>.mp z with z|z
   · exact .inl (beq_iff_eq.mp z)
   · exact .inr (beq_iff_eq.mp z)
structure Df(K:PySem.W.Frag)(mg:Str→Option Value)(name:Str)(st:Stmt)(ps:List Str)(f:Addr)(fd:FuncData):Prop where
 fn:Fun K name name st f fd
 mg:mg name=some (.ref f)
 bd:Binds K fd ps []
theorem df_mk{K:PySem.W.Frag}{h:Heap}{mg:Str→Option Value}(X:K.In h)(G:h.Ns mainGlobals mg){x:Str}{st:Stmt}{f:Addr}{oc:Value}{od an:Option Addr}{osl:Array (Option Value)}{kV doc pm cdv ct:Value}{ps:List Str}
  (e:PySem.W.nsIn K mainGlobals x=some (some (.ref f))) (l:K.lookup f=some ⟨oc,od,.func (PySem.W.fnOf x x (u4 st) (j9 st) (f8 st) .none kV doc pm an cdv ct),osl⟩) (c:PySem.W.codeIn K cdv x=true) (k:PySem.W.keepIn K (.ref f)=true)
  (hb:∀(kV doc pm:Value) (an:Option Addr) (cdv ct:Value) (us:List Value),us.length=ps.length→bindArgs (PySem.W.fnOf x x (u4 st) (j9 st) (f8 st) .none kV doc pm an cdv ct) ⟨us,[]⟩=pure (ps.zip us)) :
  Df K mg x st ps f (PySem.W.fnOf x x (u4 st) (j9 st) (f8 st) .none kV doc pm an cdv ct) :=
 ⟨Hw l c k,PySem.W.mg_of X G e,(Hw (st:=st) l c k).binds hb⟩
end L2

end
section
set_option Elab.async false
set_option linter.all false
set_option maxRecDepth 100000
namespace ZL
open PySem PyProof.Rows
def ItAt(h:Heap)(tu:Bool)(it l:Addr)(k:Nat):Prop:=if tu then h.IsTupleIter it l k else h.IsListIter it l k
def SqAt(h:Heap)(tu:Bool)(l:Addr)(xs:Array Value):Prop:=if tu then h.IsTuple l xs else h.IsList l xs
section
variable {h h':Heap}{tu:Bool}{it l c:Addr}{k:Nat}{xs:Array Value}
theorem ItAt.at(x:ItAt h tu it l k)(q:∀ o,h.get? it=some o→h'.get? it=some o):ItAt h' tu it l k:=by
 unfold ItAt at x ⊢
 cases tu with
 | true=>obtain⟨o,e,r⟩:=x;exact⟨o,q o e,r⟩
 | false=>obtain⟨o,e,r⟩:=x;exact⟨o,q o e,r⟩
theorem SqAt.at(x:SqAt h tu l xs)(q:∀ o,h.get? l=some o→h'.get? l=some o):SqAt h' tu l xs:=by
 unfold SqAt at x ⊢
 cases tu with
 | true=>obtain⟨o,e,r⟩:=x;exact⟨o,q o e,r⟩
 | false=>obtain⟨o,e,r⟩:=x;exact⟨o,q o e,r⟩
theorem ItAt.lt(x:ItAt h tu it l k):it<h.objs.size:=by
 unfold ItAt at x
 cases tu with
 | true=>obtain⟨o,e,_⟩:=x;exact Heap.lt_size e
 | false=>obtain⟨o,e,_⟩:=x;exact Heap.lt_size e
theorem SqAt.lt(x:SqAt h tu l xs):l<h.objs.size:=by
 unfold SqAt at x
 cases tu with
 | true=>obtain⟨o,e,_⟩:=x;exact Heap.lt_size e
 | false=>obtain⟨o,e,_⟩:=x;exact Heap.lt_size e
end
section
variable {prog:Program}{w:World}{A:Around}{E:Value→Shared→Prop}{s:Shared}
def itObj(tu:Bool)(l:Addr):Obj:={ cls := .type (if tu then "tuple_iterator" else "list_iterator"),data := .fields #[.ref l,.int 0 0] }
abbrev h1(h:Heap)(ta:Bool)(a:Addr):Heap:=h.push (itObj ta a)
abbrev h2(h:Heap)(ta tb:Bool)(a b:Addr):Heap:=(h1 h ta a).push (itObj tb b)
abbrev h3(h:Heap)(ta tb:Bool)(a b:Addr):Heap:=(h2 h ta tb a b).push { cls := .type "tuple",data := .seq #[.ref h.objs.size,.ref (h1 h ta a).objs.size] }
abbrev h4(h:Heap)(ta tb:Bool)(a b:Addr):Heap:=(h3 h ta tb a b).push { cls := .type "tuple",data := .seq #[.none,.none] }
abbrev h5(h:Heap)(ta tb:Bool)(a b:Addr):Heap:=(h4 h ta tb a b).push { cls := .type "zip",data := .fields #[.none,.bool false,.bool true,.ref (h2 h ta tb a b).objs.size,.ref (h3 h ta tb a b).objs.size] }
end
end ZL

end
section
set_option Elab.async false
set_option linter.all false
set_option maxRecDepth 100000
set_option maxHeartbeats 4000000
namespace ZL
open PySem PyProof.Rows
theorem okT(a b v:Value):checkTypeCall "zip" ⟨[a,b],[(Str.ofString "strict",v)]⟩=pure ():=by kernel_rfl
theorem okN(a b v:Value):checkBuiltinCall "zip.__new__" ⟨[.type "zip",a,b],[(Str.ofString "strict",v)]⟩=pure ():=by kernel_rfl
theorem okI(a b c v:Value):argsOk "object.__init__" ⟨[a,b,c],[(Str.ofString "strict",v)]⟩:=by
 unfold argsOk;rw[signature?_of (id := "object.__init__") (n := "__init__".toList.reverse) (o := "object".toList.reverse) (by kernel_rfl) F.owner_object];kernel_rfl
section
variable {prog:Program}{w:World}{A:Around}{E:Value→Shared→Prop}{s:Shared}
end
end ZL

end
section
local macro_rules|`(tactic| omega)=>`(tactic| first|lia|omega +splitDisjunctions)
set_option Elab.async false
set_option linter.all false
set_option maxRecDepth 100000
set_option maxHeartbeats 1000000
namespace L2
open PySem PySem.Spec PyProof.Rows ZL
section
variable {X:Cx}{pins:List (Addr×Obj)}{σ:St}{H:Hp}{s:Shared}{h':Heap}
end
def SqV(K:PySem.W.Frag)(tu:Bool)(H:Hp)(a:Addr)(xs:List V):Prop:=if tu then SqT K H a xs else SqL K H a xs
theorem SqV.mono{K:PySem.W.Frag}{tu:Bool}{H H':Hp}{a:Addr}{xs:List V}(e:Same H H')(h:SqV K tu H a xs):SqV K tu H' a xs:=by
 unfold SqV at h ⊢
 cases tu with
 | true=>exact e.seqT h
 | false=>exact e.seq h
theorem Inv.sq{X:Cx}{pins:List (Addr×Obj)}{σ:St}{H:Hp}{s:Shared}{tu:Bool}{a:Addr}{xs:List V}(I:Inv X pins σ H s)(h:SqV X.K tu H a xs):∃ its:List Value,Vals xs its∧SqAt s.heap tu a its.toArray∧xs.length≤sizeLine:=by
 unfold SqV at h
 unfold SqAt
 cases tu with
 | true=>obtain⟨its,r,p,z⟩:=I.tuple h;exact⟨its,r,p,z⟩
 | false=>obtain⟨its,r,p,z⟩:=I.list h;exact⟨its,r,p.isList,z⟩
section
variable {K:PySem.W.Frag}{H1:Hp}
def zipD:List Dt→List Dt→List Dt
 | x::xs,y::ys => .tup [x,y]::zipD xs ys
 | _,_=>[]
def HX:Nat→List Dt→List Dt
 | _,[]=>[]
 | n,x::xs => .tup [.int n,x]::HX (n+1) xs
end
section
variable {X:Cx}{a b e:Expr}{Fa Fb:FE}{elts:List Expr}{n:Nat}{tpos pos:Pos}
def iZip(F G:FE):FI:=fun ρ=>(F ρ).bind fun x=>(G ρ).bind fun y=>(seqD x.2).bind fun xs=>(seqD y.2).bind fun ys=>if xs.length=ys.length then some (zipD xs ys) else none
def lstD:Dt→Option (List Dt)
 | .lst ds=>some ds
 | _=>none
def iEnum(F:FE):FI:=fun ρ=>(F ρ).bind fun x=>(lstD x.2).map (HX 0)
def iRev(F:FE):FI:=fun ρ=>(F ρ).bind fun x=>(lstD x.2).map List.reverse
end
end L2

end
section
set_option Elab.async false
set_option linter.all false
set_option maxRecDepth 100000
set_option maxHeartbeats 1000000
namespace L2
open PySem PySem.Spec PyProof.Rows
section
variable {X:Cx}
section
variable {H₀ H H':Hp}{O:Own}{ρ:Rho}{σ:St}{i:Nat}{f:Bool}{ds:List Dt}
theorem RepO.get(h:RepO X H₀ H O ρ σ)(e:ρ[i]?=some (.ow f ds)):∃ a vs,(i,a)∈O∧σ[i]?=some (some (.ref a))∧H a=some (.lst vs)∧Rps X.K (bsOf X.ky f) ds (hidL O.adr H) vs:=by
 obtain⟨o,e1,a,vs,q1,q2,q3,q4⟩:=h.at_ i _ e
 subst q2
 exact⟨a,vs,q1,e1,q3,q4⟩
end
abbrev FW:=List Dt→Dt→Option (List Dt)
def Z9(ρ:Rho)(i:Nat):Option (Bool×List Dt):=match ρ[i]? with|some (.ow f ds)=>some (f,ds)|_=>none
def sWr(w:FW)(i:Nat)(F:FE):FS:=fun ρ=>(Z9 ρ i).bind fun o=>(F (v8 ρ)).bind fun x=>(w o.2 x.2).map fun ds => .nx (ρ.set i (.ow (o.1&&x.1.isFr) ds))
def sWrA(w:FW)(i:Nat)(F:FE):FS:=fun ρ=>(Z9 ρ i).bind fun o=>(F ρ).bind fun x=>if x.1.isNw then(w o.2 x.2).map fun ds => .nx (ρ.set i (.ow o.1 ds)) else none
def wApp:FW:=fun ds d=>if ds.length<1000000 then some (ds++[d]) else none
def wIns0:FW:=fun ds d=>if ds.length<1000000 then some (d::ds) else none
section
variable {id:String}{w:FW}{x:Str}{name:Str}{e:Expr}{Fe:FE}{i:Nat}{px apos cpos pos:Pos}{pre:List V}
end
def setD(ds:List Dt)(j:Int)(d:Dt):Option (List Dt):=(ixN ds.length j).map fun k=>ds.set k d
def sPut(i:Nat)(Fj Fe:FE):FS:=fun ρ=>(Z9 ρ i).bind fun o=>(Fe (v8 ρ)).bind fun x=>(Fj ρ).bind fun j=>(intD j.2).bind fun n=>(setD o.2 n x.2).map fun ds => .nx (ρ.set i (.ow (o.1&&x.1.isFr) ds))
section
variable {x:Str}{e j:Expr}{Fe Fj:FE}{i:Nat}{px spos pos:Pos}
end
end
end L2

end
section
set_option Elab.async false
set_option linter.all false
set_option maxRecDepth 100000
set_option maxHeartbeats 1000000
namespace L2
open PySem PySem.Spec PyProof.Rows
section
variable {X:Cx}{tg a b e:Expr}{Fa Fb Fe:FE}{pos:Pos}
end
section
variable {X:Cx}{tg iter:Expr}{body:List Stmt}{Fi:FI}{g:Tg}{F:FS}{pos:Pos}
end
section
variable {P:Program}{w:World}{K:PySem.W.Frag}{mg:Str→Option Value}{base:Heap}
theorem Fun.dat{x qual:Str}{st:Stmt}{f:Addr}{fd:FuncData}{N ps:List Str}{k np nn:Nat}{fr:Bool}{F:FS}(Fu:Fun K x qual st f fd)(S:FnScope N ps (f8 st))(hp:np=ps.length)(hn:nn=N.length)
  (body:∀(cdv:Value) (A:Around) (outer:List Env) (s:Shared) (H:Hp) (E:XK),Room k (A.deeper (envOfC qual (f8 st) s.heap.objs.size f cdv)) →
   PFSs (cxOf CX0 P w K mg base N qual (f8 st) f cdv A outer s H E).nox (j9 st) F):FnOk P w K mg base CX0 (k+1) f fd ps (spc K fr (cOf np nn fr F)):=by
 subst hp hn
 exact Fun.data Fu S body
end
theorem p_cal{X:Cx}{e:Expr}{es:List Expr}{pos:Pos}{Fs:FA}{fr:Bool}{k k':Nat}{f:Addr}{fd:FuncData}{ps:List Str}{ct:FC}{x:Str}{st:Stmt}{p:Pos}(F:FnOk X.prog X.w X.K X.mg X.base CX0 k f fd ps (spc X.K fr ct))(D:Df X.K X.mg x st ps f fd)(hr:Room k' X.A)(hg:Gl X x)
  (ha:PFA X (e::es) Fs) (hle:k≤k':=by decide) (hdb:(x==("__debug__" : Str))=false:=by decide) (hst:starEach (e::es) X.env=(false,eval e X.env)::starEach es X.env:=by rfl) (hpl:(backTo pos (starEach es X.env)).any (·.1)=false:=by rfl):PF X (.Call (.Name x p) (e::es) [] pos) (j7 fr ct Fs) :=
 p_call F (hr.mono hle) hg D.mg D.fn.kp D.bd ha hdb hst hpl
def Dh(K:PySem.W.Frag)(x:Str)(st:Stmt)(f:Addr):Prop:=∃(oc kV doc pm cdv ct:Value) (od an:Option Addr) (osl:Array (Option Value)),PySem.W.nsIn K mainGlobals x=some (some (.ref f))∧K.lookup f=some ⟨oc,od,.func (PySem.W.fnOf x x (u4 st) (j9 st) (f8 st) .none kV doc pm an cdv ct),osl⟩∧PySem.W.codeIn K cdv x=true∧PySem.W.keepIn K (.ref f)=true
theorem dh{K:PySem.W.Frag}{x:Str}{st:Stmt}{f:Addr}{oc kV doc pm cdv ct:Value}{od an:Option Addr}{osl:Array (Option Value)}(e:PySem.W.nsIn K mainGlobals x=some (some (.ref f)))(l:K.lookup f=some ⟨oc,od,.func (PySem.W.fnOf x x (u4 st) (j9 st) (f8 st) .none kV doc pm an cdv ct),osl⟩)(c:PySem.W.codeIn K cdv x=true)(k:PySem.W.keepIn K (.ref f)=true):Dh K x st f:=⟨_,_,_,_,_,_,_,_,_,e,l,c,k⟩
theorem Dh.df{K:PySem.W.Frag}{h:Heap}{mg:Str→Option Value}(X:K.In h)(G:h.Ns mainGlobals mg){x:Str}{st:Stmt}{f:Addr}{ps:List Str}(d:Dh K x st f)
  (hb:∀(kV doc pm:Value) (an:Option Addr) (cdv ct:Value) (us:List Value),us.length=ps.length→bindArgs (PySem.W.fnOf x x (u4 st) (j9 st) (f8 st) .none kV doc pm an cdv ct) ⟨us,[]⟩=pure (ps.zip us)) :
  ∃ fd,Df K mg x st ps f fd∧∀ us:List Value,us.length=ps.length→bindArgs fd ⟨us,[]⟩=pure (ps.zip us):=by
 obtain⟨_,_,_,_,_,_,_,_,_,e,l,c,k⟩:=d
 exact⟨_,df_mk X G e l c k hb,hb _ _ _ _ _ _⟩
theorem scm{N P:List Str}{sc:Scope}(kind:sc.kind = .function:=by rfl)(co:sc.isCoroutine=false:=by rfl)(gen:sc.isGenerator=false:=by rfl)(nd:N.Nodup:=by decide +kernel)(pre:N.take P.length=P:=by rfl)(par:∀ x∈P,sc.names.lookup x=some .local∨sc.names.lookup x=some .cell:=by decide +kernel)(nofree:∀ y∈sc.names,y.2 ≠ .free:=by decide +kernel):FnScope N P sc:=⟨kind,co,gen,nd,pre,par,nofree⟩
end L2

end
section
set_option Elab.async false
set_option linter.all false
set_option maxRecDepth 100000
namespace L2
open PySem PySem.Spec PySem.W PyProof.Rows
abbrev bmVE:List Value:=[.type "ValueError",.type "Exception",.type "BaseException",.type "object"]
structure Xc(K:PySem.W.Frag)(mg:Str→Option Value)(n:Nat)(C:Addr):Prop where
 mg:mg (exN n)=some (.ref C)
 ok:excIn K C bmVE "ValueError.__new__" = true
 ve:kitCls K (.ref C) (.type "ValueError")=some true
theorem KO{K:PySem.W.Frag}{h:Heap}{C:Addr}{bmB:List Value}{newId:String}(kin:K.In h)(e:excIn K C bmB newId=true):∃ bm N nm q bs hdct sn sub ab col dd k0 k1 k2 k3 k5,
   h.get? C=some (excClassObj nm q C N bs bm hdct sn sub ab col dd k0 k1 k2 k3 k5 newId)∧(∃ mN,h.Ns N mN∧mN "__init__" = none)∧OwnTail h bmB bm:=by
 unfold excIn at e
 split at e
 · rename_i dct cd sl q
   split at e
   · rename_i C' bm a0 a1 a2 a3 n a5 q1 q2
     simp only[Bool.and_eq_true,beq_iff_eq,Bool.not_eq_true']at e
     obtain⟨⟨⟨⟨⟨e1,e2⟩,e3⟩,e4⟩,e5⟩,e6⟩:=e
     subst e1 e2
     obtain⟨nm,bs,mro,ns,qn,hd,sn,sub,ab,hdel,col⟩:=cd
     have hs:sl=#[a0,a1,a2,a3,some (.builtin n),a5]:=by
      have:=congrArg List.toArray q2
      simpa using this
     dsimp only at q1 e3 e5 e6
     subst q1 hs
     have z:=kin _ _ q
     refine⟨bm,ns,nm,qn,bs,hd,sn,sub,ab,hdel,dct,a0,a1,a2,a3,a5,?_,⟨_,Heap.Ns.of_isNs (isNs_of_in kin e5),nsMap_none_of_in kin e5 e6⟩,tail_of_in kin e4⟩
     rw[z,e3]
   · cases e
 · cases e
theorem HY{h:Heap}{bmB bm:List Value}{v:Value}(t:OwnTail h bmB bm)(q:bmB.contains v=true):bm.contains v=true:=by
 induction t with
 | base=>exact q
 | own _ _ _ _ ih=>rw[List.contains_cons,ih,Bool.or_true]
theorem HZ{h h':Heap}{N:Addr}{m:Str→Option Value}(x:h.Ns N m)(k:∀ b o,h.get? b=some o→h'.get? b=some o):h'.Ns N m:=by
 obtain⟨o,es,ep,ho,r⟩:=x
 exact⟨o,es,ep,k _ _ ho,r⟩
theorem E7{X:Cx}{sts:List Stmt}:PFSs X sts K4:=fun pins s σ H D I hZ=>hZ.elim fun H₀ hZ=>hZ.elim fun ρ hZ=>hZ.elim fun oc hZ=>hZ.elim fun rb hZ=>hZ.elim fun e k=>by cases e
def C7(n:Nat):FS:=fun _=>some (.ex n)
section
variable {X:Cx}{C:Addr}{n:Nat}{e:Expr}{es:List Expr}{pos:Pos}{Fs:FA}{fr:Bool}{k k':Nat}{f:Addr}{fd:FuncData}{ps:List Str}{x:Str}{st:Stmt}{p:Pos}
theorem X3(n:Nat){t:Str}{j:Nat}{p1 np cpos:Pos}(hc:X.calm=true)(xc:Xc X.K X.mg n C)(hg:Gl X x)(hx:exN n=x:=by rfl)(hdb:(x==("__debug__" : Str))=false:=by decide):
  PFS X (.Raise (some (.Call (.Name x np) [.Constant (.str t) j p1] [] cpos)) none pos) (C7 n):=by
 rintro pins s σ H D I ⟨H₀,ρ,oc,⟨O,rb⟩,e0,k⟩
 cases e0
 obtain⟨E,hE,hp,hr,_⟩:=k C xc.mg
 obtain⟨bm,N,nm,q,bs,hdct,sn,sub,ab,col,dd,k0,k1,k2,k3,k5,g1,⟨mN,g2,g3⟩,g4⟩:=KO I.mod.kin xc.ok
 refine wpAny_Raise_call_subT (nm:=nm) (q:=q) (N:=N) (bs:=bs) (hdct:=hdct) (sn:=sn) (sub:=sub) (ab:=ab) (col:=col) (dd:=dd) (k0:=k0) (k1:=k1) (k2:=k2) (k3:=k3) (k5:=k5) F.excBase_ValueError (HY g4 (by decide)) (I.ok.hd hc) rfl g3 (M0 I hg (by rw[←hx];exact xc.mg) ⟨rfl,?_⟩ hdb)
 refine Calls.evalArgs_plain (thn ((show PFA X [.Constant (.str t) j p1] _ from i9 p_str j3) cpos pins s σ H (fun vs H'=>vs.length=1∧Same H H') I ⟨ρ,_,rb.all,rfl,fun vs H' sm r=>⟨r.length,sm⟩⟩) fun us s1 hZ=>?_)
 obtain⟨vs,H1,I1,r,hl,sm⟩:=hZ
 refine⟨rfl,by show us.length≤_;rw[←r.length,hl];decide,I1.bk _ _ g1,HZ g2 I1.bk,g4.keeps I1.bk,fun h' ea m=>?_⟩
 exact hr pins σ H1 s1 _ ea _ I1 m rfl rfl (hE H1 none (rb.same.trans (j5.trans sm)) (.inl rfl))
abbrev FX:=List Dt→Option (Dt ⊕ Nat)
def spx(K:PySem.W.Frag)(mg:Str→Option Value)(fr:Bool)(c:FX):Sp:=fun vs H Q E=>∃ ds r,Rps K emp ds H vs∧c ds=some r ∧
 match r with
 | .inl d=>∀ v H',Same H H'→Rp K (if fr then H else emp) d H' v→Q v H'
 | .inr n=>∀ C H' o,mg (exN n)=some (.ref C)→Same H H'→(o=none∨wk n=true)→E (.ref C) o H'
theorem passF{P:Program}{w:World}:B5 (CX1 P w) X E0:=by
 rintro pins σ H s e s' I ⟨ea,C,H',c,rfl,os,bare,un,hok,fly,hE⟩
 exact hE.elim
def U0(c:FX)(Fs:FA):FS:=fun ρ=>(Fs ρ).bind fun xs=>(c (sndL xs)).map fun r=>match r with|.inl _ => .nx ρ|.inr n => .ex n
theorem KP{ct:FX}{pos':Pos}(F:FnOk X.prog X.w X.K X.mg X.base (CX1 X.prog X.w) k f fd ps (spx X.K X.mg fr ct))(D:Df X.K X.mg x st ps f fd)(hr:Room k' X.A)(hg:Gl X x)
  (ha:PFA X (e::es) Fs) (hle:k≤k':=by decide) (hdb:(x==("__debug__" : Str))=false:=by decide) (hst:starEach (e::es) X.env=(false,eval e X.env)::starEach es X.env:=by rfl) (hpl:(backTo pos (starEach es X.env)).any (·.1)=false:=by rfl)
  (hs:swapsWith (.Call (.Name x p) (e::es) [] pos) none pos'.line X.env=pure false:=by rfl):PFS X (.Expr (.Call (.Name x p) (e::es) [] pos) pos') (U0 ct Fs):=by
 rintro pins s σ H De I ⟨H₀,ρ,oc,⟨O,rb⟩,e0,k⟩
 obtain⟨xs,e1,e2⟩:=g5 e0
 cases q:ct (sndL xs) with
 | none=>rw[q]at e2;cases e2
 | some r =>
  rw[q]at e2
  cases r with
  | inl d =>
   cases e2
   exact u8 (Q5 (E:=E0) (dvs:=[]) F (hr.mono hle) hg D.mg D.fn.kp D.bd .nil passF ha hdb hst hpl) hs pins s σ H De I ⟨ρ,xs,rb.all,e1,fun vs H1 s1 r1=>by
     dsimp only
     rw[List.append_nil]
     exact⟨_,.inl d,r1.sh,q,fun v H' s' r'=>k σ H' ⟨O,rb.mono (s1.trans s')⟩⟩⟩
  | inr n =>
   cases e2
   have go:∀ E:XK,B5 (CX1 X.prog X.w) X E→(∀ C H' o,X.mg (exN n)=some (.ref C)→Same H H'→(o=none∨wk n=true)→E (.ref C) o H')→wpAny (model X.prog X.w) X.A (exec (.Expr (.Call (.Name x p) (e::es) [] pos) pos') X.env) (SP X pins De) X.xe s:=fun E hp hE =>
     u8 (Q5 (E:=E) (dvs:=[]) F (hr.mono hle) hg D.mg D.fn.kp D.bd .nil hp ha hdb hst hpl) hs pins s σ H De I ⟨ρ,xs,rb.all,e1,fun vs H1 s1 r1=>by
      dsimp only
      rw[List.append_nil]
      exact⟨_,.inr n,r1.sh,q,fun C H' o hC s' ho=>hE C H' o hC (s1.trans s') ho⟩⟩
   by_cases hC:∃ C,X.mg (exN n)=some (.ref C)
   · obtain⟨C,hC⟩:=hC
     obtain⟨E,hE,hp,hr⟩:=k C hC
     refine go E hp fun C' H' o hC' sm ho=>?_
     rw[hC]at hC'
     cases hC'
     exact hE H' o (rb.same.trans (j5.trans sm)) ho
   · exact go E0 passF fun C H' o h=>(hC ⟨C,h⟩).elim
end
def xOf(np n:Nat)(fr:Bool)(F:FS):FX:=fun ds=>if ds.length=np then
 (F (rho0 n ds)).bind fun oc=>match oc with|.rt f d=>if fr&&!(f.isFr||d.flat) then none else some (.inl d)|.nx _=>some (.inl .non)|.ex n=>some (.inr n)|_=>none
 else none
section
variable {P:Program}{w:World}{K:PySem.W.Frag}{mg:Str→Option Value}{base:Heap}
theorem Fun.datX{x qual:Str}{st:Stmt}{f:Addr}{fd:FuncData}{N ps:List Str}{k np nn:Nat}{fr:Bool}{F:FS}(Fu:Fun K x qual st f fd)(S:FnScope N ps (f8 st))(hp:np=ps.length)(hn:nn=N.length)
    (body:∀(cdv:Value) (A:Around) (outer:List Env) (s:Shared) (H:Hp) (E:XK),Room k (A.deeper (envOfC qual (f8 st) s.heap.objs.size f cdv)) →
      PFSs (cx1 P w K mg base N qual (f8 st) f cdv A outer s H E) (j9 st) F):FnOk P w K mg base (CX1 P w) (k+1) f fd ps (spx K mg fr (xOf np nn fr F)):=by
  subst hp hn
  obtain⟨oc,od,kV,doc,pm,an,cdv,ct,osl,rfl,lk,hcd⟩:=Fu.ex
  refine N8 lk hcd S (fun vs H Q E h=>?_) fun A outer s H vs Q E hr h=>?_
  · obtain⟨ds,d,r,e,q⟩:=h
    unfold xOf at e
    split at e
    · rename_i hl
      rw[r.length];exact hl
    · cases e
  · obtain⟨ ds,d,r,e,q⟩:=h
    unfold xOf at e
    split at e
    · rename_i hl
      obtain⟨oc,e1,e2⟩:=g5 e
      refine⟨_,body cdv A outer s H E hr,H,rho0 N.length ds,oc,⟨[],P3 rfl r⟩,e1,?_⟩
      cases oc with
      | nx ρ=>cases e2;exact fun σ H' hZ=>hZ.elim fun O rb=>q _ H' (rb.same.trans j5) (Rp.non_.mpr rfl)
      | bk ρ=>cases e2
      | ct ρ=>cases e2
      | ex n=>cases e2;exact fun C hC=>xok1 fun H' o sm ho=>q C H' o hC sm ho
      | rt f d' =>
        have e2:(if(fr&&!(f.isFr||d'.flat))=true then none else some (Sum.inl d'))=some d:=e2
        split at e2
        · cases e2
        · rename_i hf
          cases e2
          refine fun v H' sm r'=>q v H' sm ?_
          cases fr with
          | false=>exact Rp.anti Same.emp _ r'
          | true =>
            have hf:f.isFr=true∨d'.flat=true:=by
              cases h1:f.isFr<;>cases h2:d'.flat<;>simp[h1,h2]at hf ⊢
            rcases hf with hf|hf
            · rw[hf]at r';exact r'
            · exact Rp.flat d' hf r'
    · cases e
end
end L2

end
section
set_option Elab.async false
set_option linter.all false
set_option maxRecDepth 100000
namespace L2
open PySem PySem.Spec PySem.W PyProof.Rows
abbrev Cx.caught(X:Cx)(ea:Addr):Cx:={ X with A:=X.A.mark (some (.ref ea)),calm:=false,xe:=fun _ _=>False }
section
variable {X:Cx}{pins:List (Addr×Obj)}{σ:St}{H H1 H' H₀:Hp}{s s1:Shared}{ea C M:Addr}{cx:Value}{E:Value→Shared→Prop}
theorem Cx.Ok.caught(ok:X.Ok)(ea:Addr):(X.caught ea).Ok :=
 ⟨ok.mod,ok.kind,ok.glob,ok.blt,ok.above,ok.inj,ok.has,ok.cab,(fun z=>by cases z),ok.frames,ok.stk,ok.exf,ok.bs,ok.bsz,ok.noex,ok.exfs,ok.funs,ok.frf⟩
theorem Cx.Ok.uncaught(ok:(X.caught ea).Ok)(o:X.Ok):X.Ok:=o
theorem Inv.caught(I:Inv X pins σ H s)(ea:Addr):Inv (X.caught ea) pins σ H s:=⟨I.ok.caught ea,I.os,I.bare,I.base,I.loc,I.cell,I.free,I.freeC,I.pin,I.hok,I.len⟩
theorem Inv.uncaught(I:Inv (X.caught ea) pins σ H s)(o:X.Ok):Inv X pins σ H s:=⟨o,I.os,I.bare,I.base,I.loc,I.cell,I.free,I.freeC,I.pin,I.hok,I.len⟩
theorem SP.uncaught{D:Ends}{f:Flow}{s':Shared}(o:X.Ok)(h:SP (X.caught ea) pins D f s'):SP X pins D f s':=by
 cases f with
 | next=>obtain⟨σ',H',I,q⟩:=h;exact⟨σ',H',I.uncaught o,q⟩
 | brk=>obtain⟨σ',H',I,q⟩:=h;exact⟨σ',H',I.uncaught o,q⟩
 | cont=>obtain⟨σ',H',I,q⟩:=h;exact⟨σ',H',I.uncaught o,q⟩
 | ret u=>obtain⟨v,σ',H',I,r,q⟩:=h;exact⟨v,σ',H',I.uncaught o,r,q⟩
theorem RepB.caught{ρ:Rho}(h:RepB X H₀ H ρ σ)(ea:Addr):RepB (X.caught ea) H₀ H ρ σ:=by
 obtain⟨O,h⟩:=h
 exact⟨O,h.ndA,h.ndI,h.own,h.len,h.b0,h.same,h.at_⟩
theorem RepB.uncaught{ρ:Rho}(h:RepB (X.caught ea) H₀ H ρ σ):RepB X H₀ H ρ σ:=by
 obtain⟨O,h⟩:=h
 exact⟨O,h.ndA,h.ndI,h.own,h.len,h.b0,h.same,h.at_⟩
structure At(X:Cx)(pins:List (Addr×Obj))(σ:St)(H1:Hp)(s1:Shared)(H':Hp)(ea C:Addr)(cx:Value)(s:Shared):Prop where
 inv:Inv X pins σ H' s
 fly:Fly s1.heap H' ea C cx s.heap
 un:Un (frs X.stack) [] H1 H' s1.heap s.heap
theorem At.step{a0:Value}{T:Addr}{l':List Env}{h':Heap}(I1:Inv X pins σ H1 s1)(a:At X pins σ H1 s1 H' ea C cx s)(n3:s1.heap.get? T=none)(n4:H' T=none)(f:(hideAll s.heap (ea::T::frs X.stack)).FlyingW l' ea (.ref C) a0 h')(us:s.heap.UpToSlots h')(cc:∀ c,C2 s.heap ea c→C2 h' ea c):
  At X pins σ H1 s1 H' ea C cx { s with heap:=h' }:=by
 obtain⟨f1,f2,f3⟩:=Fly.step a.fly.1 a.fly.2.1 n3 n4 a.inv.stack a.inv.stkFree a.inv.hok a.un f us (fun b hb => .inl hb) (fun b o _=>by simp) (cc cx a.fly.c2)
 exact⟨I1.call' (ch:=[]) (a.inv.os.trans I1.os.symm) f3 f2 a.inv.bare fun b z=>absurd z (by simp),f1,f3⟩
theorem GO{Q:Unit→Shared→Prop}{A2:Around}{E2:Value→Shared→Prop}(I1:Inv X pins σ H1 s1)(a:At X pins σ H1 s1 H' ea C cx s)(hs:X.stack=X.env::X.outer)(hf:X.env.frame=some X.env.locals)
  (h:∀ s',At X pins σ H1 s1 H' ea C cx s'→Q () s'):wpAny (model X.prog X.w) X.A (noteFrame (.ref ea) X.env) (fun _ s₂=>wpAny (model X.prog X.w) A2 (setFlight (.ref ea) none) Q E2 s₂) E s:=by
 obtain⟨T,a0,n3,n4,fl⟩:=a.fly.base a.inv.stack
 have fl':=fl
 rw[hs]at fl'
 refine Ga (by rw[←hs];exact a.inv.ok.frames) hf fl' fun h1 held us cc=>R6 (s:={ s with heap:=h1 }) held.1 held.2.2.1 held.2.1 held.2.2.2 fun h2 fl2 us2 cc2=>h _ ?_
 rw[←hs]at fl2
 exact(show At X pins σ H1 s1 H' ea C cx { s with heap:=h2 }from a.step I1 n3 n4 fl2 (UpToSlots.trans us us2) fun c z=>cc2 c (cc c z))
theorem Aa{Q:Unit→Shared→Prop}{A2:Around}(I1:Inv X pins σ H1 s1)(a:At X pins σ H1 s1 H' ea C cx s)
  (h:∀ s',At X pins σ H1 s1 H' ea C cx s'→Q () s'):wpAny (model X.prog X.w) A2 (setFlight (.ref ea) none) Q E s:=by
 obtain⟨T,a0,n3,n4,fl⟩:=a.fly.base a.inv.stack
 exact R6 fl.1 fl.2.2.1 fl.2.1 fl.2.2.2 fun h2 fl2 us2 cc=>h _ (a.step I1 n3 n4 fl2 us2 cc)
theorem At.looks(a:At X pins σ H1 s1 H' ea C cx s):Looks (model X.prog X.w) s.heap (typeOf (.ref ea)) (.ref C):=by
 obtain⟨_,_,oe,_,_,_,_,_,q1,q2,_⟩:=a.fly
 intro A Q E s' k q
 exact wpAny_typeOf_ref (k _ _ q1) (by rw[q2];exact q)
theorem Ia{Q:Flow→Shared→Prop}{nm:Option Str}{body:List Stmt}{hpos np:Pos}{x:Str}{rest:List ExceptHandler}(I1:Inv X pins σ H1 s1)(a:At X pins σ H1 s1 H' ea C cx s)(hg:Gl X x)(hm:X.mg x=some (.ref M))(hit:exmOne X.K (.ref C) (.ref M)=some true)(hdb:(x==("__debug__" : Str))=false)
  (h:codeAny (model X.prog X.w) (X.A.mark (some (.ref ea))) (.handlers (.ref ea) [.ExceptHandler none nm body hpos] X.env) (fun r s₂=>match r with
   | .ok f=>(match nm with
    | none=>Q f s₂
    | some n=>wpAny (model X.prog X.w) X.A (do
     bindName X.env n Value.none
     unbindBehindTheSuite X.env n hpos) (fun _ s₃=>Q f s₃) E s₂)
   | .error x=>cameBackBy (model X.prog X.w) X.A X.env E x s₂) s) :
  wpAny (model X.prog X.w) X.A (handleBy (.ref ea) X.env (.ExceptHandler (some (.Name x np)) nm body hpos::rest)) Q E s:=by
 refine wpAny_handleBy_cons (codeAny_handlers_test (M0 (X:=X.caught ea) (a.inv.caught ea) hg hm ?_ hdb)) (fun z=>nomatch z)
 exact exm_one a.inv.kIn a.looks hit _ _ _ s (fun b o e=>e) h
end
structure Hit(K:PySem.W.Frag)(mg:Str→Option Value)(hits:Nat→Bool)(x:Str)(M:Addr):Prop where
 gl:mg x=some (.ref M)
 hit:∀ n C,hits n=true→mg (exN n)=some (.ref C)→exmOne K (.ref C) (.ref M)=some true∧kitCls K (.ref C) (.type "ValueError")=some true
theorem Ib{K:PySem.W.Frag}{mg:Str→Option Value}{hits:Nat→Bool}{x:Str}{M:Addr}(a:mg x=some (.ref M))(b:∀ n C,hits n=true→mg (exN n)=some (.ref C)→exmOne K (.ref C) (.ref M)=some true∧kitCls K (.ref C) (.type "ValueError")=some true):Hit K mg hits x M:=⟨a,b⟩
section
variable {X:Cx}{C:Addr}{n:Nat}{e:Expr}{es:List Expr}{pos pos' tpos hpos np:Pos}{Fs:FA}{fr:Bool}{k k':Nat}{f:Addr}{fd:FuncData}{ps:List Str}{x y:Str}{st:Stmt}{p:Pos}{ct:FX}
end
section
variable {X:Cx}{H₀ H:Hp}{O:Own}{ρ:Rho}{σ:St}{pins:List (Addr×Obj)}{s:Shared}{ea:Addr}
end
end L2

end
section
set_option Elab.async false
set_option linter.all false
set_option maxRecDepth 100000
namespace L2
open PySem PySem.Spec PySem.W PyProof.Rows
section
variable {X:Cx}{C:Addr}{n:Nat}{e:Expr}{es:List Expr}{pos pos' tpos hpos np:Pos}{Fs:FA}{fr:Bool}{k k':Nat}{f:Addr}{fd:FuncData}{ps:List Str}{x y z:Str}{st:Stmt}{p:Pos}{ct:FX}
end
end L2

end
section
set_option Elab.async false
set_option linter.all false
set_option maxRecDepth 100000
namespace L2
open PySem PySem.Spec PySem.W PyProof.Rows
abbrev FR:=Rho→Option Nat
section
variable {X:Cx}{e a b:Expr}{es:List Expr}{pos pos' p:Pos}{Fs:FA}{R:FR}{fr:Bool}{k k':Nat}{f:Addr}{fd:FuncData}{ps:List Str}{x:Str}{st:Stmt}{ct:FX}
end
end L2

end
section
set_option Elab.async false
set_option linter.all false
set_option maxRecDepth 100000
namespace L2
open PySem PySem.Spec PyProof.Rows
section
variable {X:Cx}{x y:Str}{j j2:Expr}{Fj Fk:FE}{i iy:Nat}{px px2 spos spos2 pos pos':Pos}
end
end L2

end
section
set_option Elab.async false
set_option linter.all false
set_option maxRecDepth 100000
namespace L2
open PySem PySem.Spec PyProof.Rows
theorem asn{X:Cx}{e:Expr}{Fe:FE}{pos pos':Pos}{x:Str}(i:Nat)(he:PF X e Fe)(hN:X.N.Nodup)(hi:X.N[i]?=some x:=by rfl)(hx:Loc X.env.scope x:=by exact Or.inl rfl)(hs:swapsWith e (some (.Name x pos')) pos.line X.env=pure false:=by rfl)(hf:X.fn x=true∨X.env.scope.names.lookup x=some .local:=by exact Or.inl rfl):PFS X (.Assign [.Name x pos'] e pos) (sSet [] i Fe):=s_set (rels:=[]) (HW he hN hi hx hs hf)
section
variable {X:Cx}{e:Expr}{es:List Expr}{pos p:Pos}{Fs:FA}{r:FB}{x:Str}
theorem p_bu{id:String}(hc:R4 X (.builtin id) r)(hm:X.mg x=none)(ha:PFA X (e::es) Fs)(hg:Gl X x:=by rfl)(hv:bootBuiltins x=some (.builtin id):=by decide +kernel)(hn:x ≠ "__name__" := by decide)(hdb:(x==("__debug__" : Str))=false:=by decide)(hst:starEach (e::es) X.env=(false,eval e X.env)::starEach es X.env:=by rfl)(hpl:(backTo pos (starEach es X.env)).any (·.1)=false:=by rfl):
 PF X (.Call (.Name x p) (e::es) [] pos) (fBlt r Fs):=KI hc hg hm hv ha hn hdb hst hpl
theorem p_ty{T:String}(hc:R4 X (.type T) r)(hm:X.mg x=none)(ha:PFA X (e::es) Fs)(hg:Gl X x:=by rfl)(hv:bootBuiltins x=some (.type T):=by decide +kernel)(hn:x ≠ "__name__" := by decide)(hdb:(x==("__debug__" : Str))=false:=by decide)(hst:starEach (e::es) X.env=(false,eval e X.env)::starEach es X.env:=by rfl)(hpl:(backTo pos (starEach es X.env)).any (·.1)=false:=by rfl):
 PF X (.Call (.Name x p) (e::es) [] pos) (fBlt r Fs):=HL hc hg hm hv ha hn hdb hst hpl
theorem p_ca{fr:Bool}{k k':Nat}{f:Addr}{fd:FuncData}{ps:List Str}{ct:FC}{st:Stmt}(F:FnOk X.prog X.w X.K X.mg X.base CX0 k f fd ps (spc X.K fr ct))(D:Df X.K X.mg x st ps f fd)(hr:Room k' X.A)
  (ha:PFA X (e::es) Fs) (hg:Gl X x:=by rfl) (hle:k≤k':=by decide) (hdb:(x==("__debug__" : Str))=false:=by decide) (hst:starEach (e::es) X.env=(false,eval e X.env)::starEach es X.env:=by rfl) (hpl:(backTo pos (starEach es X.env)).any (·.1)=false:=by rfl):PF X (.Call (.Name x p) (e::es) [] pos) (j7 fr ct Fs) :=
 p_cal F D hr hg ha hle hdb hst hpl
end
section
variable {X:Cx}{a b:Expr}{Fa Fb:FE}{pos:Pos}{op:CmpOp}{r:FO}
theorem p_cm(ho:OpF X (compareOp op) r)(ha:PF X a Fa)(hb:PF X b Fb)(h:op ≠ .In:=by decide)(h2:op ≠ .NotIn:=by decide):PF X (.Compare a [op] [b] pos) (fOp r Fa Fb):=p_cmp ho ha hb (Hg _ h h2)
theorem t_cm(ho:OpF X (compareOp op) r)(ha:PF X a Fa)(hb:PF X b Fb)(h:op ≠ .In:=by decide)(h2:op ≠ .NotIn:=by decide):PFT X (.Compare a [op] [b] pos) (m4 (fOp r Fa Fb)):=t_cmp ho ha hb (Hg _ h h2)
end
section
variable {X:Cx}{scope:Scope}{x:Str}{tp pos:Pos}{elt iter:Expr}{Fi:FI}{Fe:FE}
theorem p_co(N:List Str)(nt:Nat)(js:List Nat)(XN:List Str)(xs:List (Str×NameKind))(hi:PFI X (.Name x tp) iter Fi)(he:∀ cl C fp s H,PF (r8 X N scope cl C fp s H) elt Fe)
  (h1:X.N=XN:=by rfl) (h2:X.env.scope.names=xs:=by rfl) (hk:scope.kind = .function:=by rfl) (c:Dz XN xs scope N nt js=true:=by decide +kernel) (hc:X.calm=true:=by rfl) (nd:N.Nodup:=by decide +kernel) (h0:N[0]?=some x:=by rfl) (hl:∀ cl C fp s H,(r8 X N scope cl C fp s H).env.scope.names.lookup x=some .local:=by intro _ _ _ _ _;rfl) (hb:0<nt:=by decide) (hj:∀ j∈js,j<XN.length:=by decide)
  (hs:∀ x,foldedSetIterable iter X.env x=pure x:=by intro _;rfl):PF X (.ListComp elt [⟨.Name x tp,iter,[],0⟩] scope pos) (A6 nt js Fi (Tg.one 0) fYes Fe) :=
 p_comp (DA XN xs h1 h2 hk c) hc hi (fun cl C fp s H=>g_one nd h0 (Or.inl (hl cl C fp s H)) (Or.inr (hl cl C fp s H))) hb (fun _ _ _ _ _=>ts_nil) he (fun j hj'=>by rw[h1];exact hj j hj') hs
end
theorem p_i{X:Cx}{a b:Expr}{Fa Fb:FE}{pos:Pos}(ha:PF X a Fa)(hb:PF X b Fb)(hs:BC b:=by exact fun _ _=>rfl):PF X (.Subscript a b pos) (fAt Fa Fb):=p_ix ha hb hs
theorem Df.d{P:Program}{w:World}{K:PySem.W.Frag}{mg:Str→Option Value}{base:Heap}{x:Str}{st:Stmt}{f:Addr}{fd:FuncData}{N ps:List Str}{np nn:Nat}{fr:Bool}(D:Df K mg x st ps f fd)(k:Nat)(F:FS)(S:FnScope N ps (f8 st))
 (body:∀(cdv:Value) (A:Around) (outer:List Env) (s:Shared) (H:Hp) (E:XK),Room k (A.deeper (envOfC x (f8 st) s.heap.objs.size f cdv))→(A.deeper (envOfC x (f8 st) s.heap.objs.size f cdv)).units+64<cLine →
  PFSs (cxOf CX0 P w K mg base N x (f8 st) f cdv A outer s H E).nox (j9 st) F) (hp:np=ps.length:=by rfl) (hn:nn=N.length:=by rfl):FnOk P w K mg base CX0 (k+1) f fd ps (spc K fr (cOf np nn fr F)):=Fun.dat D.fn S hp hn fun cdv A outer s H E hr=>body cdv A outer s H E hr hr.units
theorem q_n{X:Cx}{x:Str}{pos:Pos}{es:List Expr}{Fs:FA}(i:Nat)(hr:PFA X es Fs)(hN:X.N[i]?=some x:=by rfl)(hv:Vis X.env.scope x:=by first|exact Or.inl rfl|exact Or.inr (Or.inl rfl)|exact Or.inr (Or.inr rfl))(hd:(x==("__debug__" : Str))=false:=by decide)(hcd:(x==("__classdict__" : Str))=false:=by decide)(hs:starEach (.Name x pos::es) X.env=(false,eval (.Name x pos) X.env)::starEach es X.env:=by rfl):PFA X (.Name x pos::es) (f9 (fN i) Fs):=i9 (g9 i hN hv hd hcd) hr hs
end L2

end
section
set_option Elab.async false
set_option linter.all false
set_option maxRecDepth 100000
namespace L2
open PySem PySem.Spec PyProof.Rows
end L2

end
section
local macro_rules|`(tactic| omega)=>`(tactic| first|lia|omega +splitDisjunctions)
set_option Elab.async false
set_option linter.all false
set_option maxRecDepth 100000
set_option maxHeartbeats 2000000
namespace L2
open PySem PySem.Spec PyProof.Rows
section
variable {α β:Type}
def insK(p:Int×α):List (Int×α)→List (Int×α)
 | []=>[p]
 | q::qs=>if p.1≤q.1 then p::q::qs else q::insK p qs
def Ic:List (Int×α)→List (Int×α)
 | []=>[]
 | p::ps=>insK p (Ic ps)
end
section
variable {X:Cx}{pins:List (Addr×Obj)}{σ:St}{H:Hp}{s:Shared}
end
def DB(c:FC):List Dt→Option (List Int)
 | []=>some []
 | d::ds=>(c [d]).bind fun r=>(intD r).bind fun i=>(DB c ds).map (i::·)
section
variable {X:Cx}{pins:List (Addr×Obj)}{σ:St}{H:Hp}{s:Shared}{k:Nat}{f:Addr}{fd:FuncData}{p:Str}{fr:Bool}{ct:FC}{l:Addr}{vs:List V}{ds:List Dt}{ks:List Int}{Q:VK}
end
section
variable {X:Cx}{a:Expr}{Fa:FE}{k:Nat}{f:Addr}{fd:FuncData}{prm:Str}{fr:Bool}{ct:FC}{x:Str}{p pos kp kpos:Pos}
def fSortK(c:FC)(F:FE):FE:=fun ρ=>(F ρ).bind fun x=>(lstD x.2).bind fun ds=>(DB c ds).bind fun ks=>if ds.length<64∧ks.Nodup then some (newL ((Ic (ks.zip ds)).map (·.2))) else none
end
end L2

end
section
set_option linter.all false
set_option maxRecDepth 100000
namespace L2
open PySem
abbrev L(ns:List Int):Dt := .lst (ns.map .int)
abbrev T(ns:List Int):Dt := .tup (ns.map .int)
theorem n8{α β:Type}{a:α}{f:α→Option β}:(some a).bind f=f a:=rfl
theorem Ge{α:Type}{xs:List α}{i:Int}(h0:0≤i):atI xs i=xs[i.toNat]?:=by
 unfold atI ixN
 rw[if_pos h0]
 by_cases h:i<xs.length
 · rw[if_pos h];rfl
 · rw[if_neg h,List.getElem?_eq_none (by omega)];rfl
theorem atI_c0{α:Type}{x:α}{xs:List α}:atI (x::xs) 0=some x:=BB (j:=0) rfl
theorem atI_c1{α:Type}{x y:α}{xs:List α}:atI (x::y::xs) 1=some y:=BB (j:=1) rfl
theorem atI_c2{α:Type}{x y z:α}{xs:List α}:atI (x::y::z::xs) 2=some z:=BB (j:=2) rfl
theorem p8:∀ ns:List Int,n9 (ns.map Dt.int)=true
 | []=>rfl
 | n::ns=>by rw[List.map_cons,n9,p8 ns];rfl
theorem U1:∀(k:Nat) (ns:List Int),oksN k (ns.map Dt.int)=true
 | k,[]=>by cases k<;>rfl
 | k,n::ns=>by rw[List.map_cons,oksN,U1 k ns];cases k<;>rfl
theorem Ab:∀ ns:List Int,pys (ns.map Dt.int)=ns.map PyData.int
 | []=>rfl
 | n::ns=>by rw[List.map_cons,pys,Ab ns];rfl
theorem K5:∀ ns ms:List Int,PyData.eqvAll (ns.map PyData.int) (ms.map PyData.int)=decide (ns=ms)
 | [],[]=>by simp[PyData.eqvAll]
 | [],m::ms=>by simp[PyData.eqvAll]
 | n::ns,[]=>by simp[PyData.eqvAll]
 | n::ns,m::ms=>by
  rw[List.map_cons,List.map_cons,PyData.eqvAll,K5 ns ms,PyData.eqv,Bool.eq_iff_iff]
  simp
theorem KQ(ns:List Int):(Dt.scr ns).okN 8=true:=by simp[Dt.okN]
theorem Cz(ns ms:List Int):opEq (.scr ns) (L ms)=some (.nw,.bl (decide (ns=ms))):=by
 unfold opEq
 rw[KQ]
 unfold L
 rw[Dt.okN,U1]
 unfold eqD
 rw[Dt.py,Dt.py,Ab,PyData.eqv,K5]
 rfl
theorem p7(i j:Int):opEq (.int i) (.int j)=some (.nw,.bl (decide (i=j))):=by
 unfold opEq eqD
 rw[Dt.py,Dt.py,PyData.eqv,Bool.beq_eq_decide_eq]
 rfl
theorem R9(i j:Int):opNe (.int i) (.int j)=some (.nw,.bl (!decide (i=j))):=by
 unfold opNe eqD
 rw[Dt.py,Dt.py,PyData.eqv,Bool.beq_eq_decide_eq]
 rfl
theorem V8{i j:Int}(h:j.natAbs<2 ^ 64):Z0 i j=true:=by unfold Z0;rw[decide_eq_true h];simp
section
variable (i j:Int)
end
def P4(ns:List Int)(k:Int):Int:=if k<ns.length then ns.getD k.toNat 0 else if ns=[] then 0 else ns.getD (k.fmod ns.length).toNat 0*31+k
end L2

end
section
set_option linter.all false
set_option maxRecDepth 100000
namespace L2
open PySem
section
variable {α β γ:Type}{g:Tg}{Fc:FT}{Fe:FE}{ρ0:Rho}
theorem Bb(e:α→Dt)(h:α→Dv):∀(xs:List α),(∀ x∈xs,(g.put (e x) ρ0).bind Fe=some (h x))→R5 g fYes Fe ρ0 (xs.map e)=some (xs.map h)
 | [],_=>rfl
 | x::xs,q=>by
  have q1:=q x List.mem_cons_self
  have ih:=Bb e h xs fun y hy=>q y (List.mem_cons_of_mem _ hy)
  rw[List.map_cons,R5]
  cases p:g.put (e x) ρ0 with
  | none=>rw[p]at q1;cases q1
  | some ρ1 =>
   rw[p]at q1
   have q1:Fe ρ1=some (h x):=q1
   simp[fYes,q1,ih]
theorem CA(h:α→Dv):∀ xs:List α,sndL (xs.map h)=xs.map fun x=>(h x).2
 | []=>rfl
 | x::xs=>by rw[List.map_cons,sndL,CA h xs];rfl
theorem Bc{h:α→Dv}:∀{xs:List α},(∀ x∈xs,(h x).1.isFr=true)→C5 (xs.map h)=true
 | [],_=>rfl
 | x::xs,q=>by rw[List.map_cons,C5,q x List.mem_cons_self,Bc fun y hy=>q y (List.mem_cons_of_mem _ hy)];rfl
theorem z9{nt:Nat}{js:List Nat}{Fi:FI}{ρ:Rho}{e:α→Dt}{h:α→Dt}{xs:List α}(hi:Fi ρ=some (xs.map e))(q:∀ x∈xs,(g.put (e x) (sigD nt js ρ)).bind Fe=some (.nw,h x)):A6 nt js Fi g fYes Fe ρ=some (.nw,.lst (xs.map h)):=by
 unfold A6
 rw[hi,n8,Bb e (fun x=>(.nw,h x)) xs q,n8,Bc (fun x _=>rfl),CA]
 rfl
variable {F:FS}
def nextO(G:FS):Oc→Option Oc
 | .nx ρ=>G ρ
 | .ct ρ=>G ρ
 | .bk ρ=>some (.nx ρ)
 | .rt f d=>some (.rt f d)
 | .ex C=>some (.ex C)
theorem GP{x:Dt}{xs:List Dt}{ρ:Rho}:forF g F (x::xs) ρ=((g.put x ρ).bind F).bind (nextO (forF g F xs)):=by
 rw[forF]
 cases g.put x ρ with
 | none=>rfl
 | some ρ1 =>
  show(F ρ1).bind _=(F ρ1).bind _
  congr 1
  first|done|(funext oc;cases oc<;>rfl)
theorem Bd(e:α→Dt)(R:β→γ→Rho)(step:β→α→β):∀(xs:List α) (b:β) (j:γ),(∀ b x j,x∈xs→∃ j',(g.put (e x) (R b j)).bind F=some (.nx (R (step b x) j')))→∃ j',forF g F (xs.map e) (R b j)=some (.nx (R (xs.foldl step b) j'))
 | [],b,j,_=>⟨j,rfl⟩
 | x::xs,b,j,h=>by
  obtain⟨j1,h1⟩:=h b x j List.mem_cons_self
  obtain⟨j2,h2⟩:=Bd e R step xs (step b x) j1 fun b y j hy=>h b y j (List.mem_cons_of_mem _ hy)
  refine⟨j2,?_⟩
  rw[List.map_cons,GP,h1]
  exact h2
end
abbrev LL(rows:List (List Int)):Dt := .lst (rows.map L)
abbrev TTu(rows:List (List Int)):Dt := .tup (rows.map T)
abbrev z0(k:Int)(bills:List (List Int)):Dt := .tup [.int k,TTu bills]
theorem flat_T(ns:List Int):(T ns).flat=true:=by show n9 _=true;exact p8 ns
theorem U2:∀ rows:List (List Int),n9 (rows.map T)=true
 | []=>rfl
 | r::rows=>by rw[List.map_cons,n9,flat_T,U2 rows];rfl
theorem Ie(ns:List Int):lfl (ns.map .int) = .nw:=by unfold lfl;rw[p8];rfl
theorem M7(ns:List Int):newL (ns.map .int)=(.nw,L ns):=by unfold newL;rw[Ie]
theorem M8{α:Type}(h:α→Bool):∀ xs:List α,V4 (xs.map fun x => .bl (h x))=some (xs.map h)
 | []=>rfl
 | x::xs=>by rw[List.map_cons,V4,M8 h xs];rfl
theorem DC(lo:Int)(n:Nat):K3 lo n=(List.range n).map fun(k:Nat) => .int (lo+(k:Int)):=rfl
theorem DD(c:Int){m:Int}(h:0<m):0≤c.fmod m∧c.fmod m<m:=⟨Int.fmod_nonneg_of_pos c h,Int.fmod_lt_of_pos c h⟩
def Be(c m:Int):Int :=
 if m=2 then(if((c.fdiv (10 ^ 30)).fmod 2)=1 then -(c.fmod (10 ^ 30)) else c.fmod (10 ^ 30))
 else
  let wide:Int:=if m=0 then 9 else 61
  let n:=c.fmod wide
  if wide.fdiv 2<n then n-wide else n
theorem Ig(c m:Int):(Be c m).natAbs<10 ^ 30:=by
 unfold Be
 have a1:=Int.fmod_nonneg_of_pos c (show(0:Int)<10 ^ 30 by decide)
 have a2:=Int.fmod_lt_of_pos c (show(0:Int)<10 ^ 30 by decide)
 dsimp only
 split
 · split<;>omega
 · have hw:(if m=0 then(9:Int) else 61)=9∨(if m=0 then(9:Int) else 61)=61:=by split<;>simp
   generalize (if m=0 then(9:Int) else 61)=wide at *
   have b1:=Int.fmod_nonneg_of_pos c (show(0:Int)<wide by omega)
   have b2:=Int.fmod_lt_of_pos c (show(0:Int)<wide by omega)
   split<;>omega
def V9(ns:List Int)(at_:Int)(n:Nat)(m:Int):List Int:=(List.range n).map fun(k:Nat)=>Be (P4 ns (at_+(k:Int))) m
theorem GQ(ns:List Int)(a:Int)(n:Nat)(m:Int):(V9 ns a n m).length=n:=by unfold V9;simp
end L2

end
section
local macro_rules|`(tactic| omega)=>`(tactic| first|lia|omega +splitDisjunctions)
set_option linter.all false
set_option maxRecDepth 100000
namespace L2
open PySem
def isWh:Dt→Bool
 | .int _=>true
 | _=>false
def Wide(n:Nat)(rows:List (List Int)):Prop:=∀ r∈rows,r.length=n
theorem BR(d:Dt):nrm .nw d=(.nw,d):=by unfold nrm;split<;>rfl
theorem run{F G:FS}{ρ ρ':Rho}{r:Option Oc}(h:F ρ=some (.nx ρ'))(k:G ρ'=r):sSeq F G ρ=r:=by
 unfold sSeq
 rw[h]
 exact k
theorem M9{np n:Nat}{fr:Bool}{F:FS}{ds:List Dt}{f:Fl}{d:Dt}(hl:ds.length=np)(h:F (rho0 n ds)=some (.rt f d))(hf:(f.isFr||d.flat)=true):cOf np n fr F ds=some d:=by
 unfold cOf
 rw[if_pos hl,h]
 show(if(fr&&!(f.isFr||d.flat))=true then none else some d)=some d
 rw[hf]
 cases fr<;>rfl
theorem rng_ok{n:Nat}(h:n≤1000000):V5 (n:Int)=true:=by
 unfold V5
 rw[decide_eq_true (show -1000000≤(n:Int) by omega),decide_eq_true (show(n:Int)≤1000000 by omega)]
 rfl
end L2

end
section
set_option linter.all false
set_option maxRecDepth 100000
namespace L2
open PySem
@[simp] theorem x0:∀(n:Nat) (ds:List Dt),rho0 n ds=List.map (Cell.sh false) ds++List.replicate (n-List.length ds) Cell.no:=by intros;rfl
@[simp] theorem x1:∀(F G:FS) (ρ:Rho),sSeq F G ρ=Option.bind (F ρ) (seqO G):=by intros;rfl
@[simp] theorem x2:∀(G:FS) (ρ:Rho),seqO G (Oc.nx ρ)=G ρ:=by intros;rfl
@[simp] theorem x3:∀(G:FS) (x:Oc),(∀(ρ:Rho),x=Oc.nx ρ→False)→seqO G x=some x:=by exact @L2.seqO.eq_2
@[simp] theorem x4:∀(c:FT) (F G:FS) (ρ:Rho),sIf c F G ρ=Option.bind (c ρ) fun b=>if b=true then F ρ else G ρ:=by intros;rfl
@[simp] theorem x5:∀(F:FE) (ρ:Rho),m4 F ρ=Option.bind (F ρ) fun x=>blD (Prod.snd x):=by intros;rfl
@[simp] theorem x6:∀(r:FO) (Fa Fb:FE) (ρ:Rho),
 fOp r Fa Fb ρ=Option.bind (Fa ρ) fun x=>Option.bind (Fb ρ) fun y=>r (Prod.snd x) (Prod.snd y):=by intros;rfl
@[simp] theorem x7:∀(i:Nat) (ρ:Rho),fN i ρ=Y9 ρ i:=by intros;rfl
@[simp] theorem x8:∀(ρ:Rho) (i:Nat),Y9 ρ i=Option.bind ρ[i]? Cell.val:=by intros;rfl
@[simp] theorem x9:Cell.val Cell.no=none:=by intros;rfl
@[simp] theorem x10:∀(f:Bool) (d:Dt),Cell.val (Cell.sh f d)=some (nrm (flOf f) d):=by intros;rfl
@[simp] theorem x11:∀(f:Bool) (ds:List Dt),Cell.val (Cell.ow f ds)=some (flOf f,Dt.lst ds):=by intros;rfl
@[simp] theorem x12:∀(f:Bool),flOf f=if f=true then Fl.fr else Fl.sh:=by intros;rfl
@[simp] theorem x13:∀(r:FB) (Fs:FA) (ρ:Rho),fBlt r Fs ρ=Option.bind (Fs ρ) fun xs=>r (sndL xs):=by intros;rfl
@[simp] theorem x14:∀(Fa:FE) (Fs:FA) (ρ:Rho),f9 Fa Fs ρ=Option.bind (Fa ρ) fun x=>Option.bind (Fs ρ) fun xs=>some (x::xs):=by intros;rfl
@[simp] theorem x15:∀(x:Rho),fNil x=some []:=by intros;rfl
@[simp] theorem x16:sndL []=[]:=by intros;rfl
@[simp] theorem x17:∀(x_1:Dv) (xs:List Dv),sndL (x_1::xs)=Prod.snd x_1::sndL xs:=by intros;rfl
@[simp] theorem x18:∀(xs:List Dt),bLen [Dt.lst xs]=some (Fl.nw,Dt.int ↑(List.length xs)):=by intros;rfl
@[simp] theorem x19:∀(xs:List Dt),bLen [Dt.tup xs]=some (Fl.nw,Dt.int ↑(List.length xs)):=by intros;rfl
@[simp] theorem x20:∀(xs:List Int),bLen [Dt.scr xs]=some (Fl.nw,Dt.int ↑(List.length xs)):=by intros;rfl
@[simp] theorem x22:∀(b:Bool),blD (Dt.bl b)=some b:=by intros;rfl
@[simp] theorem x24:truD Dt.non=some false:=by intros;rfl
@[simp] theorem x25:∀(b:Bool),truD (Dt.bl b)=some b:=by intros;rfl
@[simp] theorem x26:∀(i:Int),truD (Dt.int i)=some (i != 0):=by intros;rfl
@[simp] theorem x27:∀(ds:List Dt),truD (Dt.lst ds)=some !List.isEmpty ds:=by intros;rfl
@[simp] theorem x28:∀(ds:List Dt),truD (Dt.tup ds)=some !List.isEmpty ds:=by intros;rfl
@[simp] theorem x30:∀(F:FE) (ρ:Rho),sRet F ρ=Option.map (fun x=>Oc.rt (Prod.fst x) (Prod.snd x)) (F ρ):=by intros;rfl
@[simp] theorem x31:∀(ρ:Rho),A7 ρ=some (Oc.nx ρ):=by intros;rfl
@[simp] theorem x32:∀(Fa Fb:FE) (ρ:Rho),fAt Fa Fb ρ=Option.bind (Fa ρ) fun x=>Option.bind (Fb ρ) fun y=>opAt x y:=by intros;rfl
@[simp] theorem x33:∀(x y:Dv),
 opAt x y =
  match Prod.snd x,Prod.snd y with
  | Dt.lst ds,Dt.int i=>Option.map (nrm (Fl.item (Prod.fst x))) (atI ds i)
  | Dt.tup ds,Dt.int i=>Option.map (nrm (Fl.item (Prod.fst x))) (atI ds i)
  | Dt.scr ns,Dt.int i=>Option.map (fun n=>(Fl.nw,Dt.int n)) (atI ns i)
  | x,x_1=>none:=by intros;rfl
@[simp] theorem x34:∀(Fs:FA) (ρ:Rho),
 fLst Fs ρ =
  Option.bind (Fs ρ) fun xs =>
   if List.length xs≤1000 then some (if J5 xs=true then Fl.nw else Fl.tn,Dt.lst (sndL xs)) else none:=by intros;rfl
@[simp] theorem x35:∀(Fs:FA) (ρ:Rho),
 fTup Fs ρ =
  Option.bind (Fs ρ) fun xs =>
   if List.length xs≤1000 then
    some (if J5 xs=true then Fl.nw else if C5 xs=true then Fl.fr else Fl.sh,Dt.tup (sndL xs))
   else none:=by intros;rfl
@[simp] theorem x36:Fl.item Fl.tn=Fl.sh:=by intros;rfl
@[simp] theorem x37:∀(x:Fl),(x=Fl.tn→False)→Fl.item x=x:=by exact @L2.Fl.item.eq_2
@[simp] theorem x38:∀(d:Dt) (x:Rho),fC d x=some (Fl.nw,d):=by intros;rfl
@[simp] theorem x39:∀(F:FE) (ρ:Rho),fTru F ρ=Option.bind (F ρ) fun x=>truD (Prod.snd x):=by intros;rfl
@[simp] theorem x40:∀(F:FT) (ρ:Rho),fNot F ρ=Option.map not (F ρ):=by intros;rfl
@[simp] theorem x41:∀(F G:FT) (ρ:Rho),fAnd F G ρ=Option.bind (F ρ) fun b=>if b=true then G ρ else some false:=by intros;rfl
@[simp] theorem x42:∀(F G:FT) (ρ:Rho),fOr F G ρ=Option.bind (F ρ) fun b=>if b=true then some true else G ρ:=by intros;rfl
@[simp] theorem x43:∀(F G:FE) (ρ:Rho),
 vAnd F G ρ=Option.bind (m4 F ρ) fun b=>if b=true then G ρ else some (Fl.nw,Dt.bl false):=by intros;rfl
@[simp] theorem x44:∀(F G:FE) (ρ:Rho),vOr F G ρ=Option.bind (m4 F ρ) fun b=>if b=true then some (Fl.nw,Dt.bl true) else G ρ:=by intros;rfl
@[simp] theorem x45:∀(F:FE) (ρ:Rho),vNot F ρ=Option.map (fun b=>(Fl.nw,Dt.bl !b)) (m4 F ρ):=by intros;rfl
@[simp] theorem x46:∀(F:FE) (ρ:Rho),
 fNeg F ρ =
  Option.bind (F ρ) fun x =>
   match Prod.snd x with
   | Dt.int i=>some (Fl.nw,Dt.int (-i))
   | x=>none:=by intros;rfl
@[simp] theorem x47:∀(F:FT) (Fa Fb:FE) (ρ:Rho),fIf F Fa Fb ρ=Option.bind (F ρ) fun b=>if b=true then Fa ρ else Fb ρ:=by intros;rfl
@[simp] theorem x48:∀(T:String) (F:FE) (ρ:Rho),fIsi T F ρ=Option.map (fun x=>(Fl.nw,Dt.bl (AW (tyN (Prod.snd x)) T))) (F ρ):=by intros;rfl
@[simp] theorem x49:∀(t T:String),AW t T=(t==T||t == "bool" && T == "int"):=by intros;rfl
@[simp] theorem x50:tyN Dt.non = "NoneType" := by intros;rfl
@[simp] theorem x51:∀(b:Bool),tyN (Dt.bl b) = "bool" := by intros;rfl
@[simp] theorem x52:∀(i:Int),tyN (Dt.int i) = "int" := by intros;rfl
@[simp] theorem x53:∀(x_1:PySem.Str),tyN (Dt.str x_1) = "str" := by intros;rfl
@[simp] theorem x54:∀(xs:List Dt),tyN (Dt.lst xs) = "list" := by intros;rfl
@[simp] theorem x55:∀(ns:List Int),tyN (Dt.scr ns) = "list" := by intros;rfl
@[simp] theorem x56:∀(xs:List Dt),tyN (Dt.tup xs) = "tuple" := by intros;rfl
@[simp] theorem x57:∀(rels:List Nat) (i:Nat) (F:FE) (ρ:Rho),
 sSet rels i F ρ =
  Option.map (fun x=>Oc.nx (List.set (relS rels ρ) i (Cell.sh (Fl.isFr (Prod.fst x)) (Prod.snd x))))
   (F (v8 (relS rels ρ))):=by intros;rfl
@[simp] theorem x58:∀(x:Rho),relS [] x=x:=by intros;rfl
@[simp] theorem x59:∀(x:Rho) (i:Nat) (is:List Nat),relS (i::is) x=relS is (Ba x i):=by intros;rfl
@[simp] theorem x60:v8 []=[]:=by intros;rfl
@[simp] theorem x61:∀(c:Cell) (ρ:List Cell),v8 (c::ρ)=AY c::v8 ρ:=by intros;rfl
@[simp] theorem x62:∀(f:Bool) (ds:List Dt),AY (Cell.ow f ds)=Cell.no:=by intros;rfl
@[simp] theorem x63:∀(x:Cell),(∀(f:Bool) (ds:List Dt),x=Cell.ow f ds→False)→AY x=x:=by exact @L2.AY.eq_2
@[simp] theorem x64:∀(fr:Bool) (c:FC) (Fs:FA) (ρ:Rho),
 j7 fr c Fs ρ=Option.bind (Fs ρ) fun xs=>Option.map (nrm (if fr=true then Fl.nw else Fl.sh)) (c (sndL xs)):=by intros;rfl
@[simp] theorem x65:Fl.isFr Fl.nw=true:=by intros;rfl
@[simp] theorem x66:Fl.isFr Fl.fr=true:=by intros;rfl
@[simp] theorem x68:Fl.isNw Fl.nw=true:=by intros;rfl
@[simp] theorem x69:∀(x:Fl),(x=Fl.nw→False)→Fl.isNw x=false:=by exact @L2.Fl.isNw.eq_2
@[simp] theorem x70:J5 []=true:=by intros;rfl
@[simp] theorem x71:∀(x_1:Dv) (xs:List Dv),J5 (x_1::xs)=(Fl.isNw (Prod.fst x_1)&&J5 xs):=by intros;rfl
@[simp] theorem x72:C5 []=true:=by intros;rfl
@[simp] theorem x73:∀(x_1:Dv) (xs:List Dv),C5 (x_1::xs)=(Fl.isFr (Prod.fst x_1)&&C5 xs):=by intros;rfl
@[simp] theorem x74:∀(F:FE) (ρ:Rho),Z8 F ρ=Option.map (fun x=>Oc.nx ρ) (F ρ):=by intros;rfl
@[simp] theorem x75:∀(rels:List Nat) (Fi:FI) (g:Tg) (F:FS) (ρ:Rho),
 sFor rels Fi g F ρ=Option.bind (Fi (v8 (relS rels ρ))) fun items=>forF g F items (relS rels ρ):=by intros;rfl
@[simp] theorem x76:∀(F:FE) (ρ:Rho),iSeq F ρ=Option.bind (F ρ) fun x=>seqD (Prod.snd x):=by intros;rfl
@[simp] theorem x77:∀(ds:List Dt),seqD (Dt.lst ds)=some ds:=by intros;rfl
@[simp] theorem x78:∀(ds:List Dt),seqD (Dt.tup ds)=some ds:=by intros;rfl
@[simp] theorem x80:∀(i:Nat) (F:FE) (ρ:Rho),
 sSetA i F ρ =
  Option.bind (F ρ) fun x =>
   if Fl.isNw (Prod.fst x)=true then some (Oc.nx (List.set ρ i (Cell.sh true (Prod.snd x)))) else none:=by intros;rfl
@[simp] theorem x81:∀(i:Nat) (F:FE) (ρ:Rho),
 sOwn i F ρ =
  Option.bind (F (v8 ρ)) fun x =>
   match x with
   | (Fl.nw,Dt.lst ds)=>if i<List.length ρ then some (Oc.nx (List.set ρ i (Cell.ow true ds))) else none
   | (Fl.tn,Dt.lst ds)=>if i<List.length ρ then some (Oc.nx (List.set ρ i (Cell.ow false ds))) else none
   | x=>none:=by intros;rfl
@[simp] theorem x82:∀(i:Nat) (F:FE) (ρ:Rho),
 sOwnA i F ρ =
  Option.bind (F ρ) fun x =>
   match x with
   | (Fl.nw,Dt.lst ds)=>if i<List.length ρ then some (Oc.nx (List.set ρ i (Cell.ow true ds))) else none
   | x=>none:=by intros;rfl
@[simp] theorem x83:∀(w:FW) (i:Nat) (F:FE) (ρ:Rho),
 sWr w i F ρ =
  Option.bind (Z9 ρ i) fun o =>
   Option.bind (F (v8 ρ)) fun x =>
    Option.map (fun ds=>Oc.nx (List.set ρ i (Cell.ow (Prod.fst o&&Fl.isFr (Prod.fst x)) ds)))
     (w (Prod.snd o) (Prod.snd x)):=by intros;rfl
@[simp] theorem x84:∀(w:FW) (i:Nat) (F:FE) (ρ:Rho),
 sWrA w i F ρ =
  Option.bind (Z9 ρ i) fun o =>
   Option.bind (F ρ) fun x =>
    if Fl.isNw (Prod.fst x)=true then
     Option.map (fun ds=>Oc.nx (List.set ρ i (Cell.ow (Prod.fst o) ds))) (w (Prod.snd o) (Prod.snd x))
    else none:=by intros;rfl
@[simp] theorem x85:∀(i:Nat) (Fj Fe:FE) (ρ:Rho),
 sPut i Fj Fe ρ =
  Option.bind (Z9 ρ i) fun o =>
   Option.bind (Fe (v8 ρ)) fun x =>
    Option.bind (Fj ρ) fun j =>
     Option.bind (intD (Prod.snd j)) fun n =>
      Option.map (fun ds=>Oc.nx (List.set ρ i (Cell.ow (Prod.fst o&&Fl.isFr (Prod.fst x)) ds)))
       (setD (Prod.snd o) n (Prod.snd x)):=by intros;rfl
@[simp] theorem x86:∀(ρ:Rho) (i:Nat),
 Z9 ρ i =
  match ρ[i]? with
  | some (Cell.ow f ds)=>some (f,ds)
  | x=>none:=by intros;rfl
@[simp] theorem x87:∀(F:FE) (ρ:Rho),iEnum F ρ=Option.bind (F ρ) fun x=>Option.map (HX 0) (lstD (Prod.snd x)):=by intros;rfl
@[simp] theorem x88:∀(F:FE) (ρ:Rho),iRev F ρ=Option.bind (F ρ) fun x=>Option.map List.reverse (lstD (Prod.snd x)):=by intros;rfl
@[simp] theorem x89:∀(ds:List Dt),lstD (Dt.lst ds)=some ds:=by intros;rfl
@[simp] theorem x91:∀(F G:FE) (ρ:Rho),
 iZip F G ρ =
  Option.bind (F ρ) fun x =>
   Option.bind (G ρ) fun y =>
    Option.bind (seqD (Prod.snd x)) fun xs =>
     Option.bind (seqD (Prod.snd y)) fun ys=>if List.length xs=List.length ys then some (zipD xs ys) else none:=by intros;rfl
@[simp] theorem x92:∀(F:FE) (ρ:Rho),
 M6 F ρ =
  Option.bind (F ρ) fun x =>
   Option.bind (intD (Prod.snd x)) fun j=>if V5 j=true then some (K3 0 (Int.toNat j)) else none:=by intros;rfl
@[simp] theorem x93:∀(i:Int),intD (Dt.int i)=some i:=by intros;rfl
@[simp] theorem x95:∀(ds:List Dt) (d:Dt),wApp ds d=if List.length ds<1000000 then some (ds++[d]) else none:=by intros;rfl
@[simp] theorem x96:∀(ds:List Dt) (d:Dt),wIns0 ds d=if List.length ds<1000000 then some (d::ds) else none:=by intros;rfl
@[simp] theorem x97:∀(ds:List Dt) (j:Int) (d:Dt),setD ds j d=Option.map (fun k=>List.set ds k d) (ixN (List.length ds) j):=by intros;rfl
@[simp] theorem x98:∀(xs:List Dt),bLst [Dt.lst xs]=some (newL xs):=by intros;rfl
@[simp] theorem x99:∀(xs:List Dt),bLst [Dt.tup xs]=some (newL xs):=by intros;rfl
@[simp] theorem x101:∀(xs:List Dt),bTup [Dt.lst xs]=some (if n9 xs=true then Fl.nw else Fl.sh,Dt.tup xs):=by intros;rfl
@[simp] theorem x102:∀(xs:List Dt),bTup [Dt.tup xs]=some (if n9 xs=true then Fl.nw else Fl.sh,Dt.tup xs):=by intros;rfl
@[simp] theorem x104:∀(x:Dt) (x_1:Rho) (i:Nat),Tg.put (Tg.one i) x x_1=some (List.set x_1 i (Cell.sh false x)):=by intros;rfl
@[simp] theorem x105:∀(x:Rho) (is:List Nat) (ds:List Dt),
 Tg.put (Tg.many is) (Dt.tup ds) x=if List.length ds=List.length is then some (C6 x is ds) else none:=by intros;rfl
@[simp] theorem x107:∀(x:Rho) (i:Nat) (is:List Nat) (d:Dt) (ds:List Dt),
 C6 x (i::is) (d::ds)=C6 (List.set x i (Cell.sh false d)) is ds:=by intros;rfl
@[simp] theorem x108:∀(x:Rho) (x_1:List Nat) (x_2:List Dt),
 (∀(i:Nat) (is:List Nat) (d:Dt) (ds:List Dt),x_1=i::is→x_2=d::ds→False)→C6 x x_1 x_2=x:=by exact @L2.C6.eq_2
@[simp] theorem x109:Z7 Cell.no=Cell.no:=by intros;rfl
@[simp] theorem x110:∀(f:Bool) (d:Dt),Z7 (Cell.sh f d)=Cell.sh false d:=by intros;rfl
@[simp] theorem x111:∀(f:Bool) (ds:List Dt),Z7 (Cell.ow f ds)=Cell.sh false (Dt.lst ds):=by intros;rfl
@[simp] theorem x112:∀(nt:Nat) (js:List Nat) (ρ:Rho),
 sigD nt js ρ =
  List.replicate nt Cell.no ++
   List.map
    (fun j =>
     match ρ[j]? with
     | some c=>Z7 c
     | none=>Cell.no)
    js:=by intros;rfl
@[simp] theorem x113:∀(r r':FO) (Fa Fb Fc:FE) (ρ:Rho),
 B7 r r' Fa Fb Fc ρ =
  Option.bind (Fa ρ) fun x =>
   Option.bind (Fb ρ) fun y =>
    Option.bind (r (Prod.snd x) (Prod.snd y)) fun z =>
     Option.bind (blD (Prod.snd z)) fun k =>
      if k=true then Option.bind (Fc ρ) fun w=>r' (Prod.snd y) (Prod.snd w) else some (Fl.nw,Dt.bl false):=by intros;rfl
@[simp] theorem x114:∀(c:FC) (F:FE) (ρ:Rho),
 fSortK c F ρ =
  Option.bind (F ρ) fun x =>
   Option.bind (lstD (Prod.snd x)) fun ds =>
    Option.bind (DB c ds) fun ks =>
     if List.length ds<64∧List.Nodup ks then
      some (newL (List.map (fun x=>Prod.snd x) (Ic (List.zip ks ds))))
     else none:=by intros;rfl
@[simp] theorem x115:∀(i j:Int),opLt (Dt.int i) (Dt.int j)=some (Fl.nw,Dt.bl (decide (i<j))):=by intros;rfl
@[simp] theorem x116:∀(i j:Int),opLe (Dt.int i) (Dt.int j)=some (Fl.nw,Dt.bl (decide (i≤j))):=by intros;rfl
@[simp] theorem x117:∀(i j:Int),opGt (Dt.int i) (Dt.int j)=some (Fl.nw,Dt.bl (decide (j<i))):=by intros;rfl
@[simp] theorem x118:∀(i j:Int),opGe (Dt.int i) (Dt.int j)=some (Fl.nw,Dt.bl (decide (j≤i))):=by intros;rfl
@[simp] theorem x119:∀(i j:Int),HG (Dt.int i) (Dt.int j)=some (Fl.nw,Dt.int (i-j)):=by intros;rfl
@[simp] theorem x120:∀(i j:Int),J3 (Dt.int i) (Dt.int j)=if E3 i j=true then some (Fl.nw,Dt.int (Int.fmod i j)) else none:=by intros;rfl
@[simp] theorem x121:∀(i j:Int),Z2 (Dt.int i) (Dt.int j)=if Z0 i j=true then some (Fl.nw,Dt.int (i*j)) else none:=by intros;rfl
@[simp] theorem x122:∀(i j:Int),AS (Dt.int i) (Dt.int j)=if J2 i j=true then some (Fl.nw,Dt.int (Int.fdiv i j)) else none:=by intros;rfl
@[simp] theorem x123:∀(i j:Int),AT (Dt.int i) (Dt.int j)=if Z1 i j=true then some (Fl.nw,Dt.int (i ^ Int.toNat j)) else none:=by intros;rfl
@[simp] theorem x124:∀(i j:Int),o2 (Dt.int i) (Dt.int j)=some (Fl.nw,Dt.int (i+j)):=by intros;rfl
@[simp] theorem x125:∀(f:Fl) (i:Int),nrm f (Dt.int i)=(Fl.nw,Dt.int i):=by intros;rfl
@[simp] theorem x126:∀(f:Fl) (i:Bool),nrm f (Dt.bl i)=(Fl.nw,Dt.bl i):=by intros;rfl
@[simp] theorem x127:∀(f:Fl),nrm f Dt.non=(Fl.nw,Dt.non):=by intros;rfl
@[simp] theorem x128:∀(f:Fl) (ns:List Int),nrm f (Dt.scr ns)=(f,Dt.scr ns):=by intros;rfl
@[simp] theorem x129:∀(f:Fl) (ns:List Int),nrm f (L ns)=(f,L ns):=by intros;rfl
@[simp] theorem x130:∀(f:Fl) (ns:List (List Int)),nrm f (LL ns)=(f,LL ns):=by intros;rfl
@[simp] theorem x134:∀{α β:Type} {a:α} {f:α→Option β},Option.bind (some a) f=f a:=by intros;rfl
@[simp] theorem x135:∀{α β:Type} {f:α→Option β},Option.bind none f=none:=by intros;rfl
@[simp] theorem x136:∀{α:Type} {x:α} {xs:List α},atI (x::xs) 0=some x:=by exact @L2.atI_c0
@[simp] theorem x137:∀{α:Type} {x y:α} {xs:List α},atI (x::y::xs) 1=some y:=by exact @L2.atI_c1
@[simp] theorem x138:∀{α:Type} {x y z:α} {xs:List α},atI (x::y::z::xs) 2=some z:=by exact @L2.atI_c2
@[simp] theorem y1(ns:List Int):newL (List.map Dt.int ns)=(Fl.nw,Dt.lst (List.map Dt.int ns)):=M7 ns
@[simp] theorem y2:newL []=(Fl.nw,Dt.lst []):=rfl
@[simp] theorem y3(ns:List Int):n9 (List.map Dt.int ns)=true:=p8 ns
@[simp] theorem y4(d:Dt):nrm Fl.nw d=(Fl.nw,d):=BR d
@[simp] theorem y5(i:Int):Dt.flat (Dt.int i)=true:=rfl
@[simp] theorem y6(i:Bool):Dt.flat (Dt.bl i)=true:=rfl
@[simp] theorem y7(f:Fl)(ds:List Dt):nrm f (Dt.lst ds)=(f,Dt.lst ds):=rfl
@[simp] theorem y8:n9 []=true:=rfl
@[simp] theorem y9(d:Dt)(ds:List Dt):n9 (d::ds)=(d.flat&&n9 ds):=by rw[n9]
@[simp] theorem y10(ds:List Dt):Dt.flat (Dt.lst ds)=false:=by rw[Dt.flat]
@[simp] theorem y11(ds:List Dt):Dt.flat (Dt.tup ds)=n9 ds:=by rw[Dt.flat]
@[simp] theorem y12(f:Fl)(ds:List Dt):nrm f (Dt.tup ds)=(if n9 ds=true then Fl.nw else f,Dt.tup ds):=rfl
@[simp] theorem xd1:tyN Dt.dic = "dict" := rfl
@[simp] theorem xd2:Dt.flat Dt.dic=true:=by unfold Dt.flat;rfl
end L2

end
section
local macro_rules|`(tactic| omega)=>`(tactic| first|lia|omega +splitDisjunctions)
set_option linter.all false
set_option maxRecDepth 100000
namespace L2
open PySem
@[simp] theorem y13(n:Nat)(h:n≤1000000):V5 (n:Int)=true:=rng_ok h
end L2
namespace L2
open PySem
@[simp] theorem y14(F:FE)(A B:FP)(ρ:Rho):fSl F A B ρ=(F ρ).bind fun x=>(A ρ).bind fun lo=>(B ρ).bind fun hi=>match x.2 with|.lst ds=>some (newL (cutD ds lo hi))|_=>none:=rfl
@[simp] theorem y15(F:FE)(ρ:Rho):E5 F ρ=(F ρ).bind fun x=>(intD x.2).map some:=rfl
@[simp] theorem y16(ρ:Rho):u5 ρ=some none:=rfl
end L2

end
section
local macro_rules|`(tactic| omega)=>`(tactic| first|lia|omega +splitDisjunctions)
set_option linter.all false
namespace Br
structure BI(a b u0 u1 u2 l0 l1 l2:Int):Prop where
 up:a*u1+b*u2=u0
 lo:a*l1+b*l2=l0
 gcd:Int.gcd u0 l0=Int.gcd a b
 p1:u0.natAbs*l1.natAbs+l0.natAbs*u1.natAbs≤a.natAbs+2*b.natAbs
 p2:u0.natAbs*l2.natAbs+l0.natAbs*u2.natAbs≤a.natAbs+2*b.natAbs
 ph:(u0=a∧u1=1∧u2=0∧l0=b∧l1=0∧l2=1)∨(0≤u0*l0∧u0≠0)
 b1:u1.natAbs≤a.natAbs+2*b.natAbs+1
 b2:u2.natAbs≤a.natAbs+2*b.natAbs+1
 b3:l1.natAbs≤a.natAbs+2*b.natAbs+1
 b4:l2.natAbs≤a.natAbs+2*b.natAbs+1
 c1:u0.natAbs≤a.natAbs+b.natAbs
 c2:l0.natAbs≤b.natAbs
theorem BI.start(a b:Int):BI a b a 1 0 b 0 1 where
 up:=by simp
 lo:=by simp
 gcd:=rfl
 p1:=by simp;omega
 p2:=by simp
 ph := .inl ⟨rfl,rfl,rfl,rfl,rfl,rfl⟩
 b1:=by simp
 b2:=by simp
 b3:=by simp
 b4:=by simp
 c1:=by omega
 c2:=by omega
theorem pot(L A R Qa u1 l1 f1 E:Nat)(hA:Qa*L+R≤A+E)(hf:f1≤u1+Qa*l1):L*f1+R*l1≤A*l1+L*u1+E*l1:=by
 have h1:L*f1≤L*(u1+Qa*l1):=Nat.mul_le_mul_left L hf
 have h2:L*(u1+Qa*l1)=L*u1+Qa*L*l1:=by
  rw[Nat.mul_add,←Nat.mul_assoc,Nat.mul_comm L Qa]
 have h3:(Qa*L+R)*l1≤(A+E)*l1:=Nat.mul_le_mul_right l1 hA
 rw[Nat.add_mul,Nat.add_mul]at h3
 omega
theorem CB(u l:Int)(h:0<l):(u-u.fdiv l*l).natAbs<l.natAbs∧0≤l*(u-u.fdiv l*l)∧(0≤u*l→(u.fdiv l).natAbs*l.natAbs+(u-u.fdiv l*l).natAbs=u.natAbs) ∧
  (u.fdiv l).natAbs*l.natAbs≤u.natAbs+(u-u.fdiv l*l).natAbs:=by
 have hs:u.fdiv l*l=u-u.fmod l:=Int.fdiv_mul_self u l
 have hq:(u.fdiv l).natAbs*l.natAbs=(u.fdiv l*l).natAbs:=(Int.natAbs_mul _ _).symm
 have e:u-u.fdiv l*l=u.fmod l:=by omega
 rw[e,hq,hs]
 have h1:0≤u.fmod l:=Int.fmod_nonneg_of_pos u h
 have h2:u.fmod l<l:=Int.fmod_lt_of_pos u h
 refine⟨by omega,Int.mul_nonneg (by omega) h1,fun hu=>?_,by omega⟩
 have hu0:0≤u:=by
  by_cases hu':0≤u
  · exact hu'
  · have:=Int.mul_neg_of_neg_of_pos (show u<0 by omega) h
    omega
 have:u.fmod l≤u:=by
  have q1:0≤u.fdiv l:=Int.fdiv_nonneg hu0 (by omega)
  have q2:0≤u.fdiv l*l:=Int.mul_nonneg q1 (by omega)
  omega
 omega
theorem KR(u l:Int)(hl:l≠0):(u-u.fdiv l*l).natAbs<l.natAbs∧0≤l*(u-u.fdiv l*l)∧(0≤u*l→(u.fdiv l).natAbs*l.natAbs+(u-u.fdiv l*l).natAbs=u.natAbs) ∧
   (u.fdiv l).natAbs*l.natAbs≤u.natAbs+(u-u.fdiv l*l).natAbs:=by
 rcases Int.lt_or_gt_of_ne hl with h|h
 · have q:=CB (-u) (-l) (by omega)
   rw[Int.neg_fdiv_neg]at q
   have e : -u-u.fdiv l * -l = -(u-u.fdiv l*l):=by rw[Int.mul_neg];omega
   rw[e,Int.natAbs_neg,Int.natAbs_neg,Int.natAbs_neg,Int.neg_mul_neg,Int.neg_mul_neg]at q
   exact q
 · exact CB u l h
theorem Ac{a b c:Nat}(h:a*b≤c)(ha:a≠0):b≤c:=Nat.le_trans (Nat.le_mul_of_pos_left b (Nat.pos_of_ne_zero ha)) h
theorem Gf(u q l:Int):(u-q*l).natAbs≤u.natAbs+q.natAbs*l.natAbs:=by
 have:=Int.natAbs_mul q l
 omega
theorem BI.turn{a b u0 u1 u2 l0 l1 l2:Int}(h:BI a b u0 u1 u2 l0 l1 l2)(hl:l0≠0):
   BI a b l0 l1 l2 (u0-u0.fdiv l0*l0) (u1-u0.fdiv l0*l1) (u2-u0.fdiv l0*l2):=by
 obtain⟨r1,r2,r3,r4⟩:=KR u0 l0 hl
 have hL:l0.natAbs≠0:=fun e=>hl (Int.natAbs_eq_zero.mp e)
 have hup:=h.up
 have hlo:=h.lo
 generalize eq:u0.fdiv l0=q at *
 have lin:∀(x y:Int),a*(x-q*l1)+b*(y-q*l2)=(a*x+b*y)-q*(a*l1+b*l2):=fun x y=>by
   rw[Int.mul_sub,Int.mul_sub,Int.mul_add,Int.mul_left_comm a q l1,Int.mul_left_comm b q l2];omega
 have f1:(u1-q*l1).natAbs≤u1.natAbs+q.natAbs*l1.natAbs:=Gf u1 q l1
 have f2:(u2-q*l2).natAbs≤u2.natAbs+q.natAbs*l2.natAbs:=Gf u2 q l2
 have key:∀(x y f:Nat),f≤x+q.natAbs*y→u0.natAbs*y+l0.natAbs*x≤a.natAbs+2*b.natAbs→((0≤u0*l0)∨(y=0)∨(y=1∧x=0∧u0=a∧l0=b)) →
     l0.natAbs*f+(u0-q*l0).natAbs*y≤a.natAbs+2*b.natAbs:=fun x y f hf hp hc=>by
   rcases hc with hc|hc|⟨hc,hx,ha,hb⟩
   · have:=pot l0.natAbs u0.natAbs (u0-q*l0).natAbs q.natAbs x y f 0 (by have:=r3 hc;omega) hf
     omega
   · subst hc
     have:l0.natAbs*f≤l0.natAbs*x:=Nat.mul_le_mul_left _ (by omega)
     omega
   · subst hc;subst hx
     have:=pot l0.natAbs u0.natAbs (u0-q*l0).natAbs q.natAbs 0 1 f (2*(u0-q*l0).natAbs) (by omega) hf
     have hab:u0.natAbs=a.natAbs:=by rw[ha]
     have hbb:l0.natAbs=b.natAbs:=by rw[hb]
     generalize (u0-q*l0).natAbs=R at *
     generalize l0.natAbs*f=Z at *
     omega
 have ph1:0≤u0*l0∨l1.natAbs=0∨(l1.natAbs=1∧u1.natAbs=0∧u0=a∧l0=b):=by
   rcases h.ph with⟨_,_,_,_,e,_⟩|⟨e,_⟩
   · exact .inr (.inl (by rw[e];rfl))
   · exact .inl e
 have ph2:0≤u0*l0∨l2.natAbs=0∨(l2.natAbs=1∧u2.natAbs=0∧u0=a∧l0=b):=by
   rcases h.ph with⟨e1,_,e2,e3,_,e4⟩|⟨e,_⟩
   · exact .inr (.inr ⟨by rw[e4];rfl,by rw[e2];rfl,e1,e3⟩)
   · exact .inl e
 have k1:=key _ _ _ f1 h.p1 ph1
 have k2:=key _ _ _ f2 h.p2 ph2
 have c2:=h.c2
 refine⟨hlo,?_,?_,k1' k1,k1' k2,.inr ⟨r2,hl⟩,h.b3,h.b4,?_,?_,by omega,by omega⟩
 · rw[lin,hup,hlo]
 · rw[Int.gcd_sub_mul_right_right,Int.gcd_comm,h.gcd]
 · exact Nat.le_succ_of_le (Ac (Nat.le_trans (Nat.le_add_right _ _) k1) hL)
 · exact Nat.le_succ_of_le (Ac (Nat.le_trans (Nat.le_add_right _ _) k2) hL)
where k1' {x y:Nat} (h:x≤y):x≤y:=h
theorem BI.fin{a b u0 u1 u2 l1 l2:Int}(h:BI a b u0 u1 u2 0 l1 l2):(u0.natAbs:Int)=Int.gcd a b:=by
 have:=h.gcd
 rw[Int.gcd_zero_right]at this
 rw[this]
end Br

end
section
local macro_rules|`(tactic| omega)=>`(tactic| first|lia|omega +splitDisjunctions)
set_option linter.all false
set_option maxRecDepth 100000
namespace L2
open PySem
end L2
namespace L2
open PySem
theorem E8{i j:Int}(h:0<j):E3 i j=true:=by unfold E3;rw[decide_eq_true (show j≠0 by omega)]
end L2
namespace L2
open PySem
theorem us0{P:List Value→Prop}(h:P []):∀ us:List Value,us.length=0→P us:=fun us hl=>(List.length_eq_zero_iff.mp hl).symm ▸ h
theorem usS{P:List Value→Prop}{n:Nat}(h:∀ a us,us.length=n→P (a::us)):∀ us:List Value,us.length=n+1→P us:=fun us hl=>by
 cases us with
 | nil=>cases hl
 | cons a us=>exact h a us (Nat.succ.inj hl)
theorem us1{P:List Value→Prop}(h:∀ a,P [a]):∀ us:List Value,us.length=1→P us:=usS fun a=>us0 (h a)
theorem us2{P:List Value→Prop}(h:∀ a b,P [a,b]):∀ us:List Value,us.length=2→P us:=usS fun a=>(usS fun b=>us0 (h a b))
theorem us3{P:List Value→Prop}(h:∀ a b c,P [a,b,c]):∀ us:List Value,us.length=3→P us:=usS fun a=>(usS fun b=>(usS fun c=>us0 (h a b c)))
theorem us4{P:List Value→Prop}(h:∀ a b c d,P [a,b,c,d]):∀ us:List Value,us.length=4→P us:=usS fun a=>(usS fun b=>(usS fun c=>(usS fun d=>us0 (h a b c d))))
end L2

end
section
set_option Elab.async false
set_option linter.all false
set_option maxRecDepth 100000
namespace L2
open PySem PySem.Spec PyProof.Rows
open Builtin Builtin.Str
section
variable {X:Cx}{a b c e:Expr}{Fa Fb Fe:FE}{pos:Pos}
section
variable {prog:Program}{w:World}{A:Around}{E:Value→Shared→Prop}{s:Shared}
end
end
end L2

end
section
set_option Elab.async false
set_option linter.all false
set_option maxRecDepth 100000
namespace L2
open PySem PySem.Spec PySem.W PyProof.Rows
section
variable {X:Cx}{x:Str}{e j:Expr}{Fe Fj:FE}{i:Nat}{px spos pos:Pos}
end
end L2

end
section
set_option Elab.async false
set_option linter.all false
set_option maxRecDepth 100000
namespace L2
open PySem PySem.Spec PySem.W PyProof.Rows
section
variable {X:Cx}{e a b:Expr}{es:List Expr}{pos pos' p:Pos}{Fs:FA}{R:FR}{fr:Bool}{k k':Nat}{f:Addr}{fd:FuncData}{ps:List Str}{x:Str}{st:Stmt}{ct:FX}
end
section
variable {M:Model}{A:Around}{E:Value→Shared→Prop}{s:Shared}{h0:Heap}{H:Hp}{ea C L:Addr}
end
section
variable {X:Cx}{N:List Str}{scope:Scope}{nt:Nat}{js:List Nat}{pins:List (Addr×Obj)}{σ:St}{H2:Hp}{s2:Shared}{fp:List Addr}{C:Addr}{cl:List (Str×Addr)}{E:XK}{Q0:Value→Shared→Prop}
end
section
variable {X:Cx}{N:List Str}{scope:Scope}{nt:Nat}{js:List Nat}{tg elt iter:Expr}{Fi:FI}{g:Tg}{Fe:FE}{Re:FR}{pos:Pos}
end
section
variable {X:Cx}{x:Str}{e j:Expr}{Fe Fj:FE}{i:Nat}{px spos pos:Pos}
end
end L2

end
section
set_option Elab.async false
set_option linter.all false
set_option maxRecDepth 100000
namespace L2
open PySem PySem.Spec PySem.W PyProof.Rows
section
variable {X:Cx}{x:Str}{e hi:Expr}{Fe Fu:FE}{i:Nat}{p0 p1 p2 p3 p4 p5 pos:Pos}
end
def upS0(X:Cx)(F:FS):TS:=fun D σ H=>∃ ρ oc,RepB X X.H₀ H ρ σ∧F ρ=some oc∧OcOk X X.H₀ D oc
def PFSs0(X:Cx)(sts:List Stmt)(F:FS):Prop:=PSs X sts (upS0 X F)
section
variable {X:Cx}{st:Stmt}{rest:List Stmt}{F G:FS}
theorem PFSs.z(h:PFSs X rest F):PFSs0 X rest F:=PSs.imp h fun D σ H ⟨ρ,oc,a,b,c⟩=>⟨X.H₀,ρ,oc,a,b,c⟩
end
section
variable {K:PySem.W.Frag}{B H:Hp}
end
section
variable {X:Cx}{x:Str}{e ei ej:Expr}{Fi Fj Fv:FE}{i:Nat}{px s1 s2 pos:Pos}{rest:List Stmt}{G:FS}
end
theorem Df.d0{P:Program}{w:World}{K:PySem.W.Frag}{mg:Str→Option Value}{base:Heap}{x:Str}{st:Stmt}{f:Addr}{fd:FuncData}{N ps:List Str}{np nn:Nat}{fr:Bool}(D:Df K mg x st ps f fd)(k:Nat)(F:FS)(S:FnScope N ps (f8 st))
    (body:∀(cdv:Value) (A:Around) (outer:List Env) (s:Shared) (H:Hp) (E:XK),Room k (A.deeper (envOfC x (f8 st) s.heap.objs.size f cdv))→(A.deeper (envOfC x (f8 st) s.heap.objs.size f cdv)).units+64<cLine →
      PFSs0 (cxOf CX0 P w K mg base N x (f8 st) f cdv A outer s H E).nox (j9 st) F) (hp:np=ps.length:=by rfl) (hn:nn=N.length:=by rfl):FnOk P w K mg base CX0 (k+1) f fd ps (spc K fr (cOf np nn fr F)):=by
  subst hp hn
  refine D.fn.ok S (fun vs H Q E h=>?_) (fun cdv A outer s H vs Q E hr h=>?_)
  · obtain⟨ds,d,r,e,q⟩:=h
    unfold cOf at e
    split at e
    · rename_i hl
      rw[r.length];exact hl
    · cases e
  · obtain⟨ ds,d,r,e,q⟩:=h
    unfold cOf at e
    split at e
    · rename_i hl
      obtain⟨oc,e1,e2⟩:=g5 e
      refine⟨_,body cdv A outer s H E hr hr.units,rho0 N.length ds,oc,⟨[],P3 rfl r⟩,e1,?_⟩
      cases oc with
      | nx ρ=>cases e2;exact fun σ H' hZ=>hZ.elim fun O rb=>q _ H' (rb.same.trans j5) (Rp.non_.mpr rfl)
      | bk ρ=>cases e2
      | ct ρ=>cases e2
      | ex C=>cases e2
      | rt f d' =>
        have e2:(if(fr&&!(f.isFr||d'.flat))=true then none else some d')=some d:=e2
        split at e2
        · cases e2
        · rename_i hf
          cases e2
          refine fun v H' sm r'=>q v H' sm ?_
          cases fr with
          | false=>exact Rp.anti Same.emp _ r'
          | true =>
            have hf:f.isFr=true∨d.flat=true:=by
              cases h1:f.isFr<;>cases h2:d.flat<;>simp[h1,h2]at hf ⊢
            rcases hf with hf|hf
            · rw[hf]at r';exact r'
            · exact Rp.flat d hf r'
    · cases e
end L2

end
section
set_option Elab.async false
set_option linter.all false
set_option maxRecDepth 100000
namespace L2
open PySem PySem.Spec PySem.W PyProof.Rows
def fldN:Nat→Str
 | 0 => "kinds"
 | 1 => "bills"
 | _ => "earlier"
def fldD(n:Nat)(k b:Dt)(es:List Dt):Dt:=match n with
 | 0=>k
 | 1=>b
 | _ => .lst es
def fFld(n:Nat)(F:FE):FE:=fun ρ=>(F ρ).bind fun x=>match x.2 with
 | .obj _ k b es=>some (nrm .sh (fldD n k b es))
 | _=>none
structure Dm(K:PySem.W.Frag)(C:Addr)(m qual:Str)(st:Stmt)(ps:List Str)(f:Addr)(fd:FuncData):Prop where
 mt:Meth K C m f
 fn:Fun K m qual st f fd
 bd:Binds K fd ps []
section
variable {X:Cx}{e o:Expr}{es:List Expr}{pos apos:Pos}{F Fo:FE}{Fs:FA}{fr:Bool}{k k':Nat}{f C:Addr}{fd:FuncData}{ps:List Str}{m qual:Str}{st:Stmt}{ct:FX}{cf:FC}
theorem E9(n:Nat)(he:PF X e F)(hb:attributeBase e (fldN n) X.env (eval e X.env)=eval e X.env:=by rfl):PF X (.Attribute e (fldN n) pos) (fFld n F) :=
 (Bu he hb).imp fun σ H Q ⟨ρ,f,d,rs,e0,k⟩=>by
  obtain⟨⟨fx,dx⟩,e1,e2⟩:=g5 e0
  cases dx<;>first|cases e2|skip
  rename_i C kd b es
  refine⟨ρ,fx,_,rs,e1,fun v H' s r=>?_⟩
  obtain⟨a,dx,vk,vb,l,vs,rfl,h0,h1,h2,h3,h4,bk,h6,h7,h8⟩:=Rp.obj_.mp r.sh
  match n with
  | 0=>exact⟨a,C,dx,_,vk,rfl,h1,bk.cls,bk.n1,rfl,k _ H' s (RpF.nrm (f := .sh) (Rp.mono kd j5 h6))⟩
  | 1=>exact⟨a,C,dx,_,vb,rfl,h1,bk.cls,bk.n2,rfl,k _ H' s (RpF.nrm (f := .sh) (Rp.mono b j5 h7))⟩
  | j+2 =>
   refine⟨a,C,dx,_,.ref l,rfl,h1,bk.cls,bk.n3,rfl,k _ H' s (RpF.nrm (f := .sh) (show RpF X.ky H .sh (.lst es) H' (.ref l)from Rp.lst_.mpr ⟨l,vs,rfl,h3,h4,Rps.mono es (A5 fun x hx=>?_) h8⟩))⟩
   rw[List.mem_singleton.mp hx]
   simp
def P5(C:Addr)(fr:Bool)(c:FC)(Fo:FE):FE:=fun ρ=>(Fo ρ).bind fun x=>match x.2 with
 | .obj C' k b es=>if C'=C then(c [.obj C' k b es]).map (nrm (if fr then .nw else .sh)) else none
 | _=>none
theorem Gg{pl:Sem Bool}(c:Cls X.K C)(F:FnOk X.prog X.w X.K X.mg X.base CX0 k f fd ps (spc X.K fr cf))(D:Dm X.K C m qual st ps f fd)(hr:Room k' X.A)(ho:PF X o Fo)(hle:k≤k':=by decide)
   (hl:∀ a b c:V,List.lookup m [("kinds",a),("bills",b),("earlier",c)]=none:=by intro _ _ _;rfl)
   (ht:eval (.Call (.Attribute o m apos) [] [] pos) X.env=(do
    let ov ←eval o X.env
    standAt apos.atName
    let (f,first) ←holding [ov] (getMethod ov m pl)
    callWith pos f first (backTo pos (starEach [] X.env)) (backToKw pos (keywordEach [] X.env))):=by rfl) :
   PF X (.Call (.Attribute o m apos) [] [] pos) (P5 C fr cf Fo):=fun pins s σ H Q I ⟨ρ,fl,d,rs,e0,k⟩=>by
 obtain⟨⟨fx,dx⟩,e1,e2⟩:=g5 e0
 cases dx<;>first|cases e2|skip
 rename_i C' kd b ds
 have e9:(if C'=C then(cf [.obj C' kd b ds]).map (nrm (if fr then .nw else .sh)) else none)=some (fl,d):=e2
 clear e2 e0
 split at e9
 · rename_i hc
   subst hc
   cases q:cf [.obj C' kd b ds] with
   | none=>rw[q]at e9;cases e9
   | some d0 =>
    rw[q]at e9
    have e3:nrm (if fr then .nw else .sh) d0=(fl,d):=Option.some.inj e9
    have e4:d0=d:=congrArg Prod.snd e3
    have e5:(nrm (if fr then .nw else .sh) d0).1=fl:=congrArg Prod.fst e3
    subst e4 e5
    refine Y5 (E:=E0) (dvs:=[]) ho c D.mt F (hr.mono hle) D.bd .nil O0 ht pins s σ H Q I ⟨ρ,fx,_,rs,e1,fun v H1 s1 r=>?_⟩
    obtain⟨a,dx,vk,vb,l,vs,rfl,h0,h1,h2,h3,h4,bk,h6,h7,h8⟩:=Rp.obj_.mp r.sh
    exact⟨a,dx,_,rfl,h1,hl _ _ _,_,d0,Rps.one r.sh,q,fun v H' s' r'=>k v H' (s1.trans s') (Cv s1 r')⟩
 · cases e9
end
end L2

end
section
set_option Elab.async false
set_option linter.all false
set_option maxRecDepth 100000
namespace L2
open PySem PySem.Spec PySem.W PyProof.Rows
def Ad(K:PySem.W.Frag)(H:Hp)(v:V):Cell→Prop
 | .no=>True
 | .sh f d=>f=false∧Rp K emp d H v
 | _=>False
def CellsE(K:PySem.W.Frag)(H:Hp):List Cell→List V→Prop
 | [],vs=>vs=[]
 | c::cs,vs=>∃ v r,vs=v::r∧Ad K H v c∧CellsE K H cs r
theorem CellsE.length{K:PySem.W.Frag}{H:Hp}:∀{cs:List Cell} {vs:List V},CellsE K H cs vs→vs.length=cs.length
 | [],vs,h=>by rw[show vs=[]from h];rfl
 | c::cs,vs,⟨v,r,e,_,h⟩=>by rw[e,List.length_cons,List.length_cons,CellsE.length h]
theorem CellsE.get{K:PySem.W.Frag}{H:Hp}:∀{cs:List Cell} {vs:List V} {i:Nat} {c:Cell},CellsE K H cs vs→cs[i]?=some c→∃ v,vs[i]?=some v∧Ad K H v c
 | [],vs,i,c,h,e=>by simp at e
 | c::cs,vs,0,d,⟨v,r,e,h1,_⟩,q=>by simp at q;subst q e;exact⟨v,rfl,h1⟩
 | c::cs,vs,i+1,d,⟨v,r,e,_,h⟩,q=>by
  subst e
  obtain⟨u,q1,q2⟩:=CellsE.get (i:=i) h (by simpa using q)
  exact⟨u,by simpa using q1,q2⟩
def rhoC(n:Nat)(cs:List Cell):Rho:=cs++List.replicate (n-cs.length) Cell.no
theorem A8{X:Cx}{H:Hp}{cs:List Cell}{vs:List V}{N:List Str}(h0:X.H₀=H)(h:CellsE X.K H cs vs):RepO X H H [] (rhoC N.length cs) (start N vs):=by
 have hl:=h.length
 refine⟨List.nodup_nil,List.nodup_nil,fun a ha=>(nomatch ha),by unfold rhoC start;simp[hl],by rw[h0];exact Same.refl H,by show Same H (hidL [] H);rw[Q8];exact Same.refl H,fun i c e=>?_⟩
 unfold rhoC at e
 unfold start
 by_cases hi:i<cs.length
 · rw[List.getElem?_append_left hi]at e
   obtain⟨v,e1,e2⟩:=h.get e
   refine⟨some v,?_,?_⟩
   · rw[List.getElem?_append_left (by simp;omega),List.getElem?_map,e1];rfl
   · cases c with
     | no=>exact True.intro
     | sh f d =>
      obtain⟨rfl,r⟩:=e2
      exact⟨v,rfl,by show Rp X.K emp d (hidL [] H) v;rw[Q8];exact r⟩
     | ow f ds=>exact e2.elim
     | ex=>exact e2.elim
 · rw[List.getElem?_append_right (by omega)]at e
   rw[List.getElem?_replicate]at e
   split at e
   · cases e
     refine⟨none,?_,True.intro⟩
     rw[List.getElem?_append_right (by simp;omega),List.getElem?_replicate,if_pos (by simp;omega)]
   · cases e
section
variable {P:Program}{w:World}{K:PySem.W.Frag}{mg:Str→Option Value}{base:Heap}
end
section
variable {X:Cx}{e:Expr}{es:List Expr}{pos p:Pos}{Fs:FA}{k k':Nat}{f C:Addr}{fd:FuncData}{ps:List Str}{x:Str}{ct:FX}
end
end L2

end
section
set_option Elab.async false
set_option linter.all false
set_option maxRecDepth 100000
namespace L2
open PySem PySem.Spec PySem.W PyProof.Rows
abbrev bkF(vk vb:V)(e:Addr):List (Str×V):=[("kinds",vk),("bills",vb),("earlier",.ref e)]
structure BookH(K:PySem.W.Frag)(H:Hp)(C a dx e:Addr)(vk vb:V)(ws:List V):Prop where
 bk:Bk K C
 ins:H a=some (.ins C dx (bkF vk vb e))
 own:H dx=some (.own a)
 lst:H e=some (.lst ws)
theorem BookH.mono{K:PySem.W.Frag}{H H':Hp}{C a dx e:Addr}{vk vb:V}{ws:List V}(h:BookH K H C a dx e vk vb ws)(s:Same H H'):BookH K H' C a dx e vk vb ws:=⟨h.bk,s _ _ h.ins,s _ _ h.own,s _ _ h.lst⟩
theorem BookH.ne{K:PySem.W.Frag}{H:Hp}{C a dx e:Addr}{vk vb:V}{ws:List V}(h:BookH K H C a dx e vk vb ws):e≠a:=fun z=>by
 have h1:=h.ins
 have h2:=h.lst
 rw[z,h1]at h2
 cases h2
def S3(H:Hp)(C a dx e:Addr)(vk vb v:V)(ws:List V):Hp:=upd (upd H e (.lst (ws++[vb]))) a (.ins C dx (bkF vk v e))
def Ae(K:PySem.W.Frag):Sp:=fun vs H Q _=>∃ C a dx e vk vb ws v,vs=[.ref a,v]∧BookH K H C a dx e vk vb ws∧ws.length<sizeLine∧Q .non (S3 H C a dx e vk vb v ws)
def tTurn(K:PySem.W.Frag):TS:=tSeq (N7 (tBM K "list" W9 (tFld K (tVar 0) "earlier") (J1 (tFld K (tVar 0) "bills") tNil))) (sFld K (tVar 0) (tVar 1) "bills")
theorem KS{K:PySem.W.Frag}{N:List Str}{vs:List V}{H:Hp}{Q:VK}{E:XK}(h:Ae K vs H Q E):tTurn K { nx:=fun _ H'=>Q .non H',rt:=Q } (start N vs) H:=by
 obtain⟨C,a,dx,e,vk,vb,ws,v,rfl,b,hz,q⟩:=h
 have l1:List.lookup ("earlier" : Str) (bkF vk vb e)=some (.ref e):=rfl
 have l2:List.lookup ("bills" : Str) (bkF vk vb e)=some vb:=rfl
 refine⟨.ref a,rfl,a,C,dx,_,.ref e,rfl,b.ins,b.bk.cls,b.bk.n3,l1,.inl ⟨rfl,ws,SqL.of b.lst⟩,.ref a,rfl,a,C,dx,_,vb,rfl,b.ins,b.bk.cls,b.bk.n2,l2,e,ws,vb,rfl,rfl,b.lst,hz,?_⟩
 refine⟨v,rfl,.ref a,rfl,a,C,dx,bkF vk vb e,rfl,by rw[i0 (Ne.symm b.ne)];exact b.ins,b.bk.cls,b.bk.n2,show 3<1000 by decide,?_⟩
 exact q
section
variable {CX:CXT}{P:Program}{w:World}{K:PySem.W.Frag}{mg:Str→Option Value}{base:Heap}{x qual:Str}{st:Stmt}{f:Addr}{fd:FuncData}{N ps:List Str}{k:Nat}
theorem KT(Fu:Fun K x qual st f fd)(S:FnScope N ps (f8 st))(hp:ps.length=2)
  (body:∀(cdv:Value) (A:Around) (outer:List Env) (s:Shared) (H:Hp) (E:XK),PSs (cxOf CX P w K mg base N qual (f8 st) f cdv A outer s H E) (j9 st) (tTurn K)):FnOk P w K mg base CX (k+1) f fd ps (Ae K):=by
 obtain⟨oc,od,kV,doc,pm,an,cdv,ct,osl,rfl,lk,hcd⟩:=Fu.ex
 refine N8 lk hcd S (fun vs H Q E h=>?_) fun A outer s H vs Q E hr h=>⟨_,body cdv A outer s H E,KS h⟩
 obtain⟨C,a,dx,e,vk,vb,ws,v,rfl,_⟩:=h
 rw[hp];rfl
def K6(K:PySem.W.Frag):Sp:=fun vs H Q _=>∃ C a dx e vk vb ws y kd b es,vs=[.ref a]∧BookH K H C a dx e vk vb (ws++[y])∧Rp K emp (.obj C kd b es) H (.ref a)∧es≠[]∧∀ H',Same H H'→Q .non (upd (upd H' e (.lst ws)) a (.ins C dx (bkF vk y e)))
def tTake(X:Cx)(Fc:FT)(t:TS):TS:=tSeq (tIfS (upB X Fc) t t7) (sFld X.K (tVar 0) (tBM0 X.K "list" rPop (tFld X.K (tVar 0) "earlier")) "bills")
theorem KU{X:Cx}{vs:List V}{H:Hp}{Q:VK}{E:XK}{Fc:FT}{t:TS}(h0:X.H₀=H)(hN:N.length=1)(h:K6 X.K vs H Q E)(hc:∀ C kd b es,es≠[]→Fc [.sh false (.obj C kd b es)]=some false):tTake X Fc t { nx:=fun _ H'=>Q .non H',rt:=Q } (start N vs) H:=by
 obtain⟨C,a,dx,e,vk,vb,ws,y,kd,b,es,rfl,bh,r,ne,q⟩:=h
 have rb:=(A8 (N:=N) (X:=X) (H:=H) (cs:=[.sh false (.obj C kd b es)]) (vs:=[.ref a]) h0 (show ∃ v r',[V.ref a]=v::r'∧Ad X.K H v (.sh false (.obj C kd b es))∧CellsE X.K H [] r' from⟨_,_,rfl,⟨rfl,r⟩,rfl⟩)).all
 have er:rhoC N.length [.sh false (.obj C kd b es)]=[.sh false (.obj C kd b es)]:=by unfold rhoC;rw[hN];rfl
 rw[er]at rb
 refine⟨_,false,rb,hc C kd b es ne,fun H' sm=>?_⟩
 have b':=bh.mono sm
 have l1:List.lookup ("earlier" : Str) (bkF vk vb e)=some (.ref e):=rfl
 dsimp only
 rw[if_neg (by decide)]
 unfold t7
 dsimp only
 refine⟨.ref a,rfl,a,C,dx,_,.ref e,rfl,b'.ins,b'.bk.cls,b'.bk.n3,l1,.inl ⟨rfl,_,SqL.of b'.lst⟩,e,ws++[y],y,rfl,rfl,b'.lst,by simp,?_⟩
 rw[List.dropLast_concat]
 exact⟨.ref a,rfl,a,C,dx,bkF vk vb e,rfl,by rw[i0 (Ne.symm b'.ne)];exact b'.ins,b'.bk.cls,b'.bk.n2,show 3<1000 by decide,q H' sm⟩
theorem KW{Fc:FT}(Fu:Fun K x qual st f fd)(S:FnScope N ps (f8 st))(hp:ps.length=1)(hN:N.length=1)(hc:∀ C kd b es,es≠[]→Fc [.sh false (.obj C kd b es)]=some false)
   (body:∀(cdv:Value) (A:Around) (outer:List Env) (s:Shared) (H:Hp) (E:XK),Room k (A.deeper (envOfC qual (f8 st) s.heap.objs.size f cdv))→∃ t,PSs (cxOf CX P w K mg base N qual (f8 st) f cdv A outer s H E) (j9 st) (tTake (cxOf CX P w K mg base N qual (f8 st) f cdv A outer s H E) Fc t)):FnOk P w K mg base CX (k+1) f fd ps (K6 K):=by
 obtain⟨oc,od,kV,doc,pm,an,cdv,ct,osl,rfl,lk,hcd⟩:=Fu.ex
 refine N8 lk hcd S (fun vs H Q E h=>?_) fun A outer s H vs Q E hr h=>?_
 · obtain⟨C,a,dx,e,vk,vb,ws,v,_,_,_,rfl,_⟩:=h
   rw[hp];rfl
 · obtain⟨t,ht⟩:=body cdv A outer s H E hr
   exact⟨_,ht,KU (E:=E) rfl hN h hc⟩
def BS(K:PySem.W.Frag)(ok:Dt→Prop):Sp:=fun vs H Q _=>∃ C x dx v d,vs=[.ref x,v]∧Rp K emp d H v∧ok d∧Bk K C∧H x=some (.ins C dx [])∧H dx=some (.own x) ∧
 ∀ b e H',H b=none→H e=none→b≠e→BookH K H' C x dx e v (.ref b) []→H' b=some (.lst [])→(∀ a o,a≠x→H a=some o→H' a=some o)→Q .non H'
def tInit(X:Cx)(F:FE):TS:=tSeq (N7 (upF X F)) (tSeq (sFld X.K (tVar 0) (tVar 1) "kinds") (tSeq (sFld X.K (tVar 0) (tLst tNil) "bills") (sFld X.K (tVar 0) (tLst tNil) "earlier")))
theorem KY{X:Cx}{vs:List V}{H:Hp}{Q:VK}{E:XK}{F:FE}{ok:Dt→Prop}(h0:X.H₀=H)(hN:N.length=2)(h:BS X.K ok vs H Q E)(hc:∀ d,ok d→∃ z,F [.no,.sh false d]=some z):tInit X F { nx:=fun _ H'=>Q .non H',rt:=Q } (start N vs) H:=by
 obtain⟨C,x,dx,v,d,rfl,r,o,bk,h1,h2,q⟩:=h
 have rb:=(A8 (N:=N) (X:=X) (H:=H) (cs:=[.no,.sh false d]) (vs:=[.ref x,v]) h0 (show ∃ v' r',[V.ref x,v]=v'::r'∧Ad X.K H v' .no∧CellsE X.K H [.sh false d] r' from⟨_,_,rfl,True.intro,_,_,rfl,⟨rfl,r⟩,rfl⟩)).all
 have er:rhoC N.length [.no,.sh false d]=[.no,.sh false d]:=by unfold rhoC;rw[hN];rfl
 rw[er]at rb
 obtain⟨⟨f,d'⟩,e1⟩:=hc d o
 refine⟨_,f,d',rb,e1,fun _ H1 s1 _=>?_⟩
 have g1:=s1 _ _ h1
 have g2:=s1 _ _ h2
 have nd:dx≠x:=fun z=>by rw[z,g1]at g2;cases g2
 refine⟨v,rfl,.ref x,rfl,x,C,dx,[],rfl,g1,bk.cls,bk.n1,by decide,?_⟩
 refine⟨by decide,fun b hb=>⟨.ref x,rfl,x,C,dx,[("kinds",v)],rfl,?_,bk.cls,bk.n2,show 1<1000 by decide,?_⟩⟩
 · have:x≠b:=fun z=>by rw[←z,j0]at hb;cases hb
   rw[i0 this,j0];rfl
 refine⟨by decide,fun e he=>⟨.ref x,rfl,x,C,dx,[("kinds",v),("bills",.ref b)],rfl,?_,bk.cls,bk.n3,show 2<1000 by decide,?_⟩⟩
 · have:x≠e:=fun z=>by rw[←z,j0]at he;cases he
   rw[i0 this,j0];rfl
 have xb:b≠x:=fun z=>by rw[z,j0]at hb;cases hb
 have xe:e≠x:=fun z=>by rw[z,j0]at he;cases he
 have be:b≠e:=fun z=>by rw[←z,i0 xb,j0]at he;cases he
 have hb':H1 b=none:=by rw[i0 xb]at hb;exact hb
 have he':H1 e=none:=by rw[i0 xe,i0 (Ne.symm be),i0 xe]at he;exact he
 have db:dx≠b:=fun z=>by rw[←z,g2]at hb';cases hb'
 have de:dx≠e:=fun z=>by rw[←z,g2]at he';cases he'
 have no:∀ a,H1 a=none→H a=none:=fun a z=>by
   cases w:H a with
   | none=>rfl
   | some o=>rw[s1 _ _ w]at z;cases z
 refine q b e _ (no b hb') (no e he') be ⟨bk,by rw[j0];rfl,by rw[i0 nd,i0 de,i0 nd,i0 db,i0 nd];exact g2,by rw[i0 xe,j0]⟩ (by rw[i0 xb,i0 be,i0 xb,j0]) fun a o na ha=>?_
 have ha:=s1 _ _ ha
 have ab:a≠b:=fun z=>by rw[z,hb']at ha;cases ha
 have ae:a≠e:=fun z=>by rw[z,he']at ha;cases ha
 rw[i0 na,i0 ae,i0 na,i0 ab,i0 na];exact ha
theorem KZ{F:FE}{ok:Dt→Prop}(Fu:Fun K x qual st f fd)(S:FnScope N ps (f8 st))(hp:ps.length=2)(hN:N.length=2)(hc:∀ d,ok d→∃ z,F [.no,.sh false d]=some z)
  (body:∀(cdv:Value) (A:Around) (outer:List Env) (s:Shared) (H:Hp) (E:XK),Room k (A.deeper (envOfC qual (f8 st) s.heap.objs.size f cdv))→PSs (cxOf CX P w K mg base N qual (f8 st) f cdv A outer s H E) (j9 st) (tInit (cxOf CX P w K mg base N qual (f8 st) f cdv A outer s H E) F)):FnOk P w K mg base CX (k+1) f fd ps (BS K ok):=by
 obtain⟨oc,od,kV,doc,pm,an,cdv,ct,osl,rfl,lk,hcd⟩:=Fu.ex
 refine N8 lk hcd S (fun vs H Q E h=>?_) fun A outer s H vs Q E hr h=>⟨_,body cdv A outer s H E hr,KY (E:=E) rfl hN h hc⟩
 obtain⟨C,a,dx,v,d,rfl,_⟩:=h
 rw[hp];rfl
def z5(K:PySem.W.Frag)(C:Addr)(ok:Dt→Dt→List Dt→Dt→Dt→Prop):Sp:=fun vs H Q _=>∃ a dx e vk vb ws kd b es d v nb,vs=[.ref a,v]∧BookH K H C a dx e vk vb ws∧Rp K emp (.obj C kd b es) H (.ref a)∧Rp K emp d H v∧ok kd b es d nb∧ws.length<sizeLine ∧
 ∀ H' u,Same H H'→Rp K H nb H' u→Q .non (S3 H' C a dx e vk vb u ws)
def tHand(X:Cx)(F:FE)(Fc:FT)(t:TS)(C:Addr)(Fs:FA):TS:=tSeq (N7 (upF X F)) (tSeq (tIfS (upB X Fc) t t7) (N7 (Y4 C "turn_to" (Ae X.K) [] E0 (tVar 0) (upAs X Fs))))
theorem La{X:Cx}{C:Addr}{vs:List V}{H:Hp}{Q:VK}{E:XK}{F:FE}{Fc:FT}{Fs:FA}{t:TS}{ok:Dt→Dt→List Dt→Dt→Dt→Prop}(h0:X.H₀=H)(hN:N.length=2)(h:z5 X.K C ok vs H Q E)
  (hc:∀ kd b es d nb,ok kd b es d nb→(∃ z,F [.sh false (.obj C kd b es),.sh false d]=some z)∧Fc [.sh false (.obj C kd b es),.sh false d]=some false∧Fs [.sh false (.obj C kd b es),.sh false d]=some [(.nw,nb)]) :
  tHand X F Fc t C Fs { nx:=fun _ H'=>Q .non H',rt:=Q } (start N vs) H:=by
 obtain⟨a,dx,e,vk,vb,ws,kd,b,es,d,v,nb,rfl,bh,r,r2,o,hz,q⟩:=h
 have rb:=(A8 (N:=N) (X:=X) (H:=H) (cs:=[.sh false (.obj C kd b es),.sh false d]) (vs:=[.ref a,v]) h0 (show ∃ v' r',[V.ref a,v]=v'::r'∧Ad X.K H v' (.sh false (.obj C kd b es))∧CellsE X.K H [.sh false d] r' from⟨_,_,rfl,⟨rfl,r⟩,_,_,rfl,⟨rfl,r2⟩,rfl⟩)).all
 have er:rhoC N.length [.sh false (.obj C kd b es),.sh false d]=[.sh false (.obj C kd b es),.sh false d]:=by unfold rhoC;rw[hN];rfl
 rw[er]at rb
 obtain⟨⟨⟨f,d'⟩,e1⟩,e2,e3⟩:=hc kd b es d nb o
 refine⟨_,f,d',rb,e1,fun _ H1 s1 _=>⟨_,false,rb.mono s1,e2,fun H2 s2=>?_⟩⟩
 dsimp only
 rw[if_neg (by decide)]
 unfold t7
 dsimp only
 have b2:=bh.mono (s1.trans s2)
 refine⟨.ref a,rfl,a,dx,_,rfl,b2.ins,rfl,_,_,rb.mono (s1.trans s2),e3,fun us H3 s3 r3=>?_⟩
 obtain⟨u,rr,rfl,r4,r5⟩:=r3
 have r5:rr=[]:=r5
 subst r5
 have r4:Rp X.K H2 nb H3 u:=r4
 exact⟨C,a,dx,e,vk,vb,ws,u,rfl,b2.mono s3,hz,q H3 u (s1.trans (s2.trans s3)) (Rp.anti (s1.trans s2) _ r4)⟩
theorem Lb{C:Addr}{F:FE}{Fc:FT}{Fs:FA}{ok:Dt→Dt→List Dt→Dt→Dt→Prop}(Fu:Fun K x qual st f fd)(S:FnScope N ps (f8 st))(hp:ps.length=2)(hN:N.length=2)
   (hc:∀ kd b es d nb,ok kd b es d nb→(∃ z,F [.sh false (.obj C kd b es),.sh false d]=some z)∧Fc [.sh false (.obj C kd b es),.sh false d]=some false∧Fs [.sh false (.obj C kd b es),.sh false d]=some [(.nw,nb)])
   (body:∀(cdv:Value) (A:Around) (outer:List Env) (s:Shared) (H:Hp) (E:XK),Room k (A.deeper (envOfC qual (f8 st) s.heap.objs.size f cdv))→∃ t,PSs (cxOf CX P w K mg base N qual (f8 st) f cdv A outer s H E) (j9 st) (tHand (cxOf CX P w K mg base N qual (f8 st) f cdv A outer s H E) F Fc t C Fs)):FnOk P w K mg base CX (k+1) f fd ps (z5 K C ok):=by
 obtain⟨oc,od,kV,doc,pm,an,cdv,ct,osl,rfl,lk,hcd⟩:=Fu.ex
 refine N8 lk hcd S (fun vs H Q E h=>?_) fun A outer s H vs Q E hr h=>?_
 · obtain⟨a,dx,e,vk,vb,ws,kd,b,es,d,v,nb,rfl,_⟩:=h
   rw[hp];rfl
 · obtain⟨t,ht⟩:=body cdv A outer s H E hr
   exact⟨_,ht,La (E:=E) rfl hN h hc⟩
end
section
variable {X:Cx}{e:Expr}{es:List Expr}{pos p:Pos}{Fs:FA}{k k':Nat}{f C:Addr}{fd:FuncData}{ps:List Str}{x:Str}{ok:Dt→Prop}
noncomputable def Ih(C:Addr)(ok:Dt→Prop)(Fs:FA):FE:=fun ρ=>(Fs ρ).bind fun xs=>match xs with
 | [(_,.int n)]=>open Classical in if ok (.int n) then some (.nw,.obj C (.int n) (.lst []) []) else none
 | _=>none
theorem Ii(bk:Bk X.K C)(M:Mk X.K C f)(F:FnOk X.prog X.w X.K X.mg X.base CX0 k f fd ps (BS X.K ok))(hr:Room k' X.A)(hg:Gl X x)(hm:X.mg x=some (.ref C))(hb:Binds X.K fd ps [])(ha:PFA X (e::es) Fs)(hle:k+1≤k':=by decide)
  (hdb:(x==("__debug__" : Str))=false:=by decide) (hst:starEach (e::es) X.env=(false,eval e X.env)::starEach es X.env:=by rfl) (hpl:(backTo pos (starEach es X.env)).any (·.1)=false:=by rfl) :
  PF X (.Call (.Name x p) (e::es) [] pos) (Ih C ok Fs) :=
 (Kz (E:=E0) (dvs:=[]) M F (hr.mono hle) hg hm hb .nil O0 ha hdb hst hpl).imp fun σ H Q ⟨ρ,fl,d,rs,e0,k⟩=>by
  obtain⟨xs,e1,e2⟩:=g5 e0
  obtain⟨fx,n,rfl,hok,e3⟩:∃ fx n,xs=[(fx,.int n)]∧ok (.int n)∧(Fl.nw,Dt.obj C (.int n) (.lst []) [])=(fl,d):=by
   split at e2
   · rename_i fx n
     split at e2
     · rename_i h
       exact⟨fx,n,rfl,h,Option.some.inj e2⟩
     · cases e2
   · cases e2
  cases e3
  refine⟨ρ,_,rs,e1,fun vs H1 s1 r1 y dy f1 f2 ne=>?_⟩
  obtain⟨v,rr,rfl,r2,r3⟩:=r1
  have r3:rr=[]:=r3
  subst r3
  obtain rfl:v = .int n:=Rp.int_.mp r2.sh
  have yd:y≠dy:=Ne.symm ne
  refine⟨C,y,dy,.int n,.int n,rfl,Rp.int_.mpr rfl,hok,bk,j0,by rw[i0 ne,j0],fun b l H' hb hl hbl bh hb' keep=>⟨rfl,?_⟩⟩
  have sm:Same H1 H':=fun a o ha=>by
   have n1:a≠y:=fun z=>by rw[z,f1]at ha;cases ha
   have n2:a≠dy:=fun z=>by rw[z,f2]at ha;cases ha
   exact keep a o n1 (by rw[i0 n1,i0 n2];exact ha)
  have no:∀ a,H1 a=none→H a=none:=fun a z=>by
   cases w:H a with
   | none=>rfl
   | some o=>rw[s1 _ _ w]at z;cases z
  have by_:b≠y:=fun z=>by rw[z,j0]at hb;cases hb
  have ly:l≠y:=fun z=>by rw[z,j0]at hl;cases hl
  have hb1:H1 b=none:=by
   rw[i0 by_]at hb
   by_cases z:b=dy
   · rw[z];exact f2
   · rw[i0 z]at hb;exact hb
  have hl1:H1 l=none:=by
   rw[i0 ly]at hl
   by_cases z:l=dy
   · rw[z];exact f2
   · rw[i0 z]at hl;exact hl
  refine k (.ref y) H' (s1.trans sm) (show Rp X.K H (.obj C (.int n) (.lst []) []) H' (.ref y)from Rp.obj_.mpr ⟨y,dy,.int n,.ref b,l,[],rfl,no y f1,bh.ins,bh.own,no l hl1,bh.lst,bk,Rp.int_.mpr rfl,Rp.lst_.mpr ⟨b,[],rfl,no b hb1,?_,Rps.nil_.mpr rfl⟩,Rps.nil_.mpr rfl⟩)
  rw[i7 (by simp;exact⟨by_,hbl⟩)]
  exact hb'
end
end L2

end
section
set_option Elab.async false
set_option linter.all false
set_option maxRecDepth 100000
namespace L2
open PySem PySem.Spec PySem.W PyProof.Rows
section
variable {K:PySem.W.Frag}{B H:Hp}
theorem SqT.updI{a b C dx:Addr}{fs:List (Str×V)}{o:HO}{xs:List V}(hb:H b=some (.ins C dx fs))(h:SqT K H a xs):SqT K (upd H b o) a xs:=by
 rcases h with(h|⟨q,h⟩)|h
 · exact .inl (.inl (by rw[i0 fun z=>by rw[z,hb]at h;cases h];exact h))
 · exact .inl (.inr ⟨q,by rw[i0 fun z=>by rw[z,hb]at h;cases h];exact h⟩)
 · exact .inr h
mutual
theorem Rp.flat_updI{b C dx:Addr}{fs:List (Str×V)}{o:HO}(hb:H b=some (.ins C dx fs)):∀(d:Dt) {v:V},d.flat=true→Rp K B d H v→Rp K B d (upd H b o) v
 | .non,v,_,h=>by unfold Rp at h ⊢;exact h
 | .bl _,v,_,h=>by unfold Rp at h ⊢;exact h
 | .int _,v,_,h=>by unfold Rp at h ⊢;exact h
 | .str _,v,_,h=>by unfold Rp at h ⊢;exact h
 | .dic,v,_,h=>by unfold Rp at h ⊢;obtain⟨a,q,r⟩:=h;exact⟨a,q,by rw[i0 fun z=>by rw[z,hb]at r;cases r];exact r⟩
 | .lst ds,v,f,h=>by unfold Dt.flat at f;cases f
 | .scr ds,v,f,h=>by unfold Dt.flat at f;cases f
 | .obj _ _ _ _,v,f,h=>by unfold Dt.flat at f;cases f
 | .tup ds,v,f,h=>by
  unfold Dt.flat at f
  unfold Rp at h ⊢
  obtain⟨a,vs,rfl,h1,h2⟩:=h
  exact⟨a,vs,rfl,h1.updI hb,Rps.flat_updI hb ds f h2⟩
theorem Rps.flat_updI{b C dx:Addr}{fs:List (Str×V)}{o:HO}(hb:H b=some (.ins C dx fs)):∀(ds:List Dt) {vs:List V},n9 ds=true→Rps K B ds H vs→Rps K B ds (upd H b o) vs
 | [],vs,_,h=>by unfold Rps at h ⊢;exact h
 | d::ds,vs,f,h=>by
  unfold n9 at f
  rw[Bool.and_eq_true]at f
  unfold Rps at h ⊢
  obtain⟨v,r,rfl,h1,h2⟩:=h
  exact⟨v,r,rfl,Rp.flat_updI hb d f.1 h1,Rps.flat_updI hb ds f.2 h2⟩
end
end
end L2

end
section
set_option Elab.async false
set_option linter.all false
set_option maxRecDepth 100000
namespace L2
open PySem PySem.Spec PySem.W PyProof.Rows
def isLI:HO→Prop
 | .lst _=>True
 | .ins _ _ _=>True
 | _=>False
section
variable {K:PySem.W.Frag}{B B' H:Hp}
theorem SqT.hidI{A:List Addr}{a:Addr}{xs:List V}(hA:∀ b∈A,∀ o,H b=some o→isLI o)(h:SqT K H a xs):SqT K (hidL A H) a xs:=by
 rcases h with(h|⟨q,h⟩)|h
 · have:a ∉ A:=fun z=>hA a z _ h
   exact .inl (.inl (by rw[i7 this];exact h))
 · have:a ∉ A:=fun z=>hA a z _ h
   exact .inl (.inr ⟨q,by rw[i7 this];exact h⟩)
 · exact .inr h
mutual
theorem Rp.flat_hid{A:List Addr}(hA:∀ b∈A,∀ o,H b=some o→isLI o):∀(d:Dt) {v:V},d.flat=true→Rp K B d H v→Rp K B' d (hidL A H) v
 | .non,v,_,h=>by unfold Rp at h ⊢;exact h
 | .bl _,v,_,h=>by unfold Rp at h ⊢;exact h
 | .int _,v,_,h=>by unfold Rp at h ⊢;exact h
 | .str _,v,_,h=>by unfold Rp at h ⊢;exact h
 | .dic,v,_,h=>by
  unfold Rp at h ⊢
  obtain⟨a,q,r⟩:=h
  have:a ∉ A:=fun z=>hA a z _ r
  exact⟨a,q,by rw[i7 this];exact r⟩
 | .lst ds,v,f,h=>by unfold Dt.flat at f;cases f
 | .scr ds,v,f,h=>by unfold Dt.flat at f;cases f
 | .obj _ _ _ _,v,f,h=>by unfold Dt.flat at f;cases f
 | .tup ds,v,f,h=>by
  unfold Dt.flat at f
  unfold Rp at h ⊢
  obtain⟨a,vs,rfl,h1,h2⟩:=h
  exact⟨a,vs,rfl,h1.hidI hA,Rps.flat_hid hA ds f h2⟩
theorem Rps.flat_hid{A:List Addr}(hA:∀ b∈A,∀ o,H b=some o→isLI o):∀(ds:List Dt) {vs:List V},n9 ds=true→Rps K B ds H vs→Rps K B' ds (hidL A H) vs
 | [],vs,_,h=>by unfold Rps at h ⊢;exact h
 | d::ds,vs,f,h=>by
  unfold n9 at f
  rw[Bool.and_eq_true]at f
  unfold Rps at h ⊢
  obtain⟨v,r,rfl,h1,h2⟩:=h
  exact⟨v,r,rfl,Rp.flat_hid hA d f.1 h1,Rps.flat_hid hA ds f.2 h2⟩
end
end
abbrev okH(nbf:Dt→Dt→List Dt→Dt→Option (List Dt)):Dt→Dt→List Dt→Dt→Dt→Prop:=fun kd b es d nb=>∃ ts,nbf kd b es d=some ts∧nb = .lst ts
section
variable {X:Cx}{y:Str}{e:Expr}{Fe:FE}{i:Nat}{py apos cpos pos:Pos}{rest:List Stmt}{G:FS}{C f:Addr}{fd:FuncData}{ps:List Str}{qual:Str}{st:Stmt}{k k':Nat}{nbf:Dt→Dt→List Dt→Dt→Option (List Dt)}
end
end L2

end
section
set_option Elab.async false
set_option linter.all false
set_option maxRecDepth 100000
namespace L2
open PySem PySem.Spec PySem.W PyProof.Rows
section
variable {X:Cx}{y:Str}{A:Expr}{FA:FT}{a:List Stmt}{i:Nat}{py apos cpos p1 p2 pos npos:Pos}{nj:Nat}{rest:List Stmt}{G Gb:FS}{C f:Addr}{fd:FuncData}{ps:List Str}{qual:Str}{st:Stmt}{k k':Nat}
end
end L2

end
section
set_option Elab.async false
set_option linter.all false
set_option maxRecDepth 100000
namespace L2
open PySem PySem.Spec PySem.W PyProof.Rows
section
variable {X:Cx}{pins:List (Addr×Obj)}{σ:St}{H H1 H' H₀:Hp}{s s1:Shared}{ea C M:Addr}{cx:Value}{E:Value→Shared→Prop}
theorem GR{Q:Flow→Shared→Prop}{nm:Option Str}{body:List Stmt}{hpos np:Pos}{x:Str}{rest:List ExceptHandler}(I1:Inv X pins σ H1 s1)(a:At X pins σ H1 s1 H' ea C cx s)(hg:Gl X x)(hm:X.mg x=some (.ref M))(hit:exmOne X.K (.ref C) (.ref M)=some false)(hdb:(x==("__debug__" : Str))=false)
  (h:wpAny (model X.prog X.w) X.A (handleBy (.ref ea) X.env rest) Q E s) :
  wpAny (model X.prog X.w) X.A (handleBy (.ref ea) X.env (.ExceptHandler (some (.Name x np)) nm body hpos::rest)) Q E s:=by
 refine wpAny_handleBy_cons (codeAny_handlers_test (M0 (X:=X.caught ea) (a.inv.caught ea) hg hm ?_ hdb)) (fun z=>nomatch z)
 exact exm_one a.inv.kIn a.looks hit _ _ _ s (fun b o e=>e) h
end
structure Mis(K:PySem.W.Frag)(mg:Str→Option Value)(mis:Nat→Bool)(x:Str)(M:Addr):Prop where
 gl:mg x=some (.ref M)
 mis:∀ n C,mis n=true→mg (exN n)=some (.ref C)→exmOne K (.ref C) (.ref M)=some false
section
variable {X:Cx}{C:Addr}{n:Nat}{e:Expr}{es:List Expr}{pos pos' tpos hpos np:Pos}{Fs:FA}{fr:Bool}{k k':Nat}{f:Addr}{fd:FuncData}{ps:List Str}{x y:Str}{st:Stmt}{p:Pos}{ct:FX}
end
end L2

end
section
set_option Elab.async false
set_option linter.all false
set_option maxRecDepth 100000
namespace L2
open PySem PySem.Spec PySem.W PyProof.Rows
abbrev Cx.pw(X:Cx)(pins:List (Addr×Obj))(E:Value→Shared→Prop):Cx:={ X with pn:=X.pn++pins,xe:=E }
section
variable {X:Cx}{pins pins':List (Addr×Obj)}{σ:St}{H:Hp}{s:Shared}{E:Value→Shared→Prop}
theorem Cx.Ok.pw(ok:X.Ok):(X.pw pins E).Ok :=
 ⟨ok.mod,ok.kind,ok.glob,ok.blt,ok.above,ok.inj,ok.has,ok.cab,ok.hd,ok.frames,ok.stk,ok.exf,ok.bs,ok.bsz,ok.noex,ok.exfs,ok.funs,ok.frf⟩
theorem Cx.Ok.unpw(ok:(X.pw pins E).Ok):X.Ok :=
 ⟨ok.mod,ok.kind,ok.glob,ok.blt,ok.above,ok.inj,ok.has,ok.cab,ok.hd,ok.frames,ok.stk,ok.exf,ok.bs,ok.bsz,ok.noex,ok.exfs,ok.funs,ok.frf⟩
theorem Inv.pw(I:Inv X pins σ H s)(E:Value→Shared→Prop):Inv (X.pw pins E) [] σ H s:=⟨I.ok.pw,I.os,I.bare,I.base,I.loc,I.cell,I.free,I.freeC,fun p hp=>I.pin p (by rw[List.append_nil]at hp;exact hp),I.hok,I.len⟩
theorem Inv.unpw(I:Inv (X.pw pins E) pins' σ H s):Inv X pins σ H s:=⟨I.ok.unpw,I.os,I.bare,I.base,I.loc,I.cell,I.free,I.freeC,fun p hp=>I.pin p (List.mem_append_left _ hp),I.hok,I.len⟩
end
def ExAt(X:Cx)(pins:List (Addr×Obj))(H:Hp)(m:Nat):Value→Shared→Prop:=fun e s'=>∃ σ' H1 s1 H' ea C cx,e = .ref ea∧Inv X pins σ' H1 s1∧X.mg (exN m)=some (.ref C)∧Same H H'∧At X pins σ' H1 s1 H' ea C cx s'
def EXm(X:Cx)(H:Hp)(m:Nat):XK:=fun c _ H'=>∃ C,c = .ref C∧X.mg (exN m)=some (.ref C)∧Same H H'
section
variable {X:Cx}{body:List Stmt}{y y2:Str}{M M2:Addr}{v1 v2:Str}{np np2 hpos hpos2 rp rp2 cp cp2 tpos:Pos}{k1 k2:Nat}
theorem Ij{pins:List (Addr×Obj)}{H:Hp}{m:Nat}:B5 (CX1 X.prog X.w) (X.pw pins (ExAt X pins H m)) (EXm X H m):=by
 rintro pins' σ' H1 s1 e s' J ⟨ea,C,H',c0,rfl,os,bare,un,hok,fly,C',ec,hC,sm⟩
 cases ec
 have J:=J.unpw
 exact⟨σ',H1,s1,H',ea,C,c0,rfl,J,hC,sm,J.call' (ch:=[]) os un hok bare fun b z=>absurd z (by simp),fly,un⟩
theorem Lc{t:TS}{h0:ExceptHandler}{hs0:List ExceptHandler}(hb:∀ E1,PSs (X.wish E1) body t):PS X (.Try body (h0::hs0) [] [] tpos) t:=by
 intro pins s σ H D I h
 have go:∀ E1,wpAny (model X.prog X.w) X.A (execs body X.env) (SP (X.wish E1) pins D) E1 s:=fun E1=>hb E1 pins s σ H D (I.wish E1) h
 refine wpAny_Try_except (thn (go _) fun f s1 z=>?_)
 have z:=z.unwish
 cases f with
 | next=>exact wpAny_execs_nil z
 | ret v=>exact z
 | brk=>exact z
 | cont=>exact z
def Ends.no:Ends:={ nx:=fun _ _=>False,bk:=fun _ _=>False,ct:=fun _ _=>False,rt:=fun _ _=>False }
theorem Ld{t:Hp→Nat→TS}{hits mis hits2:Nat→Bool}(hb:∀ pins H m,PSs (X.pw pins (ExAt X pins H m)) body (t H m))(hgy:Gl X y)(hh:Hit X.K X.mg hits y M)(hgy2:Gl X y2)(hm:Mis X.K X.mg mis y M)(hh2:Hit X.K X.mg hits2 y2 M2)
   (hdy:(y==("__debug__" : Str))=false:=by decide) (hdy2:(y2==("__debug__" : Str))=false:=by decide) (hstk:X.stack=X.env::X.outer:=by rfl) (hfr:X.env.frame=some X.env.locals:=by rfl) :
   PS X (.Try body [.ExceptHandler (some (.Name y np)) none [.Return (some (.Constant (.str v1) k1 cp)) rp] hpos,.ExceptHandler (some (.Name y2 np2)) none [.Return (some (.Constant (.str v2) k2 cp2)) rp2] hpos2] [] [] tpos)
     (fun D σ H=>∃ m,t H m Ends.no σ H∧((hits m=true∧∀ H',Same H H'→D.rt (.str v1) H')∨(mis m=true∧hits2 m=true∧∀ H',Same H H'→D.rt (.str v2) H'))):=by
 rintro pins s σ H D I ⟨m,ht,hq⟩
 refine wpAny_Try_except ?_
 refine wpAny_mono (hb pins H m [] s σ H Ends.no (I.pw _) ht) (fun f s1 z=>?_) fun e s' z=>?_
 · cases f with
   | next=>obtain⟨_,_,_,q⟩:=z;exact q.elim
   | brk=>obtain⟨_,_,_,q⟩:=z;exact q.elim
   | cont=>obtain⟨_,_,_,q⟩:=z;exact q.elim
   | ret u=>obtain⟨_,_,_,_,_,q⟩:=z;exact q.elim
 · obtain⟨σ',H1,s1,H',ea,C,cx,rfl,J,hC,sm,a⟩:=z
   refine GO J a hstk hfr fun s2 a=>?_
   rcases hq with⟨h1,q⟩|⟨h1,h2,q⟩
   · refine Ia J a hgy hh.gl (hh.hit m C h1 hC).1 hdy (codeAny_handlers_suite (Aa J a fun s3 a3=>?_))
     exact wpAny_mono (j8 (r0 O9) pins s3 σ' H' D (a3.inv.caught ea) (q H' sm)) (fun f s4 z=>SP.uncaught I.ok z) fun _ _ z=>z.elim
   · refine GR J a hgy hm.gl (hm.mis m C h1 hC) hdy (Ia J a hgy2 hh2.gl (hh2.hit m C h2 hC).1 hdy2 (codeAny_handlers_suite (Aa J a fun s3 a3=>?_)))
     exact wpAny_mono (j8 (r0 O9) pins s3 σ' H' D (a3.inv.caught ea) (q H' sm)) (fun f s4 z=>SP.uncaught I.ok z) fun _ _ z=>z.elim
end
end L2

end
section
set_option Elab.async false
set_option linter.all false
set_option maxRecDepth 100000
namespace L2
open PySem PySem.Spec PySem.W PyProof.Rows
section
variable {CX:CXT}{P:Program}{w:World}{K:PySem.W.Frag}{mg:Str→Option Value}{base:Heap}{x qual:Str}{st:Stmt}{f:Addr}{fd:FuncData}{N ps:List Str}{k:Nat}
def Ik(X:Cx)(Fc:FT)(t:TS)(C:Addr)(Fs:FA):TS:=tSeq (tIfS (upB X Fc) t t7) (N7 (Y4 C "turn_to" (Ae X.K) [] E0 (tVar 0) (upAs X Fs)))
theorem Le{X:Cx}{C:Addr}{vs:List V}{H:Hp}{Q:VK}{E:XK}{Fc:FT}{Fs:FA}{t:TS}{ok:Dt→Dt→List Dt→Dt→Dt→Prop}(h0:X.H₀=H)(hN:N.length=2)(h:z5 X.K C ok vs H Q E)
  (hc:∀ kd b es d nb,ok kd b es d nb→Fc [.sh false (.obj C kd b es),.sh false d]=some false∧Fs [.sh false (.obj C kd b es),.sh false d]=some [(.nw,nb)]) :
  Ik X Fc t C Fs { nx:=fun _ H'=>Q .non H',rt:=Q } (start N vs) H:=by
 obtain⟨a,dx,e,vk,vb,ws,kd,b,es,d,v,nb,rfl,bh,r,r2,o,hz,q⟩:=h
 have rb:=(A8 (N:=N) (X:=X) (H:=H) (cs:=[.sh false (.obj C kd b es),.sh false d]) (vs:=[.ref a,v]) h0 (show ∃ v' r',[V.ref a,v]=v'::r'∧Ad X.K H v' (.sh false (.obj C kd b es))∧CellsE X.K H [.sh false d] r' from⟨_,_,rfl,⟨rfl,r⟩,_,_,rfl,⟨rfl,r2⟩,rfl⟩)).all
 have er:rhoC N.length [.sh false (.obj C kd b es),.sh false d]=[.sh false (.obj C kd b es),.sh false d]:=by unfold rhoC;rw[hN];rfl
 rw[er]at rb
 obtain⟨e2,e3⟩:=hc kd b es d nb o
 refine⟨_,false,rb,e2,fun H2 s2=>?_⟩
 dsimp only
 rw[if_neg (by decide)]
 unfold t7
 dsimp only
 have b2:=bh.mono s2
 refine⟨.ref a,rfl,a,dx,_,rfl,b2.ins,rfl,_,_,rb.mono s2,e3,fun us H3 s3 r3=>?_⟩
 obtain⟨u,rr,rfl,r4,r5⟩:=r3
 have r5:rr=[]:=r5
 subst r5
 have r4:Rp X.K H2 nb H3 u:=r4
 exact⟨C,a,dx,e,vk,vb,ws,u,rfl,b2.mono s3,hz,q H3 u (s2.trans s3) (Rp.anti s2 _ r4)⟩
theorem Lf{C:Addr}{Fc:FT}{Fs:FA}{ok:Dt→Dt→List Dt→Dt→Dt→Prop}(Fu:Fun K x qual st f fd)(S:FnScope N ps (f8 st))(hp:ps.length=2)(hN:N.length=2)
   (hc:∀ kd b es d nb,ok kd b es d nb→Fc [.sh false (.obj C kd b es),.sh false d]=some false∧Fs [.sh false (.obj C kd b es),.sh false d]=some [(.nw,nb)])
   (body:∀(cdv:Value) (A:Around) (outer:List Env) (s:Shared) (H:Hp) (E:XK),Room k (A.deeper (envOfC qual (f8 st) s.heap.objs.size f cdv))→∃ t,PSs (cxOf CX P w K mg base N qual (f8 st) f cdv A outer s H E) (j9 st) (Ik (cxOf CX P w K mg base N qual (f8 st) f cdv A outer s H E) Fc t C Fs)):FnOk P w K mg base CX (k+1) f fd ps (z5 K C ok):=by
 obtain⟨oc,od,kV,doc,pm,an,cdv,ct,osl,rfl,lk,hcd⟩:=Fu.ex
 refine N8 lk hcd S (fun vs H Q E h=>?_) fun A outer s H vs Q E hr h=>?_
 · obtain⟨a,dx,e,vk,vb,ws,kd,b,es,d,v,nb,rfl,_⟩:=h
   rw[hp];rfl
 · obtain⟨t,ht⟩:=body cdv A outer s H E hr
   exact⟨_,ht,Le (E:=E) rfl hN h hc⟩
end
end L2

end
section
set_option Elab.async false
set_option linter.all false
set_option maxRecDepth 100000
namespace L2
open PySem PySem.Spec PySem.W PyProof.Rows
def rIs:R2:=fun x y H Q=>y = .non∧Q (.bl (decide (x = .non))) H
noncomputable abbrev dW:FE:=fAt (fN 1) (fC (.int 0))
noncomputable abbrev dU:FE:=fAt (fN 1) (fC (.int 1))
noncomputable abbrev dIs(k:Int):FT:=m4 (fOp opEq dW (fC (.int k)))
noncomputable abbrev dC1:FT:=fOr (dIs 0) (dIs 3)
noncomputable def Gh(X:Cx)(C:Addr)(sh sd st:Sp)(E:XK):TS :=
 tSeq (tIfS (upB X dC1) (tRet (tOp rIs (Y4 C "hand_in" sh [] E (tVar 0) (upAs X (f9 dU fNil))) (tC .non))) t7)
  (tSeq (tIfS (upB X (dIs 1)) (tRet (tOp rIs (Y4 C "drop" sd [] E (tVar 0) (upAs X (f9 dU fNil))) (tC .non))) t7)
   (tRet (tOp rIs (Y4 C "take_back" st [] E (tVar 0) tNil) (tC .non))))
theorem atI01{a b:Dt}:atI [a,b] (0:Int)=some a∧atI [a,b] (1:Int)=some b:=⟨rfl,rfl⟩
theorem A0{c0:Cell}{r:List Cell}{w k:Int}{u:Dt}:dIs k (c0 :: .sh false (.tup [.int w,u])::r)=some (decide (w=k)):=by
 have e:dW (c0 :: .sh false (.tup [.int w,u])::r)=some (.nw,.int w):=by
  unfold dW fAt
  simp[fOp,fN,fC,Y9,Cell.val,nrm,atI01]
 unfold dIs m4 fOp
 rw[e]
 simp[fC,p7]
theorem dU_eq{c0:Cell}{r:List Cell}{w:Int}{u:Dt}:∃ f,dU (c0 :: .sh false (.tup [.int w,u])::r)=some (f,u):=by
 unfold dU fAt
 simp[fOp,fN,fC,Y9,Cell.val,nrm,atI01]
theorem dC1_eq{c0:Cell}{r:List Cell}{w:Int}{u:Dt}:dC1 (c0 :: .sh false (.tup [.int w,u])::r)=some (decide (w=0)||decide (w=3)):=by
 unfold dC1 fOr
 rw[A0,A0]
 by_cases h:w=0<;>simp[h]
theorem Gi{X:Cx}{C a dx:Addr}{fs:List (Str×V)}{sh sd st:Sp}{E:XK}{D:Ends}{σ:St}{H:Hp}{c0:Cell}{r:List Cell}{w:Int}{u:Dt}(rs:RepS X.ky H (c0 :: .sh false (.tup [.int w,u])::r) σ)(hs:σ[0]?=some (some (.ref a)))(hi:H a=some (.ins C dx fs))(l1:fs.lookup ("hand_in" : Str)=none)(l2:fs.lookup ("drop" : Str)=none)(l3:fs.lookup ("take_back" : Str)=none)
   (h:((w=0∨w=3)∧∀ H1 v,Same H H1→Rp X.K emp u H1 v→sh [.ref a,v] H1 (fun z H'=>D.rt (.bl (decide (z = .non))) H') E)∨(w=1∧∀ H1 v,Same H H1→Rp X.K emp u H1 v→sd [.ref a,v] H1 (fun z H'=>D.rt (.bl (decide (z = .non))) H') E)∨(w=2∧∀ H1,Same H H1→st [.ref a] H1 (fun z H'=>D.rt (.bl (decide (z = .non))) H') E)):Gh X C sh sd st E D σ H:=by
 obtain⟨fu,hu⟩:=dU_eq (c0:=c0) (r:=r) (w:=w) (u:=u)
 have ha:f9 dU fNil (c0 :: .sh false (.tup [.int w,u])::r)=some [(fu,u)]:=by unfold f9 fNil;rw[hu];rfl
 refine⟨_,_,rs,dC1_eq,fun H1 s1=>?_⟩
 rcases h with⟨hw,q⟩|⟨rfl,q⟩|⟨rfl,q⟩
 · have e:(decide (w=0)||decide (w=3))=true:=by rcases hw with rfl|rfl<;>rfl
   rw[e,if_pos rfl]
   refine⟨.ref a,hs,a,dx,fs,rfl,s1 _ _ hi,l1,_,_,rs.mono s1,ha,fun vs H2 s2 r2=>?_⟩
   obtain⟨v,rr,rfl,r3,r4⟩:=r2
   have r4:rr=[]:=r4
   subst r4
   have:=q H2 v (s1.trans s2) r3.sh
   rw[List.append_nil]
   unfold rIs tC
   simpa using this
 · rw[if_neg (by decide)]
   unfold t7
   refine⟨_,_,rs.mono s1,A0,fun H2 s2=>?_⟩
   show(if decide ((1:Int)=1)=true then _ else _)
   rw[if_pos (by decide)]
   refine⟨.ref a,hs,a,dx,fs,rfl,s2 _ _ (s1 _ _ hi),l2,_,_,rs.mono (s1.trans s2),ha,fun vs H3 s3 r2=>?_⟩
   obtain⟨v,rr,rfl,r3,r4⟩:=r2
   have r4:rr=[]:=r4
   subst r4
   have:=q H3 v (s1.trans (s2.trans s3)) r3.sh
   rw[List.append_nil]
   unfold rIs tC
   simpa using this
 · rw[if_neg (by decide)]
   unfold t7
   refine⟨_,_,rs.mono s1,A0,fun H2 s2=>?_⟩
   show(if decide ((2:Int)=1)=true then _ else _)
   rw[if_neg (by decide)]
   refine⟨.ref a,hs,a,dx,fs,rfl,s2 _ _ (s1 _ _ hi),l3,?_⟩
   have:=q H2 (s1.trans s2)
   unfold tNil rIs tC
   simpa using this
def Il(K:PySem.W.Frag)(C:Addr)(xh xd xt:FX)(okh okd:Dt→Dt→List Dt→Dt→Dt→Prop):Sp:=fun vs H Q _=>∃ a vd w u kd b es,vs=[.ref a,vd]∧Rp K emp (.obj C kd b es) H (.ref a)∧Rp K emp (.tup [.int w,u]) H vd ∧
  ((∃ m,(((w=0∨w=3)∧xh [.obj C kd b es,u]=some (.inr m))∨(w=1∧xd [.obj C kd b es,u]=some (.inr m))∨(w=2∧xt [.obj C kd b es]=some (.inr m)))∧((m=1∧∀ H',Same H H'→Q (.str "hall") H')∨(m=3∧∀ H',Same H H'→Q (.str "place") H'))) ∨
   (w=0∧∀ H1 v,Same H H1→Rp K emp u H1 v→z5 K C okh [.ref a,v] H1 (fun z H'=>Q (.bl (decide (z = .non))) H') E0) ∨
   (w=1∧∀ H1 v,Same H H1→Rp K emp u H1 v→z5 K C okd [.ref a,v] H1 (fun z H'=>Q (.bl (decide (z = .non))) H') E0) ∨
   (w=2∧∀ H1,Same H H1→K6 K [.ref a] H1 (fun z H'=>Q (.bl (decide (z = .non))) H') E0))
section
variable {P:Program}{w:World}{K:PySem.W.Frag}{mg:Str→Option Value}{base:Heap}{x qual:Str}{st:Stmt}{f:Addr}{fd:FuncData}{N ps:List Str}{k:Nat}
theorem Lg{C:Addr}{xh xd xt:FX}{okh okd:Dt→Dt→List Dt→Dt→Dt→Prop}{hits mis hits2:Nat→Bool}(Fu:Fun K x qual st f fd)(S:FnScope N ps (f8 st))(hp:ps.length=2)(hN:N.length=2)(h1:hits 1=true)(h3:mis 3=true)(h4:hits2 3=true)
   (bodyX:∀(cdv:Value) (A:Around) (outer:List Env) (s:Shared) (H:Hp) (E:XK),Room k (A.deeper (envOfC qual (f8 st) s.heap.objs.size f cdv))→PSs (cxOf CX0 P w K mg base N qual (f8 st) f cdv A outer s H E) (j9 st)
     (fun D σ H1=>∃ m,Gh (cxOf CX0 P w K mg base N qual (f8 st) f cdv A outer s H E) C (spx K mg true xh) (spx K mg true xd) (spx K mg true xt) (EXm (cxOf CX0 P w K mg base N qual (f8 st) f cdv A outer s H E) H1 m) Ends.no σ H1∧((hits m=true∧∀ H',Same H1 H'→D.rt (.str "hall") H')∨(mis m=true∧hits2 m=true∧∀ H',Same H1 H'→D.rt (.str "place") H'))))
   (bodyN:∀(cdv:Value) (A:Around) (outer:List Env) (s:Shared) (H:Hp) (E:XK),Room k (A.deeper (envOfC qual (f8 st) s.heap.objs.size f cdv))→PSs (cxOf CX0 P w K mg base N qual (f8 st) f cdv A outer s H E) (j9 st)
     (Gh (cxOf CX0 P w K mg base N qual (f8 st) f cdv A outer s H E) C (z5 K C okh) (z5 K C okd) (K6 K) E0)):FnOk P w K mg base CX0 (k+1) f fd ps (Il K C xh xd xt okh okd):=by
 obtain⟨oc,od,kV,doc,pm,an,cdv,ct,osl,rfl,lk,hcd⟩:=Fu.ex
 refine N8 lk hcd S (fun vs H Q E h=>?_) fun A outer s H vs Q E hr h=>?_
 · obtain⟨a,vd,w,u,kd,b,es,rfl,_⟩:=h
   rw[hp];rfl
 obtain⟨a,vd,w',u,kd,b,es,rfl,r1,r2,h⟩:=h
 have rs:=(A8 (N:=N) (X:=cxOf CX0 P w K mg base N qual (f8 st) f cdv A outer s H E) (H:=H) (cs:=[.sh false (.obj C kd b es),.sh false (.tup [.int w',u])]) (vs:=[.ref a,vd]) rfl (show ∃ v' r',[V.ref a,vd]=v'::r'∧Ad K H v' (.sh false (.obj C kd b es))∧CellsE K H [.sh false (.tup [.int w',u])] r' from⟨_,_,rfl,⟨rfl,r1⟩,_,_,rfl,⟨rfl,r2⟩,rfl⟩)).all
 have er:rhoC N.length [.sh false (.obj C kd b es),.sh false (.tup [.int w',u])]=[.sh false (.obj C kd b es),.sh false (.tup [.int w',u])]:=by unfold rhoC;rw[hN];rfl
 rw[er]at rs
 obtain⟨a',dx,vk,vb,l,ws,ea,g0,g1,g2,g3,g4,bk,g6,g7,g8⟩:=Rp.obj_.mp r1
 cases ea
 rcases h with⟨m,hx,hq⟩|hn
 · refine⟨_,bodyX cdv A outer s H E hr,m,Gi rs rfl g1 rfl rfl rfl ?_,?_⟩
   · have lift:∀{ds:List Dt} {xx:FX} {vs:List V} {H1:Hp} {Q':VK},Same H H1→Rps K emp ds H1 vs→xx ds=some (.inr m)→spx K mg true xx vs H1 Q' (EXm (cxOf CX0 P w K mg base N qual (f8 st) f cdv A outer s H E) H m):=fun{ds xx vs H1 Q'} s1 r e=>⟨ds,.inr m,r,e,fun C' H' o hC s' _=>⟨C',rfl,hC,s1.trans s'⟩⟩
     rcases hx with⟨hw,e⟩|⟨hw,e⟩|⟨hw,e⟩
     · exact .inl ⟨hw,fun H1 v s1 r=>lift s1 (Rps.cons_.mpr ⟨_,_,rfl,Rp.mono _ s1 r1,Rps.one r⟩) e⟩
     · exact .inr (.inl ⟨hw,fun H1 v s1 r=>lift s1 (Rps.cons_.mpr ⟨_,_,rfl,Rp.mono _ s1 r1,Rps.one r⟩) e⟩)
     · exact .inr (.inr ⟨hw,fun H1 s1=>lift s1 (Rps.one (Rp.mono _ s1 r1)) e⟩)
   · rcases hq with⟨rfl,q⟩|⟨rfl,q⟩
     · exact .inl ⟨h1,q⟩
     · exact .inr ⟨h3,h4,q⟩
 · refine⟨_,bodyN cdv A outer s H E hr,Gi rs rfl g1 rfl rfl rfl ?_⟩
   rcases hn with⟨hw,q⟩|⟨hw,q⟩|⟨hw,q⟩
   · exact .inl ⟨.inl hw,q⟩
   · exact .inr (.inl ⟨hw,q⟩)
   · exact .inr (.inr ⟨hw,q⟩)
end
end L2

end
section
set_option Elab.async false
set_option linter.all false
set_option maxRecDepth 100000
namespace L2
open PySem PySem.Spec PySem.W PyProof.Rows
noncomputable abbrev dL8:FT:=m4 (fOp opEq (fBlt bLen (f9 (fN 2) fNil)) (fC (.int 8)))
noncomputable abbrev dL1:FT:=m4 (fOp opEq (fBlt bLen (f9 (fN 0) fNil)) (fC (.int 1)))
noncomputable abbrev dBad:FT:=fOr (fTru (fIsi "bool" dU)) (fOr (m4 (fOp opLt dU (fC (.int 0)))) (m4 (fOp opGe dU (fBlt bLen (f9 (fN 2) fNil)))))
noncomputable def tDue(X:Cx):TS :=
 tSeq (tAsg (tOp (rIxL X.K) (tVar 0) (upF X (fNeg (fC (.int 1))))) (D8 2))
 (tSeq (tIfS (upB X (dIs 3)) (tRet (tC (.str "hall"))) t7)
 (tSeq (tIfS (upB X (dIs 0)) (tSeq (tIfS (upB X dL8) (tRet (tC (.str "hall"))) t7) (tSeq (N7 (tBM X.K "list" W9 (tVar 0) (J1 (tOp rCat (tVar 2) (tLst (J1 (upF X (fBlt bLst (f9 dU fNil))) tNil))) tNil))) (tRet (tC (.bl true))))) t7)
 (tSeq (tIfS (upB X (dIs 1)) (tSeq (tIfS (upB X dBad) (tRet (tC (.str "place"))) t7) (tSeq (N7 (tBM X.K "list" W9 (tVar 0) (J1 (tOp rCat (tSl (rSlL X.K) (tVar 2) Bw (Ho (upF X dU))) (tSl (rSlL X.K) (tVar 2) (Ho (upF X (fOp o2 dU (fC (.int 1))))) Bw)) tNil))) (tRet (tC (.bl true))))) t7)
 (tSeq (tIfS (upB X dL1) (tRet (tC (.str "place"))) t7)
 (tSeq (N7 (tBM0 X.K "list" rPop (tVar 0))) (tRet (tC (.bl true))))))))
def badU(u:Dt)(l:Nat):Prop:=u = .bl true∨∃ i:Int,u = .int i∧(i<0∨(l:Int)≤i)
def Gj(K:PySem.W.Frag):Sp:=fun vs H Q _=>∃ s vd ss vb S0 rows w u,vs=[.ref s,vd]∧H s=some (.lst (ss++[vb]))∧ss.length<1000∧Rps K emp S0 (hidL [s] H) ss∧Rp K emp (.lst rows) (hidL [s] H) vb∧Rp K emp (.tup [.int w,u]) H vd∧rows.length<1000 ∧
  ((w=3∧∀ H',Same H H'→Q (.str "hall") H') ∨
   (w=0∧∃ row:List Int,u = .lst (row.map Dt.int)∧row.length<1000∧((rows.length=8∧∀ H',Same H H'→Q (.str "hall") H')∨(rows.length≠8∧∀ b bs c x H',vb = .ref b→H b=some (.lst bs)→H c=none→H x=none→c≠x→H' s=some (.lst (ss++[vb]++[.ref c]))→H' c=some (.lst (bs++[.ref x]))→H' x=some (.lst (row.map V.int))→(∀ z o,z≠s→H z=some o→H' z=some o)→Q (.bl true) H'))) ∨
   (w=1∧((badU u rows.length∧∀ H',Same H H'→Q (.str "place") H')∨∃ p:Nat,u = .int p∧p<rows.length∧∀ b bs c H',vb = .ref b→H b=some (.lst bs)→H c=none→H' s=some (.lst (ss++[vb]++[.ref c]))→H' c=some (.lst (bs.take p++bs.drop (p+1)))→(∀ z o,z≠s→H z=some o→H' z=some o)→Q (.bl true) H')) ∨
   (w=2∧((S0=[]∧∀ H',Same H H'→Q (.str "place") H')∨(S0≠[]∧∀ H',H' s=some (.lst ss)→(∀ z o,z≠s→H z=some o→H' z=some o)→Q (.bl true) H'))))
theorem Q6{n d p:Nat}{i:Int}(e:i=p)(h:p≤n):HT.sIx n d (some i)=p:=by
 subst e
 unfold HT.sIx
 simp only[]
 split<;>omega
theorem GS{bs:List V}{p:Nat}(h:p<bs.length):cutV bs none (some (p:Int))=bs.take p:=by
 show(bs.drop 0).take (HT.sIx bs.length bs.length (some (p:Int))-0)=_
 rw[Q6 rfl (by omega)]
 simp
theorem GT{bs:List V}{p:Nat}(h:p<bs.length):cutV bs (some ((p:Int)+1)) none=bs.drop (p+1):=by
 show(bs.drop (HT.sIx bs.length 0 (some ((p:Int)+1)))).take (bs.length-HT.sIx bs.length 0 (some ((p:Int)+1)))=_
 rw[Q6 (p:=p+1) (by omega) (by omega),List.take_of_length_le (by rw[List.length_drop];omega)]
section
variable {X:Cx}{D:Ends}{σ:St}{H:Hp}{ρ:Rho}{c:FT}{t u:TS}
theorem Bf(rs:RepS X.ky H ρ σ)(e:c ρ=some true)(h:∀ H',Same H H'→t D σ H'):tIfS (upB X c) t u D σ H:=⟨ρ,true,rs,e,fun H' s=>by show(if true=true then _ else _);rw[if_pos rfl];exact h H' s⟩
theorem O1(rs:RepS X.ky H ρ σ)(e:c ρ=some false)(h:∀ H',Same H H'→D.nx σ H'):tIfS (upB X c) t t7 D σ H:=⟨ρ,false,rs,e,fun H' s=>by show(if false=true then _ else _);rw[if_neg (by decide)];exact h H' s⟩
theorem repS3{v0 v1 v2:V}{d0 d1 d2:Dt}(b:Same X.H₀ H)(h0:Rp X.K emp d0 H v0)(h1:Rp X.K emp d1 H v1)(h2:Rp X.K emp d2 H v2):RepS X.ky H [.sh false d0,.sh false d1,.sh false d2] [some v0,some v1,some v2] :=
 ⟨rfl,b,fun i c e=>by
  match i,e with
  | 0,e=>cases e;exact⟨_,rfl,_,rfl,h0⟩
  | 1,e=>cases e;exact⟨_,rfl,_,rfl,h1⟩
  | 2,e=>cases e;exact⟨_,rfl,_,rfl,h2⟩⟩
end
theorem Im{c0 c1:Cell}{rows:List Dt}{fu:Fl}{i:Int}(hu:dU [c0,c1,.sh false (.lst rows)]=some (fu,.int i)):dBad [c0,c1,.sh false (.lst rows)]=some (decide (i<0)||decide ((rows.length:Int)≤i)):=by
 have a:fTru (fIsi "bool" dU) [c0,c1,.sh false (.lst rows)]=some false:=by unfold fTru fIsi;rw[hu];rfl
 have b:m4 (fOp opLt dU (fC (.int 0))) [c0,c1,.sh false (.lst rows)]=some (decide (i<0)):=by unfold m4 fOp;rw[hu];rfl
 have c:m4 (fOp opGe dU (fBlt bLen (f9 (fN 2) fNil))) [c0,c1,.sh false (.lst rows)]=some (decide ((rows.length:Int)≤i)):=by unfold m4 fOp;rw[hu];rfl
 unfold dBad
 show(fTru (fIsi "bool" dU) [c0,c1,.sh false (.lst rows)]).bind _=_
 rw[a]
 show(m4 (fOp opLt dU (fC (.int 0))) [c0,c1,.sh false (.lst rows)]).bind (fun b=>if b then some true else m4 (fOp opGe dU (fBlt bLen (f9 (fN 2) fNil))) [c0,c1,.sh false (.lst rows)])=_
 rw[b,c]
 by_cases h:i<0<;>simp[h]
theorem rd_due{X:Cx}{vs:List V}{H:Hp}{Q:VK}{E:XK}(h0:X.H₀=H)(hN:N.length=3)(h:Gj X.K vs H Q E):tDue X { nx:=fun _ H'=>Q .non H',rt:=Q } (start N vs) H:=by
 obtain⟨s,vd,ss,vb,S0,rows,w,u,rfl,hs,hsl,hS,hb,hd,hrl,h⟩:=h
 have hst:start N [V.ref s,vd]=[some (.ref s),some vd,none]:=by unfold start;rw[hN];rfl
 rw[hst]
 obtain⟨b,bs,eb,_,hbb,hbs⟩:=Rp.lst_.mp hb
 subst eb
 obtain⟨bO,hbH⟩:=m8 hbb
 have bs_ne:b≠s:=by simpa using bO
 have bl:=hbs.length
 have sm0:Same X.H₀ H:=by rw[h0];exact Same.refl H
 have rS:Rp X.K emp (.lst (S0++[.lst rows])) H (.ref s):=Rp.lst_.mpr ⟨s,_,rfl,rfl,hs,Rps.append hS (Rps.one hb)⟩
 have rB:Rp X.K emp (.lst rows) H (.ref b):=Rp.mono _ j5 hb
 have rep:∀ H1,Same H H1→RepS X.ky H1 [.sh false (.lst (S0++[.lst rows])),.sh false (.tup [.int w,u]),.sh false (.lst rows)] [some (.ref s),some vd,some (.ref b)]:=fun H1 s1=>repS3 (sm0.trans s1) (Rp.mono _ s1 rS) (Rp.mono _ s1 hd) (Rp.mono _ s1 rB)
 obtain⟨fu,hu⟩:=dU_eq (c0 := .sh false (.lst (S0++[.lst rows]))) (r:=[.sh false (.lst rows)]) (w:=w) (u:=u)
 have rep0:RepS X.ky H [.no,.no,.no] [some (.ref s),some vd,none]:=⟨rfl,sm0,fun i c e=>by
   match i,e with
   | 0,e=>cases e;exact⟨_,rfl,trivial⟩
   | 1,e=>cases e;exact⟨_,rfl,trivial⟩
   | 2,e=>cases e;exact⟨_,rfl,trivial⟩⟩
 refine⟨.ref s,rfl,[.no,.no,.no],.nw,.int (-1),rep0,rfl,fun v H1 s1 r=>⟨s,ss++[.ref b],-1,.ref b,rfl,Rp.int_.mp r.sh,SqL.of (s1 _ _ hs),Cr _ _,?_⟩⟩
 show tSeq _ _ _ [some (.ref s),some vd,some (.ref b)] H1
 rcases h with⟨rfl,q⟩|⟨rfl,row,rfl,hrow,h⟩|⟨rfl,h⟩|⟨rfl,h⟩
 · exact Bf (rep H1 s1) A0 fun H2 s2=>q H2 (s1.trans s2)
 · refine O1 (rep H1 s1) A0 fun H2 s2=>Bf (rep H2 (s1.trans s2)) A0 fun H3 s3=>?_
   have s13:=s1.trans (s2.trans s3)
   have e8:dL8 [.sh false (.lst (S0++[.lst rows])),.sh false (.tup [.int 0,.lst (row.map Dt.int)]),.sh false (.lst rows)]=some (decide ((rows.length:Int)=8)):=by
     simp[p7]
   rcases h with⟨h8,q⟩|⟨h8,q⟩
   · rw[h8]at e8
     exact Bf (rep H3 s13) e8 fun H4 s4=>q H4 (s13.trans s4)
   · rw[decide_eq_false (by omega)]at e8
     refine O1 (rep H3 s13) e8 fun H4 s4=>?_
     have s14:=s13.trans s4
     have el:fBlt bLst (f9 dU fNil) [.sh false (.lst (S0++[.lst rows])),.sh false (.tup [.int 0,.lst (row.map Dt.int)]),.sh false (.lst rows)]=some (.nw,.lst (row.map Dt.int)):=by
       have:f9 dU fNil [.sh false (.lst (S0++[.lst rows])),.sh false (.tup [.int 0,.lst (row.map Dt.int)]),.sh false (.lst rows)]=some [(fu,.lst (row.map Dt.int))]:=by unfold f9 fNil;rw[hu];rfl
       unfold fBlt
       rw[this]
       show some (newL (row.map Dt.int))=_
       rw[M7]
     refine⟨.ref s,rfl,.inl ⟨rfl,_,SqL.of (s14 _ _ hs)⟩,.ref b,rfl,_,_,_,rep H4 s14,el,fun v H5 s5 r5=>?_⟩
     obtain⟨x,xs,rfl,hx,hxl,hxs⟩:=Rp.lst_.mp r5
     have hxs:=Rps.ints.mp hxs
     subst hxs
     refine⟨by show 1≤sizeLine;decide,fun p hp=>?_⟩
     have px:p≠x:=fun z=>by rw[z,hxl]at hp;cases hp
     have s15:=s14.trans s5
     have s6:Same H (upd H5 p (.lst [.ref x])):=s15.trans (p6 hp)
     have sz:bs.length+[V.ref x].length≤sizeLine:=by
       have h5:(100000:Nat)≤sizeLine:=by decide
       have:[V.ref x].length=1:=rfl
       omega
     refine⟨b,p,bs,[.ref x],rfl,rfl,s6 _ _ hbH,j0,sz,fun c hc=>?_⟩
     have s7:Same H (upd (upd H5 p (.lst [.ref x])) c (.lst (bs++[.ref x]))):=s6.trans (p6 hc)
     have hcH:H c=none:=s6.free hc
     have hxH:H x=none:=s14.free hx
     have cx:c≠x:=fun z=>by rw[z,i0 (Ne.symm px),hxl]at hc;cases hc
     have cs:c≠s:=fun z=>by rw[z,hs]at hcH;cases hcH
     have xs':x≠s:=fun z=>by rw[z,hs]at hxH;cases hxH
     refine⟨s,ss++[.ref b],.ref c,rfl,rfl,s7 _ _ hs,?_,?_⟩
     · have h5:(100000:Nat)≤sizeLine:=by decide
       rw[List.length_append]
       have:[V.ref b].length=1:=rfl
       omega
     · refine q b bs c x _ rfl hbH hcH hxH cx j0 ?_ ?_ fun z o hz ho=>?_
       · rw[i0 cs,j0]
       · rw[i0 xs',i0 (Ne.symm cx),i0 (Ne.symm px)];exact hxl
       · rw[i0 hz];exact s7 _ _ ho
 · refine O1 (rep H1 s1) A0 fun H2 s2=>O1 (rep H2 (s1.trans s2)) A0 fun H3 s3=>Bf (rep H3 (s1.trans (s2.trans s3))) A0 fun H4 s4=>?_
   have s14:=s1.trans (s2.trans (s3.trans s4))
   rcases h with⟨hbad,q⟩|⟨p,rfl,hp,q⟩
   · have eb:dBad [.sh false (.lst (S0++[.lst rows])),.sh false (.tup [.int 1,u]),.sh false (.lst rows)]=some true:=by
       rcases hbad with rfl|⟨i,rfl,hi⟩
       · unfold dBad fOr fTru fIsi
         rw[hu];rfl
       · rw[Im hu];congr 1;rw[Bool.or_eq_true,decide_eq_true_eq,decide_eq_true_eq];exact hi
     exact Bf (rep H4 s14) eb fun H5 s5=>q H5 (s14.trans s5)
   · have eb:dBad [.sh false (.lst (S0++[.lst rows])),.sh false (.tup [.int 1,.int p]),.sh false (.lst rows)]=some false:=by
       rw[Im hu,decide_eq_false (by omega),decide_eq_false (by omega)];rfl
     refine O1 (rep H4 s14) eb fun H5 s5=>?_
     have s15:=s14.trans s5
     refine⟨.ref s,rfl,.inl ⟨rfl,_,SqL.of (s15 _ _ hs)⟩,.ref b,rfl,_,_,_,rep H5 s15,hu,fun v H6 s6 r6=>⟨p,Rp.int_.mp r6.sh,b,bs,rfl,SqL.of (s6 _ _ (s15 _ _ hbH)),fun p1 hp1=>?_⟩⟩
     have s17:=(s15.trans s6).trans (p6 (o := .lst (cutV bs none (some (p:Int)))) hp1)
     have ea:fOp o2 dU (fC (.int 1)) [.sh false (.lst (S0++[.lst rows])),.sh false (.tup [.int 1,.int p]),.sh false (.lst rows)]=some (.nw,.int ((p:Int)+1)):=by
       unfold fOp
       rw[hu]
       rfl
     refine⟨.ref b,rfl,_,_,_,rep _ s17,ea,fun v7 H7 s7 r7=>⟨(p:Int)+1,Rp.int_.mp r7.sh,b,bs,rfl,SqL.of (s7 _ _ (s17 _ _ hbH)),fun p2 hp2=>?_⟩⟩
     have s18:=s17.trans s7
     have s19:=s18.trans (p6 (o := .lst (cutV bs (some ((p:Int)+1)) none)) hp2)
     have g1:H7 p1=some (.lst (cutV bs none (some (p:Int)))):=s7 _ _ j0
     have n12:p1≠p2:=fun z=>by rw[←z,g1]at hp2;cases hp2
     have l1:=J8 bs none (some (p:Int))
     have l2:=J8 bs (some ((p:Int)+1)) none
     refine⟨p1,p2,_,_,rfl,rfl,by rw[i0 n12];exact g1,j0,?_,fun c hc=>?_⟩
     · have h5:(100000:Nat)≤sizeLine:=by decide
       omega
     have s20:=s19.trans (p6 (o := .lst (cutV bs none (some (p:Int))++cutV bs (some ((p:Int)+1)) none)) hc)
     have hcH:H c=none:=s19.free hc
     have cs:c≠s:=fun z=>by rw[z,hs]at hcH;cases hcH
     refine⟨s,ss++[.ref b],.ref c,rfl,rfl,s20 _ _ hs,?_,?_⟩
     · have h5:(100000:Nat)≤sizeLine:=by decide
       rw[List.length_append]
       have:[V.ref b].length=1:=rfl
       omega
     · refine q b bs c _ rfl hbH hcH j0 ?_ fun z o hz ho=>?_
       · rw[i0 cs,j0,GS (by omega),GT (by omega)]
       · rw[i0 hz];exact s20 _ _ ho
 · refine O1 (rep H1 s1) A0 fun H2 s2=>O1 (rep H2 (s1.trans s2)) A0 fun H3 s3=>O1 (rep H3 (s1.trans (s2.trans s3))) A0 fun H4 s4=>?_
   have s14:=s1.trans (s2.trans (s3.trans s4))
   have e1:dL1 [.sh false (.lst (S0++[.lst rows])),.sh false (.tup [.int 2,u]),.sh false (.lst rows)]=some (decide (((S0.length+1:Nat):Int)=1)):=by
     simp[p7]
   rcases h with⟨rfl,q⟩|⟨hne,q⟩
   · exact Bf (rep H4 s14) e1 fun H5 s5=>q H5 (s14.trans s5)
   · have:S0.length≠0:=fun z=>hne (List.length_eq_zero_iff.mp z)
     rw[decide_eq_false (by omega)]at e1
     refine O1 (rep H4 s14) e1 fun H5 s5=>?_
     have s15:=s14.trans s5
     refine⟨.ref s,rfl,.inl ⟨rfl,_,SqL.of (s15 _ _ hs)⟩,s,ss++[.ref b],.ref b,rfl,rfl,s15 _ _ hs,by simp,?_⟩
     rw[List.dropLast_concat]
     refine q _ j0 fun z o hz ho=>?_
     rw[i0 hz];exact s15 _ _ ho
section
variable {P:Program}{w:World}{K:PySem.W.Frag}{mg:Str→Option Value}{base:Heap}{x qual:Str}{st:Stmt}{f:Addr}{fd:FuncData}{N ps:List Str}{k:Nat}
theorem due_ok(Fu:Fun K x qual st f fd)(S:FnScope N ps (f8 st))(hp:ps.length=2)(hN:N.length=3)
  (body:∀(cdv:Value) (A:Around) (outer:List Env) (s:Shared) (H:Hp) (E:XK),Room k (A.deeper (envOfC qual (f8 st) s.heap.objs.size f cdv))→PSs (cxOf CX0 P w K mg base N qual (f8 st) f cdv A outer s H E) (j9 st) (tDue (cxOf CX0 P w K mg base N qual (f8 st) f cdv A outer s H E))):FnOk P w K mg base CX0 (k+1) f fd ps (Gj K):=by
 obtain⟨oc,od,kV,doc,pm,an,cdv,ct,osl,rfl,lk,hcd⟩:=Fu.ex
 refine N8 lk hcd S (fun vs H Q E h=>?_) fun A outer s H vs Q E hr h=>⟨_,body cdv A outer s H E hr,rd_due (E:=E) rfl hN h⟩
 obtain⟨s,vd,ss,vb,S0,rows,w,u,rfl,_⟩:=h
 rw[hp];rfl
end
end L2

end
section
set_option Elab.async false
set_option linter.all false
set_option maxRecDepth 100000
namespace L2
open PySem PySem.Spec PySem.W PyProof.Rows
abbrev LT(b:List (List Int)):Dt := .lst (b.map T)
structure Wst(K:PySem.W.Frag)(H₀:Hp)(C:Addr)(n:Nat)(ns:List Int)(A:List Addr)(S0:List (List (List Int)))(bs:List (List Int))(S1:List (List (List Int)))(cs:List (List Int))(H:Hp)(vp vo:V)(a dx e s:Addr)(vb:V)(ws ss:List V)(vc:V):Prop where
 bk:Bk K C
 ins:H a=some (.ins C dx (bkF (.int n) vb e))
 own:H dx=some (.own a)
 lst:H e=some (.lst ws)
 sts:H s=some (.lst (ss++[vc]))
 es:e≠s
 f1:H₀ a=none
 f2:H₀ e=none
 f3:H₀ s=none
 b0:Same H₀ H
 dA:∀ z∈A,z≠a∧z≠e∧z≠s∧∃ us,H z=some (.lst us)
 r1:Rp K emp (LT bs) (hidL (a::e::s::A) H) vb
 r2:Rps K emp (S0.map LT) (hidL (a::e::s::A) H) ws
 r3:Rps K emp (S1.map LL) (hidL (a::e::s::A) H) ss
 r4:Rp K emp (LL cs) (hidL (a::e::s::A) H) vc
 r5:Rp K emp (.obj C (.int n) (.lst []) []) (hidL (a::e::s::A) H) vo
 r6:Rp K emp (.scr ns) (hidL (a::e::s::A) H) vp
section
variable {K:PySem.W.Frag}{H₀:Hp}{C:Addr}{n:Nat}{ns:List Int}{A:List Addr}{S0:List (List (List Int))}{bs:List (List Int)}{S1:List (List (List Int))}{cs:List (List Int)}{H H':Hp}{vp vo:V}{a dx e s:Addr}{vb:V}{ws ss:List V}{vc:V}
theorem Wst.grow(h:Wst K H₀ C n ns A S0 bs S1 cs H vp vo a dx e s vb ws ss vc)(m:Same H H'):Wst K H₀ C n ns A S0 bs S1 cs H' vp vo a dx e s vb ws ss vc :=
 have q:=r9 (A:=a::e::s::A) m
 ⟨h.bk,m _ _ h.ins,m _ _ h.own,m _ _ h.lst,m _ _ h.sts,h.es,h.f1,h.f2,h.f3,h.b0.trans m,fun z hz=>by obtain⟨z1,z2,z3,us,z4⟩:=h.dA z hz;exact⟨z1,z2,z3,us,m _ _ z4⟩,Rp.mono _ q h.r1,Rps.mono _ q h.r2,Rps.mono _ q h.r3,Rp.mono _ q h.r4,Rp.mono _ q h.r5,Rp.mono _ q h.r6⟩
theorem Wst.hide{r:Addr}{us:List V}(h:Wst K H₀ C n ns [] S0 bs S1 cs H vp vo a dx e s vb ws ss vc)(m:Same H H')(hr:H r=none)(hr':H' r=some (.lst us)):Wst K H₀ C n ns [r] S0 bs S1 cs H' vp vo a dx e s vb ws ss vc:=by
 have ne:∀{z:Addr} {o:HO},H z=some o→r≠z:=fun{z o} q w=>by rw[w,q]at hr;cases hr
 have q:Same (hidL [a,e,s] H) (hidL [a,e,s,r] H'):=fun z o y=>by
  obtain⟨y1,y2⟩:=m8 y
  have:=ne y2
  simp only[List.mem_cons,List.not_mem_nil,or_false,not_or]at y1
  rw[i7 (by simp only[List.mem_cons,List.not_mem_nil,or_false,not_or];exact⟨y1.1,y1.2.1,y1.2.2,Ne.symm this⟩)]
  exact m _ _ y2
 exact⟨h.bk,m _ _ h.ins,m _ _ h.own,m _ _ h.lst,m _ _ h.sts,h.es,h.f1,h.f2,h.f3,h.b0.trans m,fun z hz=>by rw[List.mem_singleton.mp hz];exact⟨ne h.ins,ne h.lst,ne h.sts,us,hr'⟩,Rp.mono _ q h.r1,Rps.mono _ q h.r2,Rps.mono _ q h.r3,Rp.mono _ q h.r4,Rp.mono _ q h.r5,Rp.mono _ q h.r6⟩
theorem Wst.clear{r:Addr}{us:List V}(h:Wst K H₀ C n ns [r] S0 bs S1 cs H vp vo a dx e s vb ws ss vc)(h0:H₀ r=none):Wst K H₀ C n ns [] S0 bs S1 cs (upd H r (.lst us)) vp vo a dx e s vb ws ss vc:=by
 obtain⟨z1,z2,z3,vs,z4⟩:=h.dA r (by simp)
 have keep:∀{z:Addr} {o:HO},H z=some o→z≠r→upd H r (.lst us) z=some o:=fun{z o} y w=>by rw[i0 w];exact y
 have q:Same (hidL [a,e,s,r] H) (hidL [a,e,s] (upd H r (.lst us))):=fun z o y=>by
  obtain⟨y1,y2⟩:=m8 y
  simp only[List.mem_cons,List.not_mem_nil,or_false,not_or]at y1
  rw[i7 (by simp only[List.mem_cons,List.not_mem_nil,or_false,not_or];exact⟨y1.1,y1.2.1,y1.2.2.1⟩)]
  exact keep y2 y1.2.2.2
 exact⟨h.bk,keep h.ins (Ne.symm z1),keep h.own (fun w=>by have:=h.own;rw[w,z4]at this;cases this),keep h.lst (Ne.symm z2),keep h.sts (Ne.symm z3),h.es,h.f1,h.f2,h.f3,fun z o y=>keep (h.b0 _ _ y) (fun w=>by rw[w,h0]at y;cases y),fun z hz=>(nomatch hz),Rp.mono _ q h.r1,Rps.mono _ q h.r2,Rps.mono _ q h.r3,Rp.mono _ q h.r4,Rp.mono _ q h.r5,Rp.mono _ q h.r6⟩
theorem Wst.ne_as(h:Wst K H₀ C n ns A S0 bs S1 cs H vp vo a dx e s vb ws ss vc):a≠s∧a≠e∧dx≠s∧dx≠a∧dx≠e:=by
 have h1:=h.ins
 have h2:=h.own
 refine⟨fun w=>?_,fun w=>?_,fun w=>?_,fun w=>?_,fun w=>?_⟩
 · rw[w,h.sts]at h1;cases h1
 · rw[w,h.lst]at h1;cases h1
 · rw[w,h.sts]at h2;cases h2
 · rw[w,h.ins]at h2;cases h2
 · rw[w,h.lst]at h2;cases h2
theorem Wst.keepS(h:Wst K H₀ C n ns A S0 bs S1 cs H vp vo a dx e s vb ws ss vc)(keep:∀ z o,z≠s→H z=some o→H' z=some o):Same (hidL (a::e::s::A) H) (hidL (a::e::s::A) H'):=fun z o y=>by
 obtain⟨y1,y2⟩:=m8 y
 rw[i7 y1]
 exact keep _ _ (fun w=>y1 (by simp[w])) y2
theorem Wst.setS{S1':List (List (List Int))}{cs':List (List Int)}{ss':List V}{vc':V}(h:Wst K H₀ C n ns A S0 bs S1 cs H vp vo a dx e s vb ws ss vc)(hs:H' s=some (.lst (ss'++[vc'])))(keep:∀ z o,z≠s→H z=some o→H' z=some o)
  (q3:Rps K emp (S1'.map LL) (hidL (a::e::s::A) H') ss') (q4:Rp K emp (LL cs') (hidL (a::e::s::A) H') vc'):Wst K H₀ C n ns A S0 bs S1' cs' H' vp vo a dx e s vb ws ss' vc':=by
 have q:=h.keepS keep
 obtain⟨n1,n2,n3,n4,n5⟩:=h.ne_as
 exact⟨h.bk,keep _ _ n1 h.ins,keep _ _ n3 h.own,keep _ _ h.es h.lst,hs,h.es,h.f1,h.f2,h.f3,fun z o y=>keep _ _ (fun w=>by rw[w,h.f3]at y;cases y) (h.b0 _ _ y),fun z hz=>by obtain⟨z1,z2,z3,us,z4⟩:=h.dA z hz;exact⟨z1,z2,z3,us,keep _ _ z3 z4⟩,Rp.mono _ q h.r1,Rps.mono _ q h.r2,q3,q4,Rp.mono _ q h.r5,Rp.mono _ q h.r6⟩
theorem Wst.keepB(h:Wst K H₀ C n ns A S0 bs S1 cs H vp vo a dx e s vb ws ss vc)(keep:∀ z o,z≠a→z≠e→H z=some o→H' z=some o):Same (hidL (a::e::s::A) H) (hidL (a::e::s::A) H'):=fun z o y=>by
 obtain⟨y1,y2⟩:=m8 y
 rw[i7 y1]
 exact keep _ _ (fun w=>y1 (by simp[w])) (fun w=>y1 (by simp[w])) y2
theorem Wst.setB{S0':List (List (List Int))}{bs':List (List Int)}{ws':List V}{vb':V}(h:Wst K H₀ C n ns A S0 bs S1 cs H vp vo a dx e s vb ws ss vc)(hi:H' a=some (.ins C dx (bkF (.int n) vb' e)))(hl:H' e=some (.lst ws'))(keep:∀ z o,z≠a→z≠e→H z=some o→H' z=some o)
  (q1:Rp K emp (LT bs') (hidL (a::e::s::A) H') vb') (q2:Rps K emp (S0'.map LT) (hidL (a::e::s::A) H') ws'):Wst K H₀ C n ns A S0' bs' S1 cs H' vp vo a dx e s vb' ws' ss vc:=by
 have q:=h.keepB keep
 obtain⟨n1,n2,n3,n4,n5⟩:=h.ne_as
 exact⟨h.bk,hi,keep _ _ n4 n5 h.own,hl,keep _ _ (Ne.symm n1) (Ne.symm h.es) h.sts,h.es,h.f1,h.f2,h.f3,fun z o y=>keep _ _ (fun w=>by rw[w,h.f1]at y;cases y) (fun w=>by rw[w,h.f2]at y;cases y) (h.b0 _ _ y),fun z hz=>by obtain⟨z1,z2,z3,us,z4⟩:=h.dA z hz;exact⟨z1,z2,z3,us,keep _ _ z1 z2 z4⟩,q1,q2,Rps.mono _ q h.r3,Rp.mono _ q h.r4,Rp.mono _ q h.r5,Rp.mono _ q h.r6⟩
theorem Wst.obj(h:Wst K H₀ C n ns A S0 bs S1 cs H vp vo a dx e s vb ws ss vc):Rp K emp (.obj C (.int n) (LT bs) (S0.map LT)) H (.ref a):=by
 have q:Same (hidL (a::e::s::A) H) (hidL [a,e] H):=A5 (by simp)
 exact Rp.obj_.mpr ⟨a,dx,.int n,vb,e,ws,rfl,rfl,h.ins,h.own,rfl,h.lst,h.bk,Rp.int_.mpr rfl,Rp.mono _ q h.r1,Rps.mono _ q h.r2⟩
theorem Wst.bookH(h:Wst K H₀ C n ns A S0 bs S1 cs H vp vo a dx e s vb ws ss vc):BookH K H C a dx e (.int n) vb ws:=⟨h.bk,h.ins,h.own,h.lst⟩
theorem Wst.states(h:Wst K H₀ C n ns A S0 bs S1 cs H vp vo a dx e s vb ws ss vc):Rps K emp (S1.map LL) (hidL [s] H) ss∧Rp K emp (LL cs) (hidL [s] H) vc:=by
 have q:Same (hidL (a::e::s::A) H) (hidL [s] H):=A5 (by simp)
 exact⟨Rps.mono _ q h.r3,Rp.mono _ q h.r4⟩
theorem Wst.stl(h:Wst K H₀ C n ns A S0 bs S1 cs H vp vo a dx e s vb ws ss vc):Rp K emp (.lst (S1.map LL++[LL cs])) H (.ref s) :=
 Rp.lst_.mpr ⟨s,_,rfl,rfl,h.sts,Rps.append h.states.1 (Rps.one h.states.2)⟩
theorem Wst.out(h:Wst K H₀ C n ns A S0 bs S1 cs H vp vo a dx e s vb ws ss vc){c:Addr}(hc:H c=none):c ∉ a::e::s::A:=by
 have ne:∀{z:Addr} {o:HO},H z=some o→c≠z:=fun{z o} q w=>by rw[w,q]at hc;cases hc
 simp only[List.mem_cons,not_or]
 exact⟨ne h.ins,ne h.lst,ne h.sts,fun w=>by obtain⟨_,_,_,us,z⟩:=h.dA c w;exact ne z rfl⟩
theorem Wst.push0{row:List Int}{b c x:Addr}{bv:List V}(h:Wst K H₀ C n ns A S0 bs S1 cs H vp vo a dx e s vb ws ss vc)(eb:vc = .ref b)(hb:H b=some (.lst bv))(hc:H c=none)(hx:H x=none)(cx:c≠x)(g1:H' s=some (.lst (ss++[vc]++[.ref c])))(g2:H' c=some (.lst (bv++[.ref x])))(g3:H' x=some (.lst (row.map V.int)))(keep:∀ z o,z≠s→H z=some o→H' z=some o):
   Wst K H₀ C n ns A S0 bs (S1++[cs]) (cs++[row]) H' vp vo a dx e s vb ws (ss++[vc]) (.ref c):=by
 have q:=h.keepS keep
 have oc:=h.out hc
 have ox:=h.out hx
 refine h.setS g1 keep ?_ ?_
 · rw[List.map_append]
   exact Rps.append (Rps.mono _ q h.r3) (Rps.one (Rp.mono _ q h.r4))
 · obtain⟨b',bv',eb',_,y1,y2⟩:=Rp.lst_.mp h.r4
   rw[eb]at eb'
   cases eb'
   have y3:=(m8 y1).2
   rw[hb]at y3
   cases y3
   refine Rp.lst_.mpr ⟨c,bv++[.ref x],rfl,rfl,by rw[i7 oc];exact g2,?_⟩
   rw[List.map_append]
   have q2:Same (hidL [b] (hidL (a::e::s::A) H)) (hidL [c] (hidL (a::e::s::A) H')):=fun z o y=>by
    obtain⟨z1,z2⟩:=m8 y
    have z3:=q _ _ z2
    rw[i7 (by intro w;rw[List.mem_singleton.mp w]at z2;rw[i7 oc,hc]at z2;cases z2)]
    exact z3
   refine Rps.append (Rps.mono _ q2 y2) (Rps.one (Rp.lst_.mpr ⟨x,row.map V.int,rfl,rfl,?_,Rps.ints.mpr rfl⟩))
   rw[i7 (by simpa using Ne.symm cx),i7 ox]
   exact g3
theorem Wst.pushD{p:Nat}{b c:Addr}{bv:List V}(h:Wst K H₀ C n ns A S0 bs S1 cs H vp vo a dx e s vb ws ss vc)(eb:vc = .ref b)(hb:H b=some (.lst bv))(hc:H c=none)(g1:H' s=some (.lst (ss++[vc]++[.ref c])))(g2:H' c=some (.lst (bv.take p++bv.drop (p+1))))(keep:∀ z o,z≠s→H z=some o→H' z=some o):
   Wst K H₀ C n ns A S0 bs (S1++[cs]) (cs.take p++cs.drop (p+1)) H' vp vo a dx e s vb ws (ss++[vc]) (.ref c):=by
 have q:=h.keepS keep
 have oc:=h.out hc
 refine h.setS g1 keep ?_ ?_
 · rw[List.map_append]
   exact Rps.append (Rps.mono _ q h.r3) (Rps.one (Rp.mono _ q h.r4))
 · obtain⟨b',bv',eb',_,y1,y2⟩:=Rp.lst_.mp h.r4
   rw[eb]at eb'
   cases eb'
   have y3:=(m8 y1).2
   rw[hb]at y3
   cases y3
   refine Rp.lst_.mpr ⟨c,_,rfl,rfl,by rw[i7 oc];exact g2,?_⟩
   have q2:Same (hidL [b] (hidL (a::e::s::A) H)) (hidL [c] (hidL (a::e::s::A) H')):=fun z o y=>by
    obtain⟨z1,z2⟩:=m8 y
    have z3:=q _ _ z2
    rw[i7 (by intro w;rw[List.mem_singleton.mp w]at z2;rw[i7 oc,hc]at z2;cases z2)]
    exact z3
   have y4:=Rps.mono _ q2 y2
   rw[List.map_append,List.map_take,List.map_drop]
   exact Rps.append (Rps.take p y4) (Rps.drop (p+1) y4)
theorem S4{B:Hp}:∀{ds:List Dt} {d:Dt} {vs:List V},Rps K B (ds++[d]) H vs→∃ us v,vs=us++[v]∧Rps K B ds H us∧Rp K B d H v
 | [],d,vs,h=>by
  obtain⟨v,r,rfl,h1,h2⟩:=Rps.cons_.mp h
  rw[Rps.nil_.mp h2]
  exact⟨[],v,rfl,Rps.nil_.mpr rfl,h1⟩
 | x::ds,d,vs,h=>by
  obtain⟨v,r,rfl,h1,h2⟩:=Rps.cons_.mp h
  obtain⟨us,w,rfl,h3,h4⟩:=S4 h2
  exact⟨v::us,w,rfl,Rps.cons_.mpr ⟨v,us,rfl,h1,h3⟩,h4⟩
theorem Wst.pop{S2:List (List (List Int))}{c2:List (List Int)}(h:Wst K H₀ C n ns A S0 bs (S2++[c2]) cs H vp vo a dx e s vb ws ss vc)(g1:H' s=some (.lst ss))(keep:∀ z o,z≠s→H z=some o→H' z=some o):
  ∃ ss' vc',Wst K H₀ C n ns A S0 bs S2 c2 H' vp vo a dx e s vb ws ss' vc':=by
 have q:=h.keepS keep
 have r3:=h.r3
 rw[List.map_append]at r3
 obtain⟨us,v,eu,y1,y2⟩:=S4 r3
 exact⟨us,v,h.setS (by rw[g1,eu]) keep (Rps.mono _ q y1) (Rp.mono _ q y2)⟩
theorem Wst.turn{bs':List (List Int)}{u:V}(h:Wst K H₀ C n ns A S0 bs S1 cs H vp vo a dx e s vb ws ss vc)(m:Same H H')(ru:Rp K H (LT bs') H' u):Wst K H₀ C n ns A (S0++[bs]) bs' S1 cs (S3 H' C a dx e (.int n) vb u ws) vp vo a dx e s u (ws++[vb]) ss vc:=by
 have h':=h.grow m
 obtain⟨n1,n2,n3,n4,n5⟩:=h.ne_as
 have keep:∀ z o,z≠a→z≠e→H' z=some o→S3 H' C a dx e (.int n) vb u ws z=some o:=fun z o z1 z2 y=>by unfold S3;rw[i0 z1,i0 z2];exact y
 have q:=h'.keepB keep
 refine h'.setB (by unfold S3;rw[j0]) (by unfold S3;rw[i0 (Ne.symm n2),j0]) keep ?_ ?_
 · obtain⟨lb,us,rfl,y0,y1,y2⟩:=Rp.lst_.mp ru
   have ol:=h.out y0
   have nf:n9 (bs'.map T)=true:=by
    clear ru y2
    induction bs' with
    | nil=>rfl
    | cons r bs' ih=>rw[List.map_cons,n9,ih,Bool.and_true];show n9 (r.map Dt.int)=true;exact p8 r
   have la:lb≠a:=fun w=>ol (by simp[w])
   have le:lb≠e:=fun w=>ol (by simp[w])
   refine Rp.lst_.mpr ⟨lb,us,rfl,rfl,by rw[i7 ol];exact keep _ _ la le y1,?_⟩
   have y3:Rps K emp (bs'.map T) (hidL (a::e::s::A) (hidL [lb] H')) us:=Rps.flat_hid (fun c hc o y=>by
    have y:=(m8 y).2
    simp only[List.mem_cons]at hc
    rcases hc with rfl|rfl|rfl|hc
    · rw[h'.ins]at y;cases y;exact True.intro
    · rw[h'.lst]at y;cases y;exact True.intro
    · rw[h'.sts]at y;cases y;exact True.intro
    · obtain⟨_,_,_,vs,z⟩:=h'.dA c hc
      rw[z]at y;cases y;exact True.intro) _ nf y2
   rw[R0]at y3
   exact Rps.mono _ (r9 q) y3
 · rw[List.map_append]
   exact Rps.append (Rps.mono _ q h'.r2) (Rps.one (Rp.mono _ q h'.r1))
theorem Wst.back{S2:List (List (List Int))}{b2:List (List Int)}{us:List V}{y:V}(h:Wst K H₀ C n ns A (S2++[b2]) bs S1 cs H vp vo a dx e s vb (us++[y]) ss vc)(m:Same H H'):
  Wst K H₀ C n ns A S2 b2 S1 cs (upd (upd H' e (.lst us)) a (.ins C dx (bkF (.int n) y e))) vp vo a dx e s y us ss vc:=by
 have h':=h.grow m
 obtain⟨n1,n2,n3,n4,n5⟩:=h.ne_as
 have keep:∀ z o,z≠a→z≠e→H' z=some o→upd (upd H' e (.lst us)) a (.ins C dx (bkF (.int n) y e)) z=some o:=fun z o z1 z2 w=>by rw[i0 z1,i0 z2];exact w
 have q:=h'.keepB keep
 have r2:=h'.r2
 rw[List.map_append]at r2
 obtain⟨us',v,eu,y1,y2⟩:=S4 r2
 obtain⟨rfl,ev⟩:=List.append_inj' eu rfl
 cases ev
 exact h'.setB j0 (by rw[i0 (Ne.symm n2),j0]) keep (Rp.mono _ q y2) (Rps.mono _ q y1)
end
end L2

end
section
set_option Elab.async false
set_option linter.all false
set_option maxRecDepth 100000
set_option maxHeartbeats 1000000
namespace K39
open PySem L2
noncomputable section
def P6:FS:=(sRet (vAnd (fIsi "int" (fN 0)) (vNot (fIsi "bool" (fN 0)))))
def o3:FC:=cOf 1 1 true P6
def K7:FS:=(sSeq (sIf (fOr (fNot (fTru (fIsi "list" (fN 0)))) (m4 (fOp opNe (fBlt bLen (f9 (fN 0) fNil)) (fN 1)))) (sRet (fC (.bl false))) A7)
 (sRet (fBlt bAll (f9 (A6 1 [] (iSeq (fN 0)) (Tg.one 0) fYes (j7 true o3 (f9 (fN 0) fNil))) fNil))))
def z6:FC:=cOf 2 2 true K7
def K8:FS:=(sRet (vAnd (j7 true o3 (f9 (fN 0) fNil)) (B7 opLe opLe (fC (.int 1)) (fN 0) (fC (.int 6)))))
def D1:FC:=cOf 1 1 true K8
def N0:FS:=(sRet (vAnd (j7 true z6 (f9 (fN 0) (f9 (fN 1) fNil))) (fBlt bAll (f9 (A6 1 [] (iSeq (fN 0)) (Tg.one 0) fYes (fOp opLt (fBlt bAbs (f9 (fN 0) fNil)) (fOp AT (fC (.int 10)) (fC (.int 30))))) fNil))))
def o6:FC:=cOf 2 2 true N0
def G4:FS:=(sIf (fNot (fTru (j7 true D1 (f9 (fN 0) fNil)))) K4 A7)
def u6:FC:=cOf 1 1 true G4
def D2:FS:=(sIf (fNot (fTru (j7 true o6 (f9 (fN 0) (f9 (fN 1) fNil))))) (C7 1) A7)
def K9:FX:=xOf 2 2 true D2
def L0:FS:=(sIf (fNot (fTru (j7 true o6 (f9 (fN 0) (f9 (fN 1) fNil))))) K4 A7)
def o4:FC:=cOf 2 2 true L0
def N1:FS:=(sRet (fTup (f9 (fN 0) (f9 (fBlt bTup (f9 (A6 1 [] (iSeq (fN 1)) (Tg.one 0) fYes (fBlt bTup (f9 (fN 0) fNil))) fNil)) fNil))))
def A1:FC:=cOf 2 2 true N1
def U3:FS:=(sSeq (Z8 (j7 true u6 (f9 (fN 0) fNil)))
 (sSeq (sIf (fOr (fNot (fTru (fIsi "list" (fN 1)))) (m4 (fOp opGt (fBlt bLen (f9 (fN 1) fNil)) (fC (.int 8))))) K4 A7)
 (sSeq (sFor [] (iSeq (fN 1)) (Tg.one 2)
 (Z8 (j7 true o4 (f9 (fN 2) (f9 (fN 0) fNil)))))
 (sRet (j7 true A1 (f9 (fN 0) (f9 (fN 1) fNil)))))))
def u7:FC:=cOf 2 3 true U3
def L1:FS:=(sSeq (sIf (m4 (fOp opLt (fN 1) (fBlt bLen (f9 (fN 0) fNil)))) (sRet (fAt (fN 0) (fN 1))) A7)
 (sSeq (sIf (m4 (fOp opEq (fN 0) (fLst fNil))) (sRet (fC (.int 0))) A7)
 (sRet (fOp o2 (fOp Z2 (fAt (fN 0) (fOp J3 (fN 1) (fBlt bLen (f9 (fN 0) fNil)))) (fC (.int 31))) (fN 1)))))
def o5:FC:=cOf 2 2 true L1
def C8:FS:=(sSeq (sIf (m4 (fOp opEq (fN 1) (fC (.int 2)))) (sSeq (sSet [] 2 (fOp J3 (fN 0) (fOp AT (fC (.int 10)) (fC (.int 30)))))
 (sSeq (sIf (m4 (fOp opEq (fOp J3 (fOp AS (fN 0) (fOp AT (fC (.int 10)) (fC (.int 30)))) (fC (.int 2))) (fC (.int 1)))) (sRet (fNeg (fN 2))) A7)
 (sRet (fN 2)))) A7)
 (sSeq (sSet [] 3 (fAt (fLst (f9 (fC (.int 9)) (f9 (fC (.int 61)) fNil))) (fN 1)))
 (sSeq (sSet [] 2 (fOp J3 (fN 0) (fN 3)))
 (sSeq (sIf (m4 (fOp opGt (fN 2) (fOp AS (fN 3) (fC (.int 2))))) (sRet (fOp HG (fN 2) (fN 3))) A7)
 (sRet (fN 2))))))
def A3:FC:=cOf 2 4 true C8
def BU:FS:=(sRet (A6 1 [0,1,3] (M6 (fN 2)) (Tg.one 0) fYes (j7 true A3 (f9 (j7 true o5 (f9 (fN 1) (f9 (fOp o2 (fN 2) (fN 0)) fNil))) (f9 (fN 3) fNil)))))
def S5:FC:=cOf 4 4 true BU
def P7:FS:=(sRet (A6 1 [] (iSeq (fN 0)) (Tg.one 0) fYes (fBlt bLst (f9 (fN 0) fNil))))
def t9:FC:=cOf 1 1 true P7
def CC:FS:=(sSeq (sSet [] 3 (j7 true o5 (f9 (fN 0) (f9 (fOp o2 (fC (.int 3)) (fOp Z2 (fC (.int 2)) (fN 1))) fNil))))
 (sSeq (sSet [] 4 (j7 true S5 (f9 (fN 0) (f9 (fOp o2 (fC (.int 4)) (fOp Z2 (fC (.int 2)) (fN 1))) (f9 (fN 2) (f9 (fC (.int 0)) fNil))))))
 (sSeq (sSet [] 5 (fAt (fLst (f9 (fC (.int 0)) (f9 (fC (.int 0)) (f9 (fC (.int 0)) (f9 (fC (.int 1)) (f9 (fC (.int 1)) (f9 (fC (.int 2)) (f9 (fC (.int 0)) (f9 (fC (.int 3)) (f9 (fC (.int 2)) fNil)))))))))) (fOp J3 (fN 3) (fC (.int 9)))))
 (sSeq (sIf (m4 (fOp opEq (fN 5) (fC (.int 1)))) (sRet (fTup (f9 (fC (.int 1)) (f9 (fAt (fLst (f9 (fC (.int 0)) (f9 (fC (.int 1)) (f9 (fC (.int 2)) (f9 (fC (.int 3)) (f9 (fC (.int 4)) (f9 (fC (.int 5)) (f9 (fC (.int 6)) (f9 (fC (.int 7)) (f9 (fC (.int 8)) (f9 (fNeg (fC (.int 1))) (f9 (fC (.bl true)) fNil)))))))))))) (fOp J3 (fOp AS (fN 3) (fC (.int 9))) (fC (.int 11)))) fNil)))) A7)
 (sSeq (sIf (m4 (fOp opEq (fN 5) (fC (.int 3)))) (sRet (fTup (f9 (fC (.int 3)) (f9 (fAt (fLst (f9 (fC .non) (f9 (fC (.str "1")) (f9 (fBlt bTup (f9 (fN 4) fNil)) (f9 (fOp o2 (fN 4) (fLst (f9 (fC (.int 0)) fNil))) (f9 (fSl (fN 4) (E5 (fC (.int 1))) u5) (f9 (fOp o2 (fLst (f9 (fC .non) fNil)) (fSl (fN 4) (E5 (fC (.int 1))) u5)) fNil))))))) (fOp J3 (fOp AS (fN 3) (fC (.int 9))) (fC (.int 6)))) fNil)))) A7)
 (sRet (fTup (f9 (fN 5) (f9 (fN 4) fNil)))))))))
def A9:FC:=cOf 3 6 true CC
def h_NoHall:Nat→Bool:=fun n=>n==1
def h_NoPlace:Nat→Bool:=fun n=>n==3
def N2:FS:=sSeq (U0 K9 (f9 (fN 1) (f9 (fFld 0 (fN 0)) fNil))) (sSeq (sIf (m4 (fOp opGe (fBlt bLen (f9 (fFld 1 (fN 0)) fNil)) (fC (.int 8)))) (C7 1) A7) K4)
def F0:FX:=xOf 2 2 true N2
def L3:FS:=sSeq (sIf (m4 (fOp opEq (fBlt bLen (f9 (fFld 2 (fN 0)) fNil)) (fC (.int 0)))) (C7 3) A7) K4
def D3:FX:=xOf 1 1 true L3
def DE:FS:=sSeq (sIf (fOr (fNot (fTru (j7 true o3 (f9 (fN 1) fNil)))) (fNot (m4 (B7 opLe opLt (fC (.int 0)) (fN 1) (fBlt bLen (f9 (fFld 1 (fN 0)) fNil)))))) (C7 3) A7) K4
def BV:FX:=xOf 2 2 true DE
def P8:FC:=cOf 1 1 true (sRet (j7 true A1 (f9 (fFld 0 (fN 0)) (f9 (fFld 1 (fN 0)) fNil))))
def okI:Dt→Prop:=fun d=>u6 [d]=some .non
def nbf(C:Addr):Dt→Dt→List Dt→Dt→Option (List Dt):=fun kd b es d=>(j7 true o4 (f9 (fN 1) (f9 (fFld 0 (fN 0)) fNil)) [.sh false (.obj C kd b es),.sh false d]).bind fun _=>(m4 (fOp opGe (fBlt bLen (f9 (fFld 1 (fN 0)) fNil)) (fC (.int 8))) [.sh false (.obj C kd b es),.sh false d]).bind fun t=>if t then none else
 (f9 (fOp o2 (fFld 1 (fN 0)) (fLst (f9 (fBlt bTup (f9 (fN 1) fNil)) fNil))) fNil [.sh false (.obj C kd b es),.sh false d]).bind fun r=>match r with|[(.nw,.lst ts)]=>some ts|_=>none
abbrev Gk:FT:=fOr (fNot (fTru (j7 true o3 (f9 (fN 1) fNil)))) (fNot (m4 (B7 opLe opLt (fC (.int 0)) (fN 1) (fBlt bLen (f9 (fFld 1 (fN 0)) fNil)))))
abbrev Gm:FA:=f9 (fOp o2 (fSl (fFld 1 (fN 0)) u5 (E5 (fN 1))) (fSl (fFld 1 (fN 0)) (E5 (fOp o2 (fN 1) (fC (.int 1)))) u5)) fNil
def nbd(C:Addr):Dt→Dt→List Dt→Dt→Option (List Dt):=fun kd b es d=>(Gk [.sh false (.obj C kd b es),.sh false d]).bind fun t=>if t then none else
 (Gm [.sh false (.obj C kd b es),.sh false d]).bind fun r=>match r with|[(.nw,.lst ts)]=>some ts|_=>none
abbrev FK:FE:=fOp o2 (fC (.int 1)) (fOp J3 (j7 true o5 (f9 (fN 0) (f9 (fC (.int 0)) fNil))) (fC (.int 6)))
abbrev FM(C:Addr):FE:=Ih C okI (f9 (fN 1) fNil)
abbrev FD:FE:=j7 true A9 (f9 (fN 0) (f9 (fN 5) (f9 (fN 1) fNil)))
abbrev FRg:FE:=fOp o2 (fC (.int 3)) (fOp J3 (j7 true o5 (f9 (fN 0) (f9 (fC (.int 1)) fNil))) (fC (.int 22)))
abbrev FH(C:Addr):FT:=m4 (fOp opNe (P5 C true P8 (fN 2)) (j7 true u7 (f9 (fN 1) (f9 (j7 true t9 (f9 (fAt (fN 4) (fNeg (fC (.int 1)))) fNil)) fNil))))
abbrev FEnd(C:Addr):FE:=fOp opEq (P5 C true P8 (fN 3)) (j7 true u7 (f9 (fN 1) (f9 (fLst fNil) fNil)))
def rOp(X:Cx)(r:FO):R2:=fun x y H Q=>∃ dx dy f d,Rp X.K emp dx H x∧Rp X.K emp dy H y∧r dx dy=some (f,d)∧∀ v H',Same H H'→RpF X.ky H f d H' v→Q v H'
abbrev spD(K:PySem.W.Frag)(C:Addr):Sp:=Il K C F0 BV D3 (okH (nbf C)) (okH (nbd C))
abbrev Af(X:Cx)(C:Addr):TS:=tSeq (tIfS (Co (tOp (rOp X opEq) (tOp (rIxT X.K) (tVar 6) (tC (.int 0))) (tC (.int 0)))) (N7 (tBM0 X.K "list" Ht (tOp (rIxT X.K) (tVar 6) (tC (.int 1))))) t7) (tIfS (upB X (FH C)) (tRet (tC (.bl false))) t7)
abbrev Io(X:Cx)(C:Addr):TS:=tSeq (tAsg (upF X FD) (D8 6)) (tSeq (tAsg (Fy (Gj X.K) [] E0 (J1 (tVar 4) (J1 (tVar 6) tNil))) (D8 7)) (tSeq (tIfS (Co (tOp (rOp X opNe) (Fy (spD X.K C) [] E0 (J1 (tVar 2) (J1 (tVar 6) tNil))) (tVar 7))) (tRet (tC (.bl false))) t7) (Af X C)))
abbrev tLaw(X:Cx)(C:Addr):TS:=tSeq (tAsg (upF X FK) (D8 1)) (tSeq (tAsg (upF X (FM C)) (D8 2)) (tSeq (tAsg (upF X (FM C)) (D8 3)) (tSeq (tAsg (upF X (fLst (f9 (fLst fNil) fNil))) (D8 4)) (tSeq (tFor (iRng1 (J1 (upF X FRg) tNil)) (D8 5) (Io X C)) (tRet (upF X (FEnd C)))))))
def G5:FC:=fun ds=>match ds with
 | [.scr ns]=>if ns.length≤63 then some (.bl true) else none
 | _=>none
theorem B8(ns:List Int)(k:Int)(h0:0≤k):o5 [.scr ns,.int k]=some (.int (P4 ns k)):=by
 unfold o5 L1 P4
 by_cases h:k<ns.length
 · have e:atI ns k=some (ns.getD k.toNat 0):=by
     rw[Ge h0,List.getElem?_eq_getElem (by omega)];simp[List.getD,List.getElem?_eq_getElem (show k.toNat<ns.length by omega)]
   simp[cOf,h,e]
 · by_cases h2:ns=[]
   · subst h2
     simp[cOf,h,Cz [] [],show ¬k<0 by omega]
     rfl
   · have hp:0<ns.length:=List.length_pos_iff.mpr h2
     obtain⟨f1,f2⟩:=DD k (show(0:Int)<ns.length by omega)
     have e:atI ns (k.fmod ns.length)=some (ns.getD (k.fmod ns.length).toNat 0):=by
      rw[Ge f1,List.getElem?_eq_getElem (by omega)];simp[List.getD,List.getElem?_eq_getElem (show(k.fmod ns.length).toNat<ns.length by omega)]
     have e2:opEq (.scr ns) (.lst [])=some (.nw,.bl false):=by have:=Cz ns [];rw[decide_eq_false h2]at this;exact this
     simp[cOf,h,h2,e,e2,V8,E3,show ¬((ns.length:Int)=0) by omega]
theorem CD(c m:Int)(h0:0≤m)(h3:m<3):A3 [.int c,.int m]=some (.int (Be c m)):=by
 unfold A3 Be
 have hm:m=0∨m=1∨m=2:=by omega
 have d30:J2 c 1000000000000000000000000000000=true:=by unfold J2;decide
 have d9:J2 9 2=true:=by unfold J2;decide
 have d61:J2 61 2=true:=by unfold J2;decide
 have p30:Z1 10 30=true:=by unfold Z1;decide
 have two:∀(m w v:Int),m≠2→atI [Dt.int 9,Dt.int 61] m=some (.int w)→0<w→J2 w 2=true→w.fdiv 2=v→cOf 2 4 true C8 [.int c,.int m]=some (.int (if v<c.fmod w then c.fmod w-w else c.fmod w)):=fun m w v hm2 ha hw hd hv=>by
   refine M9 (f := .nw) rfl (run (ρ':=[.sh false (.int c),.sh false (.int m),.no,.no]) (by simp[cOf,p7,hm2]) (run (ρ':=[.sh false (.int c),.sh false (.int m),.no,.sh true (.int w)]) (by simp[cOf,ha]) (run (ρ':=[.sh false (.int c),.sh false (.int m),.sh true (.int (c.fmod w)),.sh true (.int w)]) (by simp[cOf,E3,show ¬w=0 by omega]) ?_))) rfl
   by_cases h:v<c.fmod w
   · simp[cOf,hd,hv,h]
   · simp[cOf,hd,hv,h]
 rcases hm with rfl|rfl|rfl
 · exact(two 0 9 4 (by decide) rfl (by decide) d9 rfl).trans (by simp)
 · exact(two 1 61 30 (by decide) rfl (by decide) d61 rfl).trans (by simp)
 · by_cases h:(c.fdiv 1000000000000000000000000000000).fmod 2=1
   · simp[cOf,C8,p7,E3,p30,d30,h]
   · simp[cOf,C8,p7,E3,p30,d30,h]
theorem Ip(ns:List Int)(a:Int)(n:Nat)(m:Int)(ha:0≤a)(hn:n≤1000)(h0:0≤m)(h3:m<3):S5 [.scr ns,.int a,.int n,.int m]=some (L (V9 ns a n m)):=by
 unfold S5 BU
 have q:A6 1 [0,1,3] (M6 (fN 2)) (Tg.one 0) fYes (j7 true A3 (f9 (j7 true o5 (f9 (fN 1) (f9 (fOp o2 (fN 2) (fN 0)) fNil))) (f9 (fN 3) fNil))) (rho0 4 [.scr ns,.int a,.int n,.int m])=some (.nw,L (V9 ns a n m)):=by
  have:=z9 (nt:=1) (js:=[0,1,3]) (Fi:=M6 (fN 2)) (g:=Tg.one 0) (Fe:=j7 true A3 (f9 (j7 true o5 (f9 (fN 1) (f9 (fOp o2 (fN 2) (fN 0)) fNil))) (f9 (fN 3) fNil))) (ρ:=rho0 4 [.scr ns,.int a,.int n,.int m]) (e:=fun(k:Nat) => .int (0+(k:Int))) (h:=fun(k:Nat) => .int (Be (P4 ns (a+(k:Int))) m)) (xs:=List.range n)
   (by simp[cOf,M6,intD,V5,DC,show(n:Int)≤1000000 by omega,show -1000000≤(n:Int) by omega])
   (fun k hk=>by simp[cOf,Tg.put,sigD,Z7,B8 ns (a+(k:Int)) (by omega),CD _ m h0 h3])
  rw[this];simp[L,V9]
 exact M9 rfl (f := .nw) (by unfold sRet;rw[q];rfl) rfl
theorem B0(d:Dt):o3 [d]=some (.bl (isWh d)):=by
 unfold o3 P6
 cases d<;>simp[cOf,isWh,Dt.flat,nrm]<;>simp[tyN,Dt.flat]
theorem U4(a:List Int)(n:Int):z6 [L a,.int n]=some (.bl (decide ((a.length:Int)=n))):=by
 unfold z6 K7
 have q:A6 1 [] (iSeq (fN 0)) (Tg.one 0) fYes (j7 true o3 (f9 (fN 0) fNil)) [.sh false (L a),.sh false (.int n)]=some (.nw,.lst (a.map fun _ => .bl true)) :=
   z9 (e:=Dt.int) (h:=fun _ => .bl true) (xs:=a) (by simp[cOf]) (fun x _=>by simp[cOf,Tg.put,sigD,B0,isWh])
 by_cases h:(a.length:Int)=n
 · simp[cOf,R9,h,q,bAll,M8 (fun _=>true) a]
 · simp[cOf,R9,h]
theorem BW(n:Nat)(h1:1≤n)(h2:n≤6):D1 [.int n]=some (.bl true):=by
 unfold D1 K8
 have e:=B0 (.int n)
 simp[cOf,e,isWh,B7,show(1:Int)≤n by omega,show(n:Int)≤6 by omega]
theorem O3(n:Nat)(h1:1≤n)(h2:n≤6):u6 [.int n]=some .non:=by
 unfold u6 G4
 simp[cOf,BW n h1 h2]
theorem Ag(a:List Int)(n:Nat)(hl:a.length=n)(h:∀ x∈a,x.natAbs<10 ^ 30):o6 [L a,.int n]=some (.bl true):=by
 unfold o6 N0
 have e:=U4 a n
 have p30:Z1 10 30=true:=by unfold Z1;decide
 have q:A6 1 [] (iSeq (fN 0)) (Tg.one 0) fYes (fOp opLt (fBlt bAbs (f9 (fN 0) fNil)) (fOp AT (fC (.int 10)) (fC (.int 30)))) [.sh false (L a),.sh false (.int n)]=some (.nw,.lst (a.map fun _ => .bl true)) :=
  z9 (e:=Dt.int) (h:=fun _ => .bl true) (xs:=a) (by simp[cOf]) (fun x hx=>by
   have:=h x hx
   have:(if x<0 then -x else x)<1000000000000000000000000000000:=by split<;>omega
   simp[cOf,Tg.put,sigD,bAbs,p30,this])
 simp[cOf,e,hl,q,bAll,M8 (fun _=>true) a]
theorem S6(a:List Int)(n:Nat)(hl:a.length=n)(h:∀ x∈a,x.natAbs<10 ^ 30):o4 [L a,.int n]=some .non:=by
 unfold o4 L0
 simp[cOf,Ag a n hl h]
theorem DF(k:Int)(rows:List (List Int)):A1 [.int k,LL rows]=some (z0 k rows):=by
 unfold A1 N1
 have q:A6 1 [] (iSeq (fN 1)) (Tg.one 0) fYes (fBlt bTup (f9 (fN 0) fNil)) [.sh false (.int k),.sh false (LL rows)]=some (.nw,.lst (rows.map T)) :=
  z9 (e:=L) (h:=T) (xs:=rows) (by simp[cOf]) (fun x hx=>by simp[cOf,Tg.put,sigD,bTup,p8])
 simp[cOf,q,bTup,U2]
theorem Ah(n:Nat)(bills:List (List Int))(h1:1≤n)(h2:n≤6)(hm:bills.length≤8)(hw:Wide n bills)(hb:∀ r∈bills,∀ x∈r,x.natAbs<10 ^ 30):u7 [.int n,LL bills]=some (z0 n bills):=by
 unfold u7 U3
 obtain⟨j,q⟩:=Bd (g:=Tg.one 2) (F:=Z8 (j7 true o4 (f9 (fN 2) (f9 (fN 0) fNil)))) (e:=L) (R:=fun(_:Unit) (c:Cell)=>[.sh false (.int n),.sh false (LL bills),c]) (step:=fun _ _=>()) bills () .no
  (fun b x j hx=>⟨.sh false (L x),by simp[cOf,Tg.put,S6 x n (hw x hx) (hb x hx)]⟩)
 have q:forF (Tg.one 2) (Z8 (j7 true o4 (f9 (fN 2) (f9 (fN 0) fNil)))) (bills.map L) [.sh false (.int n),.sh false (LL bills),.no]=some (.nx [.sh false (.int n),.sh false (LL bills),j]):=q
 simp[cOf,O3 n h1 h2,show ¬(8<(bills.length:Int)) by omega,q,DF]
theorem copies(bills:List (List Int))(ρ:Rho)(F:FE)(f:Fl)(h:F ρ=some (f,LL bills)):A6 1 [] (iSeq F) (Tg.one 0) fYes (fBlt bLst (f9 (fN 0) fNil)) ρ=some (.nw,LL bills) :=
 z9 (e:=L) (h:=L) (xs:=bills) (by unfold iSeq;rw[h];rfl) (fun x hx=>by simp[cOf])
theorem Bg:∀(k:Nat) (rows:List (List Int)),oksN (k+1) (rows.map T)=true
 | k,[]=>rfl
 | k,r::rows=>by rw[List.map_cons,oksN,Bg k rows,Dt.okN,U1];rfl
theorem CF:∀ rows:List (List Int),pys (rows.map T)=rows.map fun r => .tuple (r.map PyData.int)
 | []=>rfl
 | r::rows=>by rw[List.map_cons,pys,CF rows,Dt.py,Ab];rfl
theorem W1:∀ a:List (List Int),PyData.eqvAll (a.map fun r => .tuple (r.map PyData.int)) (a.map fun r => .tuple (r.map PyData.int))=true
 | []=>by simp[PyData.eqvAll]
 | n::ns=>by
  rw[List.map_cons,PyData.eqvAll,W1 ns,PyData.eqv,K5,decide_eq_true rfl];rfl
theorem Bh(n:Int)(J:List (List Int)):opNe (z0 n J) (z0 n J)=some (.nw,.bl false):=by
 have ok:(z0 n J).okN 8=true:=by
  show oksN 7 [.int n,TTu J]=true
  rw[oksN,oksN,oksN]
  show(true&&(oksN 6 (J.map T)&&true))=true
  rw[Bg];rfl
 have eq:eqD (z0 n J) (z0 n J)=true:=by
  unfold eqD
  show PyData.eqv (.tuple (pys [.int n,TTu J])) (.tuple (pys [.int n,TTu J]))=true
  rw[PyData.eqv,pys,pys,pys]
  show PyData.eqvAll [.int n,.tuple (pys (J.map T))] [.int n,.tuple (pys (J.map T))]=true
  rw[CF]
  simp[PyData.eqvAll,PyData.eqv,W1]
 unfold opNe
 rw[ok,eq]
 rfl
theorem CG(R:List (List Int)):t9 [LL R]=some (LL R):=by
 have cp:=copies R [.sh false (LL R)] (fN 0) .sh (by simp[cOf])
 unfold t9 P7
 simp[cOf,cp]
theorem P9(d:Dt)(n:Int)(h:(tyN d == "list")=false):z6 [d,.int n]=some (.bl false):=by
 have h':¬tyN d = "list" := by simpa using h
 have sn:∀ f:Fl,(nrm f d).2=d:=fun _=>rfl
 unfold z6 K7
 simp[cOf,sn,h']
theorem DG(ds:List Dt)(n:Int):z6 [.lst ds,.int n]=some (.bl (decide ((ds.length:Int)=n)&&ds.all isWh)):=by
 unfold z6 K7
 have q:A6 1 [] (iSeq (fN 0)) (Tg.one 0) fYes (j7 true o3 (f9 (fN 0) fNil)) [.sh false (.lst ds),.sh false (.int n)]=some (.nw,.lst (ds.map fun d => .bl (isWh d))) :=
   z9 (e:=id) (h:=fun d => .bl (isWh d)) (xs:=ds) (by simp[cOf]) (fun x _=>by
    have e:=B0 x
    have sn:∀ f:Fl,(nrm f x).2=x:=fun _=>rfl
    simp[cOf,Tg.put,sigD,sn,e])
 by_cases h:(ds.length:Int)=n
 · simp[cOf,R9,h,q,bAll,M8 isWh ds]
 · simp[cOf,R9,h]
theorem Ai{np nn m:Nat}{fr:Bool}{F:FS}{ds:List Dt}(hl:ds.length=np)(h:F (rho0 nn ds)=some (.ex m)):xOf np nn fr F ds=some (.inr m):=by
 unfold xOf
 rw[if_pos hl,h];rfl
theorem xOf_nx{np nn:Nat}{fr:Bool}{F:FS}{ds:List Dt}{ρ:Rho}(hl:ds.length=np)(h:F (rho0 nn ds)=some (.nx ρ)):xOf np nn fr F ds=some (.inl .non):=by
 unfold xOf
 rw[if_pos hl,h];rfl
theorem BX{F G:FS}{ρ:Rho}{m:Nat}(h:F ρ=some (.ex m)):sSeq F G ρ=some (.ex m):=by
 unfold sSeq
 rw[h];rfl
theorem Iq{c:FX}{Fs:FA}{ρ:Rho}{xs:List Dv}{m:Nat}(h:Fs ρ=some xs)(q:c (sndL xs)=some (.inr m)):U0 c Fs ρ=some (.ex m):=by
 unfold U0
 rw[h,n8,q];rfl
theorem Ir{c:FX}{Fs:FA}{ρ:Rho}{xs:List Dv}{d:Dt}(h:Fs ρ=some xs)(q:c (sndL xs)=some (.inl d)):U0 c Fs ρ=some (.nx ρ):=by
 unfold U0
 rw[h,n8,q];rfl
theorem S7{x:Int}{n:Nat}(h:0<n):∃ k:Nat,k<n∧x.fmod (n:Int)=(k:Int):=by
 have a:=Int.fmod_nonneg_of_pos x (show(0:Int)<n by omega)
 have b:=Int.fmod_lt_of_pos x (show(0:Int)<n by omega)
 obtain⟨k,hk⟩:=Int.eq_ofNat_of_zero_le a
 exact⟨k,by omega,hk⟩
theorem Iu(n:Int)(J:List (List Int)):opEq (z0 n J) (z0 n J)=some (.nw,.bl true):=by
 have:=Bh n J
 unfold opNe at this
 unfold opEq
 split at this
 · rename_i h
   rw[if_pos h]
   have e:(!eqD (z0 n J) (z0 n J))=false:=by injection this with this;injection this with _ this;injection this
   rw[show eqD (z0 n J) (z0 n J)=true by simpa using e]
 · cases this
theorem O6{d:Dt}{n:Nat}{b:Bool}(h:o6 [d,.int n]=some (.bl b)):K9 [d,.int n]=some (if b then .inl .non else .inr 1):=by
 have sn:∀ f:Fl,(nrm f d).2=d:=fun _=>rfl
 cases b with
 | true =>
  refine xOf_nx (ρ:=[.sh false d,.sh false (.int n)]) rfl ?_
  unfold D2
  simp[cOf,sn,h]
 | false =>
  refine Ai rfl ?_
  unfold D2
  simp[cOf,sn,h,C7]
theorem w6{d:Dt}{n:Nat}(h:z6 [d,.int n]=some (.bl false)):o6 [d,.int n]=some (.bl false):=by
 have sn:∀ f:Fl,(nrm f d).2=d:=fun _=>rfl
 unfold o6 N0
 simp[cOf,sn,h]
theorem cut1{α:Type}(x:α)(xs:List α):cutD (x::xs) (some 1) none=xs:=by
 simp[cutD,HT.sIx]
theorem X4(f:Fl)(d:Dt):(nrm f d).2=d:=rfl
def Aj(n:Nat)(w:Int)(u:Dt):Prop:=(w=0∧∃ row:List Int,u=L row∧row.length=n∧∀ x∈row,x.natAbs<10 ^ 30)∨(w=1∧(u = .bl true∨∃ i:Int,u = .int i))∨w=2∨(w=3∧o6 [u,.int n]=some (.bl false))
theorem Lh(ns:List Int)(n k:Nat)(h1:1≤n)(h6:n≤6)(hk:k<25):∃ w u,A9 [.scr ns,.int k,.int n]=some (.tup [.int w,u])∧Aj n w u:=by
 have ec:=B8 ns (3+2*(k:Int)) (by omega)
 have er:=Ip ns (4+2*(k:Int)) n 0 (by omega) (by omega) (by omega) (by omega)
 have hl:=GQ ns (4+2*(k:Int)) n 0
 have hs:∀ x∈V9 ns (4+2*(k:Int)) n 0,x.natAbs<10 ^ 30:=fun x hx=>by
  unfold V9 at hx
  obtain⟨j,_,rfl⟩:=List.mem_map.mp hx
  exact Ig _ _
 generalize P4 ns (3+2*(k:Int))=c at *
 generalize V9 ns (4+2*(k:Int)) n 0=row at *
 have mk:Z0 2 (k:Int)=true:=V8 (by omega)
 have m9:E3 c 9=true:=E8 (by decide)
 have d9:J2 c 9=true:=by unfold J2;decide
 have m11:E3 (c.fdiv 9) 11=true:=E8 (by decide)
 have m6:E3 (c.fdiv 9) 6=true:=E8 (by decide)
 have st:∀ w:Int,atI [Dt.int 0,.int 0,.int 0,.int 1,.int 1,.int 2,.int 0,.int 3,.int 2] (c.fmod 9)=some (.int w)→∀ G f d,G [.sh false (.scr ns),.sh false (.int k),.sh false (.int n),.sh true (.int c),.sh true (L row),.sh true (.int w)]=some (.rt f d)→(sSeq (sSet [] 3 (j7 true o5 (f9 (fN 0) (f9 (fOp o2 (fC (.int 3)) (fOp Z2 (fC (.int 2)) (fN 1))) fNil))))
  (sSeq (sSet [] 4 (j7 true S5 (f9 (fN 0) (f9 (fOp o2 (fC (.int 4)) (fOp Z2 (fC (.int 2)) (fN 1))) (f9 (fN 2) (f9 (fC (.int 0)) fNil))))))
  (sSeq (sSet [] 5 (fAt (fLst (f9 (fC (.int 0)) (f9 (fC (.int 0)) (f9 (fC (.int 0)) (f9 (fC (.int 1)) (f9 (fC (.int 1)) (f9 (fC (.int 2)) (f9 (fC (.int 0)) (f9 (fC (.int 3)) (f9 (fC (.int 2)) fNil)))))))))) (fOp J3 (fN 3) (fC (.int 9))))) G))) (rho0 6 [.scr ns,.int k,.int n])=some (.rt f d):=fun w hw G f d hG=>by
  refine run (ρ':=[.sh false (.scr ns),.sh false (.int k),.sh false (.int n),.sh true (.int c),.no,.no]) (by simp[cOf,mk,ec]) ?_
  refine run (ρ':=[.sh false (.scr ns),.sh false (.int k),.sh false (.int n),.sh true (.int c),.sh true (L row),.no]) (by simp[cOf,mk,er]) ?_
  refine run (ρ':=[.sh false (.scr ns),.sh false (.int k),.sh false (.int n),.sh true (.int c),.sh true (L row),.sh true (.int w)]) (by simp[cOf,m9,hw]) ?_
  exact hG
 have w0:atI [Dt.int 0,.int 0,.int 0,.int 1,.int 1,.int 2,.int 0,.int 3,.int 2] (c.fmod 9)=some (.int 0)→∃ w u,A9 [.scr ns,.int k,.int n]=some (.tup [.int w,u])∧Aj n w u:=fun hw=>by
  refine⟨0,L row,M9 (f := .fr) rfl (st 0 hw _ _ _ ?_) rfl,.inl ⟨rfl,row,rfl,hl,hs⟩⟩
  simp[cOf,p7]
 have w2:atI [Dt.int 0,.int 0,.int 0,.int 1,.int 1,.int 2,.int 0,.int 3,.int 2] (c.fmod 9)=some (.int 2)→∃ w u,A9 [.scr ns,.int k,.int n]=some (.tup [.int w,u])∧Aj n w u:=fun hw=>by
  refine⟨2,L row,M9 (f := .fr) rfl (st 2 hw _ _ _ ?_) rfl,.inr (.inr (.inl rfl))⟩
  simp[cOf,p7]
 have w1:atI [Dt.int 0,.int 0,.int 0,.int 1,.int 1,.int 2,.int 0,.int 3,.int 2] (c.fmod 9)=some (.int 1)→∃ w u,A9 [.scr ns,.int k,.int n]=some (.tup [.int w,u])∧Aj n w u:=fun hw=>by
  have:∃ u,u.flat=true∧atI [Dt.int 0,.int 1,.int 2,.int 3,.int 4,.int 5,.int 6,.int 7,.int 8,.int (-1),.bl true] ((c.fdiv 9).fmod 11)=some u∧(u = .bl true∨∃ i:Int,u = .int i):=by
   obtain⟨j,hj,ej⟩:=S7 (x:=c.fdiv 9) (n:=11) (by decide)
   have ej:(c.fdiv 9).fmod 11=(j:Int):=ej
   rw[ej]
   match j,hj with
   | 0,_=>exact⟨_,rfl,rfl,.inr ⟨_,rfl⟩⟩
   | 1,_=>exact⟨_,rfl,rfl,.inr ⟨_,rfl⟩⟩
   | 2,_=>exact⟨_,rfl,rfl,.inr ⟨_,rfl⟩⟩
   | 3,_=>exact⟨_,rfl,rfl,.inr ⟨_,rfl⟩⟩
   | 4,_=>exact⟨_,rfl,rfl,.inr ⟨_,rfl⟩⟩
   | 5,_=>exact⟨_,rfl,rfl,.inr ⟨_,rfl⟩⟩
   | 6,_=>exact⟨_,rfl,rfl,.inr ⟨_,rfl⟩⟩
   | 7,_=>exact⟨_,rfl,rfl,.inr ⟨_,rfl⟩⟩
   | 8,_=>exact⟨_,rfl,rfl,.inr ⟨_,rfl⟩⟩
   | 9,_=>exact⟨_,rfl,rfl,.inr ⟨_,rfl⟩⟩
   | 10,_=>exact⟨_,rfl,rfl,.inl rfl⟩
  obtain⟨u,uf,ua,uo⟩:=this
  refine⟨1,u,M9 (f := .nw) rfl (st 1 hw _ _ _ ?_) rfl,.inr (.inl ⟨rfl,uo⟩)⟩
  have sn:nrm .nw u=(.nw,u):=BR u
  simp[cOf,p7,d9,m11,ua,sn,uf]
 have w3:atI [Dt.int 0,.int 0,.int 0,.int 1,.int 1,.int 2,.int 0,.int 3,.int 2] (c.fmod 9)=some (.int 3)→∃ w u,A9 [.scr ns,.int k,.int n]=some (.tup [.int w,u])∧Aj n w u:=fun hw=>by
  have cat:o2 (L row) (.lst [.int 0])=some (.nw,L (row++[0])):=by
   unfold o2 BJ rII Cu L
   have fl:n9 (row.map Dt.int++[.int 0])=true:=by rw[show row.map Dt.int++[Dt.int 0]=(row++[0]).map Dt.int by simp];exact p8 _
   simp[newL,lfl,fl,show row.length+1≤1000000 by omega]
  obtain⟨tl,ht,ct⟩:∃ tl:List Int,tl.length+1=n∧cutD (row.map Dt.int) (some 1) none=tl.map Dt.int:=by
   cases row with
   | nil=>simp at hl;omega
   | cons x a=>exact⟨a,by simpa using hl,cut1 _ _⟩
  have cat2:o2 (.lst [.non]) (L tl)=some (.nw,.lst (.non::tl.map Dt.int)):=by
   unfold o2 BJ rII Cu L
   have fl:n9 (.non::tl.map Dt.int)=true:=by rw[n9,p8];rfl
   show(if 1+(tl.map Dt.int).length≤1000000 then some (newL (.non::tl.map Dt.int)) else none)=_
   rw[if_pos (by rw[List.length_map];omega)]
   unfold newL lfl
   rw[if_pos fl]
  have:∃ u,atI [Dt.non,.str "1",T row,L (row++[0]),L tl,.lst (.non::tl.map Dt.int)] ((c.fdiv 9).fmod 6)=some u∧o6 [u,.int n]=some (.bl false):=by
   obtain⟨j,hj,ej⟩:=S7 (x:=c.fdiv 9) (n:=6) (by decide)
   have ej:(c.fdiv 9).fmod 6=(j:Int):=ej
   rw[ej]
   match j,hj with
   | 0,_=>exact⟨_,rfl,w6 (P9 _ _ rfl)⟩
   | 1,_=>exact⟨_,rfl,w6 (P9 _ _ rfl)⟩
   | 2,_=>exact⟨_,rfl,w6 (P9 _ _ rfl)⟩
   | 3,_=>exact⟨_,rfl,w6 (by rw[U4];simp;omega)⟩
   | 4,_=>exact⟨_,rfl,w6 (by rw[U4];simp;omega)⟩
   | 5,_=>exact⟨_,rfl,w6 (by rw[DG];simp[isWh])⟩
  obtain⟨u,ua,ub⟩:=this
  refine⟨3,u,M9 (f := .nw) rfl (st 3 hw _ _ _ ?_) rfl,.inr (.inr (.inr ⟨rfl,ub⟩))⟩
  have sn:nrm .nw u=(.nw,u):=BR u
  have cat':o2 (.lst (row.map Dt.int)) (.lst [.int 0])=some (.nw,L (row++[0])):=cat
  have nl:newL (tl.map Dt.int)=(.nw,L tl):=M7 _
  have e2:fBlt bTup (f9 (fN 4) fNil) [.sh false (.scr ns),.sh false (.int k),.sh false (.int n),.sh true (.int c),.sh true (L row),.sh true (.int 3)]=some (.nw,T row):=by simp[cOf,bTup]
  have e3:fOp o2 (fN 4) (fLst (f9 (fC (.int 0)) fNil)) [.sh false (.scr ns),.sh false (.int k),.sh false (.int n),.sh true (.int c),.sh true (L row),.sh true (.int 3)]=some (.nw,L (row++[0])):=by simp[cOf,cat]
  have e4:fSl (fN 4) (E5 (fC (.int 1))) u5 [.sh false (.scr ns),.sh false (.int k),.sh false (.int n),.sh true (.int c),.sh true (L row),.sh true (.int 3)]=some (.nw,L tl):=by
   simp[cOf,fSl,E5,u5,intD]
   rw[ct,M7]
  have e5:fOp o2 (fLst (f9 (fC .non) fNil)) (fSl (fN 4) (E5 (fC (.int 1))) u5) [.sh false (.scr ns),.sh false (.int k),.sh false (.int n),.sh true (.int c),.sh true (L row),.sh true (.int 3)]=some (.nw,.lst (.non::tl.map Dt.int)):=by
   unfold fOp
   rw[e4]
   simp[cOf,cat2]
  refine run (ρ':=[.sh false (.scr ns),.sh false (.int k),.sh false (.int n),.sh true (.int c),.sh true (L row),.sh true (.int 3)]) (by simp[cOf,p7]) ?_
  generalize fBlt bTup (f9 (fN 4) fNil)=F2 at *
  generalize fOp o2 (fN 4) (fLst (f9 (fC (.int 0)) fNil))=F3 at *
  generalize fOp o2 (fLst (f9 (fC .non) fNil)) (fSl (fN 4) (E5 (fC (.int 1))) u5)=F5 at *
  generalize fSl (fN 4) (E5 (fC (.int 1))) u5=F4 at *
  simp[cOf,p7,d9,m6,e2,e3,e4,e5,ua,sn]
 obtain⟨j,hj,ej⟩:=S7 (x:=c) (n:=9) (by decide)
 have ej:c.fmod 9=(j:Int):=ej
 rw[ej]at w0 w1 w2 w3
 match j,hj with
 | 0,_=>exact w0 rfl
 | 1,_=>exact w0 rfl
 | 2,_=>exact w0 rfl
 | 3,_=>exact w1 rfl
 | 4,_=>exact w1 rfl
 | 5,_=>exact w2 rfl
 | 6,_=>exact w0 rfl
 | 7,_=>exact w3 rfl
 | 8,_=>exact w2 rfl
theorem GU(k:Int)(rows:List (List Int)):A1 [.int k,.lst (rows.map T)]=some (z0 k rows):=by
 have q:A6 1 [] (iSeq (fN 1)) (Tg.one 0) fYes (fBlt bTup (f9 (fN 0) fNil)) [.sh false (.int k),.sh false (.lst (rows.map T))]=some (.nw,.lst (rows.map T)) :=
  z9 (e:=T) (h:=T) (xs:=rows) (by unfold iSeq;rfl) (fun x hx=>by simp[cOf,Tg.put,sigD,bTup,p8])
 unfold A1 N1
 simp[cOf,q,bTup,U2]
theorem Gn{C:Addr}{k:Int}{rows:List (List Int)}{es:List Dt}:P8 [.obj C (.int k) (.lst (rows.map T)) es]=some (z0 k rows):=by
 have e:=GU k rows
 unfold P8
 generalize rows.map T=R at *
 simp[cOf,fFld,fldD,X4,e]
theorem CH{C:Addr}{c:FC}{ρ:Rho}{f:Fl}{kd b d:Dt}{es:List Dt}{i:Nat}(h0:fN i ρ=some (f,.obj C kd b es))(h:c [.obj C kd b es]=some d):P5 C true c (fN i) ρ=some (nrm .nw d):=by
 unfold P5
 rw[h0,n8]
 show(if C=C then _ else _)=_
 rw[if_pos rfl,h]
 rfl
theorem X5{r:FO}{Fa Fb:FE}{ρ:Rho}{fa fb:Fl}{da db:Dt}(h1:Fa ρ=some (fa,da))(h2:Fb ρ=some (fb,db)):fOp r Fa Fb ρ=r da db:=by
 unfold fOp
 rw[h1,h2];rfl
theorem BY{F:FE}{ρ:Rho}{x:Dv}(h:F ρ=some x):f9 F fNil ρ=some [x]:=by
 unfold f9
 rw[h];rfl
theorem BZ:∀ bs:List (List Int),n9 (bs.map T)=true
 | []=>rfl
 | r::bs=>by rw[List.map_cons,n9,BZ bs,Bool.and_true];exact p8 r
theorem xh_bad{C:Addr}{b u:Dt}{es:List Dt}{n:Nat}(h:o6 [u,.int n]=some (.bl false)):F0 [.obj C (.int n) b es,u]=some (.inr 1):=by
 have e:=O6 h
 refine Ai rfl ?_
 unfold N2
 exact BX (Iq (xs:=[nrm .sh u,nrm .sh (.int n)]) rfl e)
theorem Li{C:Addr}{u:Dt}{bs:List Dt}{es:List Dt}{n:Nat}(h:o6 [u,.int n]=some (.bl true))(h8:8≤bs.length):F0 [.obj C (.int n) (.lst bs) es,u]=some (.inr 1):=by
 have e:=O6 h
 refine Ai rfl ?_
 unfold N2
 refine run (Ir (xs:=[nrm .sh u,nrm .sh (.int n)]) rfl e) ?_
 refine BX ?_
 have tt:m4 (fOp opGe (fBlt bLen (f9 (fFld 1 (fN 0)) fNil)) (fC (.int 8))) [.sh false (.obj C (.int n) (.lst bs) es),.sh false u]=some true:=by
  simp[cOf,fFld,fldD,X4]
  omega
 show sIf _ _ _ [.sh false (.obj C (.int n) (.lst bs) es),.sh false u]=_
 unfold sIf
 rw[tt,n8,if_pos rfl]
 rfl
theorem xd_bad{C:Addr}{k u:Dt}{bs es:List Dt}(h:badU u bs.length):BV [.obj C k (.lst bs) es,u]=some (.inr 3):=by
 have e:=B0 u
 refine Ai rfl ?_
 unfold DE
 refine BX ?_
 rcases h with rfl|⟨x,rfl,h⟩
 · have e:o3 [.bl true]=some (.bl false):=e
   simp[cOf,e,C7]
 · have e:o3 [.int x]=some (.bl true):=e
   rcases h with h|h
   · simp[cOf,e,C7,B7,show ¬(0:Int)≤x by omega]
   · by_cases h0:(0:Int)≤x
     · simp[cOf,e,C7,B7,h0,fFld,fldD,nrm,show ¬x<(bs.length:Int) by omega]
     · simp[cOf,e,C7,B7,h0]
theorem xt_nil{C:Addr}{k b:Dt}:D3 [.obj C k b []]=some (.inr 3):=by
 refine Ai rfl ?_
 unfold L3
 refine BX ?_
 simp[cOf,p7,fFld,fldD,nrm,C7]
theorem nbf_eq{C:Addr}{n:Nat}{a:List Int}{bs:List (List Int)}{es:List Dt}(h8:bs.length<8)(hl:a.length=n)(hb:∀ x∈a,x.natAbs<10 ^ 30):nbf C (.int n) (LT bs) es (L a)=some ((bs++[a]).map T):=by
 unfold nbf
 have e:=S6 a n hl hb
 have e1:j7 true o4 (f9 (fN 1) (f9 (fFld 0 (fN 0)) fNil)) [.sh false (.obj C (.int n) (LT bs) es),.sh false (L a)]=some (.nw,.non):=by
  unfold j7
  rw[show f9 (fN 1) (f9 (fFld 0 (fN 0)) fNil) [.sh false (.obj C (.int n) (LT bs) es),.sh false (L a)]=some [nrm .sh (L a),nrm .sh (.int n)]from rfl,n8,show sndL [nrm .sh (L a),nrm .sh (.int n)]=[L a,.int n]from rfl,e]
  rfl
 have e2:m4 (fOp opGe (fBlt bLen (f9 (fFld 1 (fN 0)) fNil)) (fC (.int 8))) [.sh false (.obj C (.int n) (LT bs) es),.sh false (L a)]=some false:=by
  simp[cOf,fFld,fldD,X4]
  omega
 have cat:o2 (LT bs) (.lst [T a])=some (.nw,.lst ((bs++[a]).map T)):=by
  have:o2 (LT bs) (.lst [T a])=(if(bs.map T).length+1≤1000000 then some (newL (bs.map T++[T a])) else none):=rfl
  rw[this,if_pos (by rw[List.length_map];omega),show bs.map T++[T a]=(bs++[a]).map T by simp]
  unfold newL lfl
  rw[if_pos (BZ _)]
 have e3:f9 (fOp o2 (fFld 1 (fN 0)) (fLst (f9 (fBlt bTup (f9 (fN 1) fNil)) fNil))) fNil [.sh false (.obj C (.int n) (LT bs) es),.sh false (L a)]=some [(.nw,.lst ((bs++[a]).map T))]:=by
  have f1:fFld 1 (fN 0) [.sh false (.obj C (.int n) (LT bs) es),.sh false (L a)]=some (.sh,LT bs):=rfl
  have f2:fLst (f9 (fBlt bTup (f9 (fN 1) fNil)) fNil) [.sh false (.obj C (.int n) (LT bs) es),.sh false (L a)]=some (.nw,.lst [T a]):=by simp[cOf,bTup]
  exact BY ((X5 f1 f2).trans cat)
 rw[e1,n8,e2,n8,e3]
 rfl
theorem nbd_eq{C:Addr}{k:Dt}{p:Nat}{bs:List (List Int)}{es:List Dt}(h:p<bs.length)(h8:bs.length≤8):nbd C k (LT bs) es (.int p)=some ((bs.take p++bs.drop (p+1)).map T):=by
 have e:=B0 (.int p)
 have e:o3 [.int (p:Int)]=some (.bl true):=e
 unfold nbd
 have e1:Gk [.sh false (.obj C k (LT bs) es),.sh false (.int p)]=some false:=by
  simp[cOf,e,B7,fFld,fldD,X4,show(p:Int)<(bs.length:Int) by omega]
 have f1:fFld 1 (fN 0) [.sh false (.obj C k (LT bs) es),.sh false (.int p)]=some (.sh,LT bs):=rfl
 have c1:cutD (bs.map T) none (some (p:Int))=(bs.take p).map T:=by
  show((bs.map T).drop 0).take (HT.sIx (bs.map T).length (bs.map T).length (some (p:Int))-0)=_
  rw[L2.Q6 rfl (by rw[List.length_map];omega),List.map_take]
  simp
 have c2:cutD (bs.map T) (some ((p:Int)+1)) none=(bs.drop (p+1)).map T:=by
  show((bs.map T).drop (HT.sIx (bs.map T).length 0 (some ((p:Int)+1)))).take ((bs.map T).length-HT.sIx (bs.map T).length 0 (some ((p:Int)+1)))=_
  rw[L2.Q6 (p:=p+1) (by omega) (by rw[List.length_map];omega),List.take_of_length_le (by rw[List.length_drop];omega),List.map_drop]
 have nl:∀ x:List (List Int),newL (x.map T)=(.nw,.lst (x.map T)):=fun x=>by unfold newL lfl;rw[if_pos (BZ _)]
 have g1:fSl (fFld 1 (fN 0)) u5 (E5 (fN 1)) [.sh false (.obj C k (LT bs) es),.sh false (.int p)]=some (.nw,LT (bs.take p)):=by
  unfold fSl
  rw[f1]
  show some (newL (cutD (bs.map T) none (some (p:Int))))=_
  rw[c1,nl]
 have g2:fSl (fFld 1 (fN 0)) (E5 (fOp o2 (fN 1) (fC (.int 1)))) u5 [.sh false (.obj C k (LT bs) es),.sh false (.int p)]=some (.nw,LT (bs.drop (p+1))):=by
  unfold fSl
  rw[f1]
  show some (newL (cutD (bs.map T) (some ((p:Int)+1)) none))=_
  rw[c2,nl]
 have e3:Gm [.sh false (.obj C k (LT bs) es),.sh false (.int p)]=some [(.nw,.lst ((bs.take p++bs.drop (p+1)).map T))]:=by
  have:o2 (LT (bs.take p)) (LT (bs.drop (p+1)))=(if((bs.take p).map T).length+((bs.drop (p+1)).map T).length≤1000000 then some (newL ((bs.take p).map T++(bs.drop (p+1)).map T)) else none):=rfl
  rw[if_pos (by rw[List.length_map,List.length_map,List.length_take,List.length_drop];omega),←List.map_append,nl]at this
  exact BY ((X5 g1 g2).trans this)
 rw[e1,n8,e3]
 rfl
def Good(n:Nat)(b:List (List Int)):Prop:=b.length≤8∧Wide n b∧∀ r∈b,∀ x∈r,x.natAbs<10 ^ 30
theorem FH_eq{C:Addr}{n:Nat}{bs:List (List Int)}{S es:List Dt}{c0 c3 c5 c6 c7:Cell}(g:Good n bs)(h1:1≤n)(h6:n≤6):FH C [c0,.sh false (.int n),.sh false (.obj C (.int n) (LT bs) es),c3,.sh false (.lst (S++[LL bs])),c5,c6,c7]=some false:=by
 have a:P5 C true P8 (fN 2) [c0,.sh false (.int n),.sh false (.obj C (.int n) (LT bs) es),c3,.sh false (.lst (S++[LL bs])),c5,c6,c7]=some (nrm .nw (z0 n bs)):=CH rfl Gn
 have b0:fAt (fN 4) (fNeg (fC (.int 1))) [c0,.sh false (.int n),.sh false (.obj C (.int n) (LT bs) es),c3,.sh false (.lst (S++[LL bs])),c5,c6,c7]=(atI (S++[LL bs]) (-1)).map (nrm (Fl.item .sh)):=rfl
 rw[Cr]at b0
 have b1:j7 true t9 (f9 (fAt (fN 4) (fNeg (fC (.int 1)))) fNil) [c0,.sh false (.int n),.sh false (.obj C (.int n) (LT bs) es),c3,.sh false (.lst (S++[LL bs])),c5,c6,c7]=some (.nw,LL bs):=by
  have:=BY b0
  unfold j7
  rw[this,n8]
  show(t9 [LL bs]).map _=_
  rw[CG]
  rfl
 have b2:j7 true u7 (f9 (fN 1) (f9 (j7 true t9 (f9 (fAt (fN 4) (fNeg (fC (.int 1)))) fNil)) fNil)) [c0,.sh false (.int n),.sh false (.obj C (.int n) (LT bs) es),c3,.sh false (.lst (S++[LL bs])),c5,c6,c7]=some (nrm .nw (z0 n bs)):=by
  have:=BY b1
  have c:f9 (fN 1) (f9 (j7 true t9 (f9 (fAt (fN 4) (fNeg (fC (.int 1)))) fNil)) fNil) [c0,.sh false (.int n),.sh false (.obj C (.int n) (LT bs) es),c3,.sh false (.lst (S++[LL bs])),c5,c6,c7]=some [nrm .sh (.int n),(.nw,LL bs)]:=by
   rw[f9,this];rfl
  unfold j7 at c ⊢
  rw[c,n8]
  show(u7 [.int n,LL bs]).map _=_
  rw[Ah n bs h1 h6 g.1 g.2.1 g.2.2]
  rfl
 have:=X5 (r:=opNe) a b2
 unfold FH m4
 rw[this,Bh]
 rfl
theorem Lj{C:Addr}{n:Nat}{c0 c2 c4 c5 c6 c7:Cell}(h1:1≤n)(h6:n≤6):FEnd C [c0,.sh false (.int n),c2,.sh false (.obj C (.int n) (.lst []) []),c4,c5,c6,c7]=some (.nw,.bl true):=by
 have a:P5 C true P8 (fN 3) [c0,.sh false (.int n),c2,.sh false (.obj C (.int n) (.lst []) []),c4,c5,c6,c7]=some (nrm .nw (z0 n [])):=CH rfl (Gn (rows:=[]))
 have b2:j7 true u7 (f9 (fN 1) (f9 (fLst fNil) fNil)) [c0,.sh false (.int n),c2,.sh false (.obj C (.int n) (.lst []) []),c4,c5,c6,c7]=some (nrm .nw (z0 n [])):=by
  show(u7 [.int n,LL []]).map _=_
  rw[Ah n [] h1 h6 (by decide) (fun r hr=>by cases hr) (fun r hr=>by cases hr)]
  rfl
 have:=X5 (r:=opEq) a b2
 unfold FEnd
 rw[this]
 exact Iu n []
theorem rep8{Y:Ky}{H:Hp}{c0 c1 c2 c3 c4 c5 c6 c7:Cell}{v0 v1 v2 v3 v4 v5 v6 v7:Option V}(b:Same Y.H₀ H)(h0:RpC Y H c0 v0)(h1:RpC Y H c1 v1)(h2:RpC Y H c2 v2)(h3:RpC Y H c3 v3)(h4:RpC Y H c4 v4)(h5:RpC Y H c5 v5)(h6:RpC Y H c6 v6)(h7:RpC Y H c7 v7):RepS Y H [c0,c1,c2,c3,c4,c5,c6,c7] [v0,v1,v2,v3,v4,v5,v6,v7] :=
 ⟨rfl,b,fun i c e=>by
  match i,e with
  | 0,e=>cases e;exact⟨_,rfl,h0⟩
  | 1,e=>cases e;exact⟨_,rfl,h1⟩
  | 2,e=>cases e;exact⟨_,rfl,h2⟩
  | 3,e=>cases e;exact⟨_,rfl,h3⟩
  | 4,e=>cases e;exact⟨_,rfl,h4⟩
  | 5,e=>cases e;exact⟨_,rfl,h5⟩
  | 6,e=>cases e;exact⟨_,rfl,h6⟩
  | 7,e=>cases e;exact⟨_,rfl,h7⟩⟩
theorem Ak{K:PySem.W.Frag}{C:Addr}{ok:Dt→Dt→List Dt→Dt→Dt→Prop}{vs:List V}{H:Hp}{Q Q':VK}{E E':XK}(h:z5 K C ok vs H Q E)(q:∀ v H',Q v H'→Q' v H'):z5 K C ok vs H Q' E':=by
 obtain⟨a,dx,e,vk,vb,ws,kd,b,es,d,v,nb,h1,h2,h3,h4,h5,h6,h7⟩:=h
 exact⟨a,dx,e,vk,vb,ws,kd,b,es,d,v,nb,h1,h2,h3,h4,h5,h6,fun H' u s r=>q _ _ (h7 H' u s r)⟩
theorem DH{K:PySem.W.Frag}{vs:List V}{H:Hp}{Q Q':VK}{E E':XK}(h:K6 K vs H Q E)(q:∀ v H',Q v H'→Q' v H'):K6 K vs H Q' E':=by
 obtain⟨C,a,dx,e,vk,vb,ws,y,kd,b,es,h1,h2,h3,h4,h5⟩:=h
 exact⟨C,a,dx,e,vk,vb,ws,y,kd,b,es,h1,h2,h3,h4,fun H' s=>q _ _ (h5 H' s)⟩
theorem Go(s:Str)(h:PyData.strOk s=true):opNe (.str s) (.str s)=some (.nw,.bl false):=by
 unfold opNe eqD
 rw[if_pos (show((Dt.str s).okN 8&&(Dt.str s).okN 8)=true by simp[Dt.okN,h])]
 have:PyData.eqv (Dt.str s).py (Dt.str s).py=true:=by simp[Dt.py,PyData.eqv]
 rw[this];rfl
theorem S8{K:PySem.W.Frag}{H H':Hp}{t:Addr}{xs:List V}(h:SqT K H t xs)(k:∀ z o,H z=some o→¬isLI o→H' z=some o):SqT K H' t xs:=by
 rcases h with(h|⟨q,h⟩)|h
 · exact .inl (.inl (k _ _ h (fun z=>z)))
 · exact .inl (.inr ⟨q,k _ _ h (fun z=>z)⟩)
 · exact .inr h
section
variable {X:Cx}{C:Addr}{D:Ends}{n:Nat}{ns:List Int}{A:List Addr}{S0 S1:List (List (List Int))}{bs cs:List (List Int)}{H:Hp}{vp vo:V}{a dx e s:Addr}{vb:V}{ws ss:List V}{vc:V}
theorem Lk(h1:1≤n)(h6:n≤6)(w:Wst X.K X.H₀ C n ns A S0 bs S1 bs H vp vo a dx e s vb ws ss vc)(g:Good n bs){k:Int}{td:Addr}{vu:V}(ht:SqT X.K H td [.int k,vu])(hA:(k=0∧∃ r,vu = .ref r∧A=[r]∧X.H₀ r=none)∨(k≠0∧A=[])){x5 x7:Option V}
   (fin:∀ H',Wst X.K X.H₀ C n ns [] S0 bs S1 bs H' vp vo a dx e s vb ws ss vc→D.nx [some vp,some (.int n),some (.ref a),some vo,some (.ref s),x5,some (.ref td),x7] H'):Af X C D [some vp,some (.int n),some (.ref a),some vo,some (.ref s),x5,some (.ref td),x7] H:=by
 have last:∀ H1,Wst X.K X.H₀ C n ns [] S0 bs S1 bs H1 vp vo a dx e s vb ws ss vc→tIfS (upB X (FH C)) (tRet (tC (.bl false))) t7 D [some vp,some (.int n),some (.ref a),some vo,some (.ref s),x5,some (.ref td),x7] H1:=fun H1 w1 =>
   O1 (ρ:=[.no,.sh false (.int n),.sh false (.obj C (.int n) (LT bs) (S0.map LT)),.no,.sh false (.lst (S1.map LL++[LL bs])),.no,.no,.no])
    (rep8 w1.b0 trivial ⟨_,rfl,Rp.int_.mpr rfl⟩ ⟨_,rfl,w1.obj⟩ trivial ⟨_,rfl,w1.stl⟩ trivial trivial trivial) (FH_eq g h1 h6) fun H2 s2=>fin H2 (w1.grow s2)
 refine⟨.ref td,rfl,td,[.int k,vu],0,.int k,rfl,rfl,ht,rfl,.int k,.int 0,.nw,.bl (decide (k=0)),Rp.int_.mpr rfl,Rp.int_.mpr rfl,p7 _ _,fun v H1 s1 r1=>⟨decide (k=0),Rp.bl_.mp r1.sh,?_⟩⟩
 show(if decide (k=0)=true then _ else _)
 rcases hA with⟨rfl,r,rfl,rfl,hr⟩|⟨hk,rfl⟩
 · rw[if_pos (by decide)]
   have w1:=w.grow s1
   obtain⟨_,_,_,us,hu⟩:=w1.dA r (by simp)
   exact⟨.ref td,rfl,td,[.int 0,.ref r],1,.ref r,rfl,rfl,s1.seqT ht,rfl,.inl ⟨rfl,us,SqL.of hu⟩,r,us,rfl,rfl,hu,last _ (w1.clear hr)⟩
 · rw[if_neg (by simpa using hk)]
   exact last _ (w.grow s1)
theorem G6(w:Wst X.K X.H₀ C n ns A S0 bs S1 cs H vp vo a dx e s vb ws ss vc){k:Int}{u:Dt}{vd:V}{x5:Option V}{d7:Dt}{v7:V}(f7:∀ H,Rp X.K emp d7 H v7)(n7:opNe d7 d7=some (.nw,.bl false))(hd:Rp X.K emp (.tup [.int k,u]) H vd)(P:Hp→Prop)
   (h:(∃ m,(((k=0∨k=3)∧F0 [.obj C (.int n) (LT bs) (S0.map LT),u]=some (.inr m))∨(k=1∧BV [.obj C (.int n) (LT bs) (S0.map LT),u]=some (.inr m))∨(k=2∧D3 [.obj C (.int n) (LT bs) (S0.map LT)]=some (.inr m)))∧((m=1∧v7 = .str "hall" ∧ ∀ H',Same H H'→P H')∨(m=3∧v7 = .str "place" ∧ ∀ H',Same H H'→P H'))) ∨
     (k=0∧v7 = .bl true∧∀ H1 v,Same H H1→Rp X.K emp u H1 v→z5 X.K C (okH (nbf C)) [.ref a,v] H1 (fun z H'=>z = .non∧P H') E0) ∨
     (k=1∧v7 = .bl true∧∀ H1 v,Same H H1→Rp X.K emp u H1 v→z5 X.K C (okH (nbd C)) [.ref a,v] H1 (fun z H'=>z = .non∧P H') E0) ∨
     (k=2∧v7 = .bl true∧∀ H1,Same H H1→K6 X.K [.ref a] H1 (fun z H'=>z = .non∧P H') E0))
   (fin:∀ H1 H',P H1→Same H1 H'→Af X C D [some vp,some (.int n),some (.ref a),some vo,some (.ref s),x5,some vd,some v7] H') :
   tSeq (tIfS (Co (tOp (rOp X opNe) (Fy (spD X.K C) [] E0 (J1 (tVar 2) (J1 (tVar 6) tNil))) (tVar 7))) (tRet (tC (.bl false))) t7) (Af X C) D [some vp,some (.int n),some (.ref a),some vo,some (.ref s),x5,some vd,some v7] H:=by
 have ans:∀ H1,P H1→tVar 7 [some vp,some (.int n),some (.ref a),some vo,some (.ref s),x5,some vd,some v7] H1 fun y H2=>rOp X opNe v7 y H2 fun x H'=>∃ k,x = .bl k∧(fun b H1=>if b=true then tRet (tC (.bl false)) { D with nx:=Af X C D } [some vp,some (.int n),some (.ref a),some vo,some (.ref s),x5,some vd,some v7] H1 else t7 { D with nx:=Af X C D } [some vp,some (.int n),some (.ref a),some vo,some (.ref s),x5,some vd,some v7] H1) k H':=fun H1 p1 =>
   ⟨v7,rfl,d7,d7,.nw,.bl false,f7 H1,f7 H1,n7,fun v H2 s2 r2=>⟨false,Rp.bl_.mp r2.sh,by
     show(if false=true then _ else _)
     rw[if_neg (by decide)]
     exact fin H1 H2 p1 s2⟩⟩
 refine⟨.ref a,rfl,vd,rfl,a,vd,k,u,.int n,LT bs,S0.map LT,rfl,w.obj,hd,?_⟩
 rcases h with⟨m,hx,hq⟩|⟨hk,e7,q⟩|⟨hk,e7,q⟩|⟨hk,e7,q⟩
 · refine .inl ⟨m,hx,?_⟩
   rcases hq with⟨rfl,e7,q⟩|⟨rfl,e7,q⟩
   · exact .inl ⟨rfl,fun H' s'=>e7 ▸ ans H' (q H' s')⟩
   · exact .inr ⟨rfl,fun H' s'=>e7 ▸ ans H' (q H' s')⟩
 · refine .inr (.inl ⟨hk,fun H1 v s1 r=>Ak (q H1 v s1 r) fun z H' ⟨ez,pz⟩=>?_⟩)
   subst ez
   exact e7 ▸ ans H' pz
 · refine .inr (.inr (.inl ⟨hk,fun H1 v s1 r=>Ak (q H1 v s1 r) fun z H' ⟨ez,pz⟩=>?_⟩))
   subst ez
   exact e7 ▸ ans H' pz
 · refine .inr (.inr (.inr ⟨hk,fun H1 s1=>DH (q H1 s1) fun z H' ⟨ez,pz⟩=>?_⟩))
   subst ez
   exact e7 ▸ ans H' pz
def PP(X:Cx)(C:Addr)(n:Nat)(ns:List Int)(i:Nat)(k:Int)(vu:V)(td:Addr)(vp vo:V)(a dx e s:Addr)(H:Hp):Prop:=∃ A S' bs' vb' ws' ss' vc',Wst X.K X.H₀ C n ns A S' bs' S' bs' H vp vo a dx e s vb' ws' ss' vc'∧S'.length≤i+1∧(∀ b∈S',Good n b)∧Good n bs'∧SqT X.K H td [.int k,vu]∧((k=0∧∃ r,vu = .ref r∧A=[r]∧X.H₀ r=none)∨(k≠0∧A=[]))
theorem Ll(h1:1≤n)(h6:n≤6){i:Nat}(hi:i<25)(hS:S0.length≤i)(gs:∀ b∈S0,Good n b)(g:Good n bs)(w:Wst X.K X.H₀ C n ns [] S0 bs S0 bs H vp vo a dx e s vb ws ss vc){x6 x7:Option V}
    (fin:∀ S' bs' H' vb' ws' ss' vc' x6 x7,S'.length≤i+1→(∀ b∈S',Good n b)→Good n bs'→Wst X.K X.H₀ C n ns [] S' bs' S' bs' H' vp vo a dx e s vb' ws' ss' vc'→D.nx [some vp,some (.int n),some (.ref a),some vo,some (.ref s),some (.int i),x6,x7] H') :
    Io X C D [some vp,some (.int n),some (.ref a),some vo,some (.ref s),some (.int i),x6,x7] H:=by
  obtain⟨k,u,ed,hok⟩:=Lh ns n i h1 h6 hi
  have fd:FD [.sh false (.scr ns),.sh false (.int n),.no,.no,.no,.sh false (.int i),.no,.no]=some (.nw,.tup [.int k,u]):=by
    show(A9 [.scr ns,.int i,.int n]).map (nrm .nw)=_
    rw[ed]
    exact congrArg some (BR _)
  refine⟨[.sh false (.scr ns),.sh false (.int n),.no,.no,.no,.sh false (.int i),.no,.no],.nw,.tup [.int k,u],rep8 w.b0 ⟨_,rfl,Rp.mono _ j5 w.r6⟩ ⟨_,rfl,Rp.int_.mpr rfl⟩ trivial trivial trivial ⟨_,rfl,Rp.int_.mpr rfl⟩ trivial trivial,fd,fun v6 H1 s1 r6=>?_⟩
  have r6:Rp X.K H (.tup [.int k,u]) H1 v6:=r6
  obtain⟨td,tv,rfl,ht,hr⟩:=Rp.tup_.mp r6
  obtain⟨v0,tr,rfl,q0,q1⟩:=Rps.cons_.mp hr
  obtain⟨vu,tr',rfl,q2,q3⟩:=Rps.cons_.mp q1
  have q3:=Rps.nil_.mp q3
  subst q3
  have q0:=Rp.int_.mp q0
  subst q0
  have w1:=w.grow s1
  have hd1:Rp X.K emp (.tup [.int k,u]) H1 (.ref td):=Rp.anti Same.emp _ r6
  have stay:∀ H2,(∀ z o,z≠s→H1 z=some o→H2 z=some o)→Rp X.K emp (.tup [.int k,u]) H2 (.ref td):=fun H2 kp =>
    Rp.anti Same.emp _ (Rp.mono _ (fun z o y=>kp z o (fun q=>(m8 y).1 (by simp[q])) (m8 y).2) (Rp.hid (A:=[s]) (fun b hb=>by rw[List.mem_singleton.mp hb,w.sts];exact fun q=>nomatch q) _ (fun b hb o y=>by rw[List.mem_singleton.mp hb,w1.sts]at y;cases y;exact⟨_,rfl⟩) r6))
  have stayT:∀ H2,(∀ z o,z≠s→H1 z=some o→H2 z=some o)→SqT X.K H2 td [.int k,vu]:=fun H2 kp=>S8 ht fun z o y nl=>kp z o (fun q=>by rw[q,w1.sts]at y;cases y;exact nl True.intro) y
  have sl:ss.length<1000:=by have:=w.r3.length;rw[List.length_map]at this;omega
  have wl:ws.length<sizeLine:=by       have:=w.r2.length;rw[List.length_map]at this;have h5:(100000:Nat)≤sizeLine:=by decide
                                       omega
  have bl:(bs.map L).length<1000:=by rw[List.length_map];have:=g.1;omega
  have tl:∀{v7:V} H1 H',PP X C n ns i k vu td vp vo a dx e s H1→Same H1 H'→Af X C D [some vp,some (.int n),some (.ref a),some vo,some (.ref s),some (.int i),some (.ref td),some v7] H':=fun{v7} H1 H' ⟨A,S',bs',vb',ws',ss',vc',y1,y2,y3,y4,y5,y6⟩ sm =>
    Lk h1 h6 (y1.grow sm) y4 (sm.seqT y5) y6 fun H2 y=>fin S' bs' H2 vb' ws' ss' vc' _ _ y2 y3 y4 y
  have nh:=Go "hall" (by decide +kernel)
  have np:=Go "place" (by decide +kernel)
  have nt:opNe (.bl true) (.bl true)=some (.nw,.bl false):=by rfl
  refine⟨.ref s,rfl,.ref td,rfl,s,.ref td,ss,vc,S0.map LL,bs.map L,k,u,rfl,w1.sts,sl,w1.states.1,w1.states.2,hd1,bl,?_⟩
  rcases hok with⟨rfl,row,rfl,hl,hs⟩|⟨rfl,hu⟩|rfl|⟨rfl,hb⟩
  · obtain⟨r,us,rfl,hr0,hr1,hr2⟩:=Rp.lst_.mp q2
    have wr:=w.hide s1 hr0 hr1
    have hrz:X.H₀ r=none:=w.b0.free hr0
    refine .inr (.inl ⟨rfl,row,rfl,by omega,?_⟩)
    by_cases h8:bs.length=8
    · refine .inl ⟨by rw[List.length_map];exact h8,fun H2 s2=>?_⟩
      exact G6 (wr.grow s2) (d7 := .str "hall") (fun _=>Rp.str_.mpr rfl) nh (Rp.mono _ s2 hd1) _ (.inl ⟨1,.inl ⟨.inl rfl,Li (Ag row n hl hs) (by rw[List.length_map];omega)⟩,.inl ⟨rfl,rfl,fun H3 s3=>⟨[r],S0,bs,_,_,_,_,(wr.grow s2).grow s3,by omega,gs,g,(s2.trans s3).seqT ht,.inl ⟨rfl,r,rfl,rfl,hrz⟩⟩⟩⟩) tl
    · refine .inr ⟨by rw[List.length_map];exact h8,fun b bv c x H2 eb hb hc hx cx g1 g2 g3 kp=>?_⟩
      have w2:=wr.push0 eb hb hc hx cx g1 g2 g3 kp
      have g8:=g.1
      have gn:Good n (bs++[row]):=⟨by rw[List.length_append,List.length_singleton];omega,fun y hy=>by
        rcases List.mem_append.mp hy with hy|hy
        · exact g.2.1 y hy
        · rw[List.mem_singleton.mp hy];exact hl,fun y hy=>by
        rcases List.mem_append.mp hy with hy|hy
        · exact g.2.2 y hy
        · rw[List.mem_singleton.mp hy];exact hs⟩
      have gS:∀ b∈S0++[bs],Good n b:=fun y hy=>by
        rcases List.mem_append.mp hy with hy|hy
        · exact gs y hy
        · rw[List.mem_singleton.mp hy];exact g
      refine G6 w2 (d7 := .bl true) (fun _=>Rp.bl_.mpr rfl) nt (stay H2 kp) _ (.inr (.inl ⟨rfl,rfl,fun H3 v s3 rv=>?_⟩)) tl
      refine⟨a,dx,e,.int n,vb,ws,.int n,LT bs,S0.map LT,L row,v,.lst ((bs++[row]).map T),rfl,(w2.grow s3).bookH,(w2.grow s3).obj,rv,⟨_,nbf_eq (by omega) hl hs,rfl⟩,wl,fun H4 u' s4 ru=>⟨rfl,?_⟩⟩
      have w3:=(w2.grow s3).turn s4 ru
      refine⟨[r],S0++[bs],bs++[row],_,_,_,_,w3,by rw[List.length_append,List.length_singleton];omega,gS,gn,S8 ((s3.trans s4).seqT (stayT H2 kp)) (fun z o y nl=>?_),.inl ⟨rfl,r,rfl,rfl,hrz⟩⟩
      have w4:=(w2.grow s3).grow s4
      unfold S3
      rw[i0 (fun q=>by rw[q,w4.ins]at y;cases y;exact nl True.intro),i0 (fun q=>by rw[q,w4.lst]at y;cases y;exact nl True.intro)]
      exact y
  · refine .inr (.inr (.inl ⟨rfl,?_⟩))
    by_cases bad:badU u bs.length
    · refine .inl ⟨by rw[List.length_map];exact bad,fun H2 s2=>?_⟩
      exact G6 (w1.grow s2) (d7 := .str "place") (fun _=>Rp.str_.mpr rfl) np (Rp.mono _ s2 hd1) _ (.inl ⟨3,.inr (.inl ⟨rfl,xd_bad (by rw[List.length_map];exact bad)⟩),.inr ⟨rfl,rfl,fun H3 s3=>⟨[],S0,bs,_,_,_,_,(w1.grow s2).grow s3,by omega,gs,g,(s2.trans s3).seqT ht,.inr ⟨by decide,rfl⟩⟩⟩⟩) tl
    · obtain⟨p,rfl,hp⟩:∃ p:Nat,u = .int p∧p<bs.length:=by
        rcases hu with rfl|⟨j,rfl⟩
        · exact(bad (.inl rfl)).elim
        · have:¬(j<0∨(bs.length:Int)≤j):=fun q=>bad (.inr ⟨j,rfl,q⟩)
          exact⟨j.toNat,by rw[Int.toNat_of_nonneg (by omega)],by omega⟩
      refine .inr ⟨p,rfl,by rw[List.length_map];exact hp,fun b bv c H2 eb hb hc g1 g2 kp=>?_⟩
      have w2:=w1.pushD eb hb hc g1 g2 kp
      have sub:∀ y∈bs.take p++bs.drop (p+1),y∈bs:=fun y hy=>by
        rcases List.mem_append.mp hy with hy|hy
        · exact List.mem_of_mem_take hy
        · exact List.mem_of_mem_drop hy
      have gn:Good n (bs.take p++bs.drop (p+1)):=⟨by have:=g.1;rw[List.length_append,List.length_take,List.length_drop];omega,fun y hy=>g.2.1 y (sub y hy),fun y hy=>g.2.2 y (sub y hy)⟩
      have gS:∀ b∈S0++[bs],Good n b:=fun y hy=>by
        rcases List.mem_append.mp hy with hy|hy
        · exact gs y hy
        · rw[List.mem_singleton.mp hy];exact g
      refine G6 w2 (d7 := .bl true) (fun _=>Rp.bl_.mpr rfl) nt (stay H2 kp) _ (.inr (.inr (.inl ⟨rfl,rfl,fun H3 v s3 rv=>?_⟩))) tl
      refine⟨a,dx,e,.int n,vb,ws,.int n,LT bs,S0.map LT,.int p,v,.lst ((bs.take p++bs.drop (p+1)).map T),rfl,(w2.grow s3).bookH,(w2.grow s3).obj,rv,⟨_,nbd_eq hp g.1,rfl⟩,wl,fun H4 u' s4 ru=>⟨rfl,?_⟩⟩
      have w3:=(w2.grow s3).turn s4 ru
      refine⟨[],S0++[bs],bs.take p++bs.drop (p+1),_,_,_,_,w3,by rw[List.length_append,List.length_singleton];omega,gS,gn,S8 ((s3.trans s4).seqT (stayT H2 kp)) (fun z o y nl=>?_),.inr ⟨by decide,rfl⟩⟩
      have w4:=(w2.grow s3).grow s4
      unfold S3
      rw[i0 (fun q=>by rw[q,w4.ins]at y;cases y;exact nl True.intro),i0 (fun q=>by rw[q,w4.lst]at y;cases y;exact nl True.intro)]
      exact y
  · refine .inr (.inr (.inr ⟨rfl,?_⟩))
    rcases List.eq_nil_or_concat S0 with rfl|⟨S2,c2,rfl⟩
    · refine .inl ⟨rfl,fun H2 s2=>?_⟩
      exact G6 (w1.grow s2) (d7 := .str "place") (fun _=>Rp.str_.mpr rfl) np (Rp.mono _ s2 hd1) _ (.inl ⟨3,.inr (.inr ⟨rfl,xt_nil⟩),.inr ⟨rfl,rfl,fun H3 s3=>⟨[],[],bs,_,_,_,_,(w1.grow s2).grow s3,by simp,gs,g,(s2.trans s3).seqT ht,.inr ⟨by decide,rfl⟩⟩⟩⟩) tl
    · rw[List.concat_eq_append]at *
      refine .inr ⟨by simp,fun H2 g1 kp=>?_⟩
      obtain⟨ss',vc',w2⟩:=w1.pop g1 kp
      have r2:=w.r2
      rw[List.map_append]at r2
      obtain⟨us,y,rfl,_,_⟩:=S4 r2
      refine G6 w2 (d7 := .bl true) (fun _=>Rp.bl_.mpr rfl) nt (stay H2 kp) _ (.inr (.inr (.inr ⟨rfl,rfl,fun H3 s3=>?_⟩))) tl
      refine⟨C,a,dx,e,.int n,vb,us,y,.int n,LT bs,(S2++[c2]).map LT,rfl,(w2.grow s3).bookH,(w2.grow s3).obj,by simp,fun H4 s4=>⟨rfl,?_⟩⟩
      have w3:=(w2.grow s3).back s4
      refine⟨[],S2,c2,_,_,_,_,w3,by rw[List.length_append,List.length_singleton]at hS;omega,fun y hy=>gs y (by simp[hy]),gs c2 (by simp),S8 ((s3.trans s4).seqT (stayT H2 kp)) (fun z o y' nl=>?_),.inr ⟨by decide,rfl⟩⟩
      have w4:=(w2.grow s3).grow s4
      rw[i0 (fun q=>by rw[q,w4.ins]at y';cases y';exact nl True.intro),i0 (fun q=>by rw[q,w4.lst]at y';cases y';exact nl True.intro)]
      exact y'
  · refine .inl ⟨rfl,fun H2 s2=>?_⟩
    exact G6 (w1.grow s2) (d7 := .str "hall") (fun _=>Rp.str_.mpr rfl) nh (Rp.mono _ s2 hd1) _ (.inl ⟨1,.inl ⟨.inr rfl,xh_bad hb⟩,.inl ⟨rfl,rfl,fun H3 s3=>⟨[],S0,bs,_,_,_,_,(w1.grow s2).grow s3,by omega,gs,g,(s2.trans s3).seqT ht,.inr ⟨by decide,rfl⟩⟩⟩⟩) tl
end
theorem rd_law{X:Cx}{C:Addr}{ns:List Int}{H:Hp}{vp:V}{Q:VK}{N:List Str}(hN:N.length=8)(bk:Bk X.K C)(h0:X.H₀=H)(hp:Rp X.K emp (.scr ns) H vp)(fin:∀ H',Same H H'→Q (.bl true) H'):tLaw X C { nx:=fun _ H'=>Q .non H',rt:=Q } (L2.start N [vp]) H:=by
 have hst:L2.start N [vp]=[some vp,none,none,none,none,none,none,none]:=by unfold L2.start;rw[hN];rfl
 rw[hst]
 have c0:=B8 ns 0 (by decide)
 have c1:=B8 ns 1 (by decide)
 generalize P4 ns 0=x0 at *
 generalize P4 ns 1=x1 at *
 have m6:E3 x0 6=true:=E8 (by decide)
 have m22:E3 x1 22=true:=E8 (by decide)
 obtain⟨k0,hk0,e0⟩:=S7 (x:=x0) (n:=6) (by decide)
 have e0:x0.fmod 6=(k0:Int):=e0
 obtain⟨k1,hk1,e1⟩:=S7 (x:=x1) (n:=22) (by decide)
 have e1:x1.fmod 22=(k1:Int):=e1
 obtain⟨n,hn⟩:∃ n:Nat,n=1+k0:=⟨_,rfl⟩
 have sm0:Same X.H₀ H:=by rw[h0];exact Same.refl H
 have fk:FK [.sh false (.scr ns),.no,.no,.no,.no,.no,.no,.no]=some (.nw,.int n):=by simp[cOf,c0,m6,e0,hn]
 refine⟨[.sh false (.scr ns),.no,.no,.no,.no,.no,.no,.no],.nw,.int n,rep8 sm0 ⟨_,rfl,hp⟩ trivial trivial trivial trivial trivial trivial trivial,fk,fun v1 H1 s1 r1=>?_⟩
 obtain rfl:v1 = .int n:=Rp.int_.mp r1.sh
 have kk:=O3 n (by omega) (by omega)
 have fm:FM C [.no,.sh false (.int n),.no,.no,.no,.no,.no,.no]=some (.nw,.obj C (.int n) (.lst []) []):=by
   unfold FM Ih
   rw[show f9 (fN 1) fNil [.no,.sh false (.int n),.no,.no,.no,.no,.no,.no]=some [nrm .sh (.int n)]from rfl,n8]
   exact if_pos kk
 refine⟨[.no,.sh false (.int n),.no,.no,.no,.no,.no,.no],.nw,.obj C (.int n) (.lst []) [],rep8 (sm0.trans s1) trivial ⟨_,rfl,Rp.int_.mpr rfl⟩ trivial trivial trivial trivial trivial trivial,fm,fun v2 H2 s2 r2=>?_⟩
 have r2:Rp X.K H1 (.obj C (.int n) (.lst []) []) H2 v2:=r2
 obtain⟨a,dx,vk,vb,e,ws,rfl,a0,ains,aown,ee0,elst,_,rk,rb,rw'⟩:=Rp.obj_.mp r2
 obtain rfl:vk = .int n:=Rp.int_.mp rk
 obtain rfl:ws=[]:=Rps.nil_.mp rw'
 obtain⟨b,bv,rfl,b0,blst,rbv⟩:=Rp.lst_.mp rb
 obtain rfl:bv=[]:=Rps.nil_.mp rbv
 obtain⟨bO,bH⟩:=m8 blst
 refine⟨[.no,.sh false (.int n),.no,.no,.no,.no,.no,.no],.nw,.obj C (.int n) (.lst []) [],rep8 ((sm0.trans s1).trans s2) trivial ⟨_,rfl,Rp.int_.mpr rfl⟩ trivial trivial trivial trivial trivial trivial,fm,fun v3 H3 s3 r3=>?_⟩
 have r3:Rp X.K H2 (.obj C (.int n) (.lst []) []) H3 v3:=r3
 have f4:fLst (f9 (fLst fNil) fNil) [.no,.no,.no,.no,.no,.no,.no,.no]=some (.nw,.lst [.lst []]):=by rfl
 refine⟨[.no,.no,.no,.no,.no,.no,.no,.no],.nw,.lst [.lst []],rep8 (((sm0.trans s1).trans s2).trans s3) trivial trivial trivial trivial trivial trivial trivial trivial,f4,fun v4 H4 s4 r4=>?_⟩
 have r4:Rp X.K H3 (.lst [.lst []]) H4 v4:=r4
 obtain⟨s,sv,rfl,hs3,hs4,rsv⟩:=Rp.lst_.mp r4
 obtain⟨vc,rr,rfl,rc,rr0⟩:=Rps.cons_.mp rsv
 obtain rfl:rr=[]:=Rps.nil_.mp rr0
 obtain⟨c,cv,rfl,cc0,clst,rcv⟩:=Rp.lst_.mp rc
 obtain rfl:cv=[]:=Rps.nil_.mp rcv
 obtain⟨cO,cH⟩:=m8 clst
 have n3:∀{z:Addr} {o:HO},H3 z=some o→z≠s:=fun{z o} y q=>by rw[q,hs3]at y;cases y
 have n2:∀{z y:Addr} {o:HO},H2 z=some o→H2 y=none→y≠z:=fun{z y o} y1 y2 q=>by rw[q,y1]at y2;cases y2
 have a3:=s3 _ _ ains
 have e3:=s3 _ _ elst
 have b3:=s3 _ _ bH
 have W0:Wst X.K X.H₀ C n ns [] [] [] [] [] H4 vp v3 a dx e s (.ref b) [] [] (.ref c):=by
   refine⟨bk,s4 _ _ a3,s4 _ _ (s3 _ _ aown),s4 _ _ e3,hs4,n3 e3,?_,?_,?_,(((sm0.trans s1).trans s2).trans s3).trans s4,fun z hz=>(nomatch hz),?_,Rps.nil_.mpr rfl,Rps.nil_.mpr rfl,?_,?_,?_⟩
   · exact(sm0.trans s1).free a0
   · exact(sm0.trans s1).free ee0
   · exact(((sm0.trans s1).trans s2).trans s3).free hs3
   · refine Rp.lst_.mpr ⟨b,[],rfl,rfl,?_,Rps.nil_.mpr rfl⟩
     simp only[List.mem_cons,List.not_mem_nil,or_false,not_or]at bO
     rw[i7 (by simp only[List.mem_cons,List.not_mem_nil,or_false,not_or];exact⟨bO.1,bO.2,n3 b3⟩)]
     exact s4 _ _ b3
   · refine Rp.lst_.mpr ⟨c,[],rfl,rfl,?_,Rps.nil_.mpr rfl⟩
     have c3:∀{z:Addr} {o:HO},H3 z=some o→c≠z:=fun{z o} y q=>by rw[q,y]at cc0;cases cc0
     rw[i7 (by simp only[List.mem_cons,List.not_mem_nil,or_false,not_or];exact⟨c3 a3,c3 e3,by simpa using cO⟩)]
     exact cH
   · obtain⟨a',dx',vk',vb',e',ws',rfl,a0',ains',aown',ee0',elst',_,rk',rb',rw''⟩:=Rp.obj_.mp r3
     obtain rfl:vk' = .int n:=Rp.int_.mp rk'
     obtain rfl:ws'=[]:=Rps.nil_.mp rw''
     obtain⟨b',bv',rfl,b0',blst',rbv'⟩:=Rp.lst_.mp rb'
     obtain rfl:bv'=[]:=Rps.nil_.mp rbv'
     obtain⟨bO',bH'⟩:=m8 blst'
     have out:∀{z:Addr} {o:HO},H2 z=none→H3 z=some o→z ∉ [a,e,s]:=fun{z o} y1 y2=>by
       simp only[List.mem_cons,List.not_mem_nil,or_false,not_or]
       exact⟨n2 ains y1,n2 elst y1,n3 y2⟩
     refine Rp.obj_.mpr ⟨a',dx',.int n,.ref b',e',[],rfl,rfl,by rw[i7 (out a0' ains')];exact s4 _ _ ains',?_,rfl,by rw[i7 (out ee0' elst')];exact s4 _ _ elst',bk,Rp.int_.mpr rfl,Rp.lst_.mpr ⟨b',[],rfl,rfl,?_,Rps.nil_.mpr rfl⟩,Rps.nil_.mpr rfl⟩
     · rw[i7 (by
        simp only[List.mem_cons,List.not_mem_nil,or_false,not_or]
        exact⟨fun q=>(by rw[q,a3]at aown';cases aown'),fun q=>(by rw[q,e3]at aown';cases aown'),n3 aown'⟩)]
       exact s4 _ _ aown'
     · rw[i7 bO',i7 (out b0' bH')]
       exact s4 _ _ bH'
   · obtain⟨p,rfl,_,hf⟩:=Rp.scr_.mp hp
     refine Rp.scr_.mpr ⟨p,rfl,rfl,?_⟩
     rcases hf with⟨q,hf⟩|hf
     · refine .inl ⟨q,?_⟩
       have p1:=s1 _ _ hf
       have p3:=s3 _ _ (s2 _ _ p1)
       rw[i7 (by
        simp only[List.mem_cons,List.not_mem_nil,or_false,not_or]
        exact⟨fun q=>(by rw[q,a0]at p1;cases p1),fun q=>(by rw[q,ee0]at p1;cases p1),n3 p3⟩)]
       exact s4 _ _ p3
     · exact .inr hf
 have fr:FRg [.sh false (.scr ns),.no,.no,.no,.no,.no,.no,.no]=some (.nw,.int (3+(k1:Int))):=by simp[cOf,c1,m22,e1]
 refine⟨[.sh false (.scr ns),.no,.no,.no,.no,.no,.no,.no],.nw,.int (3+(k1:Int)),rep8 W0.b0 ⟨_,rfl,Rp.mono _ j5 W0.r6⟩ trivial trivial trivial trivial trivial trivial trivial,fr,fun v5 H5 s5 r5=>⟨3+(k1:Int),by rw[Rp.int_.mp r5.sh],by omega,by omega,?_⟩⟩
 refine GE (lo:=0) (n:=(3+(k1:Int)).toNat) (fun i σ H=>∃ S' bs' vb' ws' ss' vc' x5 x6 x7,σ=[some vp,some (.int n),some (.ref a),some v3,some (.ref s),x5,x6,x7]∧S'.length≤i∧(∀ b∈S',Good n b)∧Good n bs'∧Wst X.K X.H₀ C n ns [] S' bs' S' bs' H vp v3 a dx e s vb' ws' ss' vc')
   ⟨[],[],_,_,_,_,_,_,_,rfl,Nat.le_refl _,fun b hb=>(nomatch hb),⟨by decide,fun r hr=>(nomatch hr),fun r hr=>(nomatch hr)⟩,W0.grow s5⟩ (fun i σ H hi hP=>?_) fun σ H hP=>?_
 · obtain⟨S',bs',vb',ws',ss',vc',x5,x6,x7,rfl,y1,y2,y3,y4⟩:=hP
   show Io X C _ [some vp,some (.int n),some (.ref a),some v3,some (.ref s),some (.int (0+(i:Int))),x6,x7] H
   rw[show(0+(i:Int))=i by omega]
   exact Ll (by omega) (by omega) (by omega) y1 y2 y3 y4 fun S2 b2 H' vb2 ws2 ss2 vc2 x6 x7 z1 z2 z3 z4=>⟨S2,b2,vb2,ws2,ss2,vc2,_,_,_,rfl,z1,z2,z3,z4⟩
 · obtain⟨S',bs',vb',ws',ss',vc',x5,x6,x7,rfl,y1,y2,y3,y4⟩:=hP
   refine⟨[.no,.sh false (.int n),.no,.sh false (.obj C (.int n) (.lst []) []),.no,.no,.no,.no],.nw,.bl true,rep8 y4.b0 trivial ⟨_,rfl,Rp.int_.mpr rfl⟩ trivial ⟨_,rfl,Rp.mono _ j5 y4.r5⟩ trivial trivial trivial trivial,Lj (by omega) (by omega),fun v H' s' r=>?_⟩
   rw[Rp.bl_.mp r.sh]
   exact fin H' (by rw[←h0];exact y4.b0.trans s')
theorem Iv(ns:List Int)(h:ns.length≤63):G5 [.scr ns]=some (.bl true):=by
 unfold G5
 exact if_pos h
theorem GV(ns:List Int)(h:ns.length≤63):G5 [.scr ns]=some (.bl true):=Iv ns h
end
def top(i:Nat):Stmt:=PySem.Challenge.pw_changehall_k39_whole_books.main.body.getD i (.Pass ⟨0,0,0,0⟩)
abbrev Q1:Stmt:=top 5
theorem CI:FnScope ["value"] ["value"] (f8 Q1):=scm
abbrev S9:Stmt:=top 6
theorem GW:FnScope ["value", "length"] ["value", "length"] (f8 S9):=scm
abbrev L4:Stmt:=top 10
theorem Ca:FnScope ["value"] ["value"] (f8 L4):=scm
abbrev N3:Stmt:=top 11
theorem DI:FnScope ["value", "kinds"] ["value", "kinds"] (f8 N3):=scm
abbrev G7:Stmt:=top 12
theorem AG:FnScope ["kinds"] ["kinds"] (f8 G7):=scm
abbrev L5:Stmt:=top 13
theorem T0:FnScope ["bill", "kinds"] ["bill", "kinds"] (f8 L5):=scm
abbrev N4:Stmt:=top 15
theorem DJ:FnScope ["kinds", "rows"] ["kinds", "rows"] (f8 N4):=scm
abbrev U5:Stmt:=top 14
theorem Al:FnScope ["kinds", "bills", "bill"] ["kinds", "bills"] (f8 U5):=scm
abbrev L6:Stmt:=top 19
theorem Cb:FnScope ["_law_script", "_law_k"] ["_law_script", "_law_k"] (f8 L6):=scm
abbrev Q2:Stmt:=top 20
theorem D4:FnScope ["_law_cell", "_law_mode", "_law_number_here", "_law_wide"] ["_law_cell", "_law_mode"] (f8 Q2):=scm
abbrev X6:Stmt:=top 21
theorem Iw:FnScope ["_law_script", "_law_at", "_law_size", "_law_mode"] ["_law_script", "_law_at", "_law_size", "_law_mode"] (f8 X6):=scm
abbrev G8:Stmt:=top 22
theorem CJ:FnScope ["_law_rows"] ["_law_rows"] (f8 G8):=scm
abbrev Am:Stmt:=top 25
theorem N5:FnScope ["_law_script", "_law_k", "_law_kinds", "_law_cell", "_law_row_here", "_law_way"] ["_law_script", "_law_k", "_law_kinds"] (f8 Am):=scm
abbrev An:Stmt:=top 23
theorem GX:FnScope ["_law_book", "_law_deed_here"] ["_law_book", "_law_deed_here"] (f8 An):=scm
abbrev Cc:Stmt:=top 24
theorem CK:FnScope ["_law_states", "_law_deed_here", "_law_bills"] ["_law_states", "_law_deed_here"] (f8 Cc):=scm
abbrev Ix:Stmt:=top 26
theorem L7:FnScope ["_law_script", "_law_kinds", "_law_book", "_law_other", "_law_states", "_law_k", "_law_deed_here", "_law_due_here"] ["_law_script"] (f8 Ix):=scm
def sub(s:Stmt)(j:Nat):Stmt:=match s with
 | .ClassDef _ _ _ body _ _ _ _ _ _ _=>body.getD j (.Pass ⟨0,0,0,0⟩)
 | _ => .Pass ⟨0,0,0,0⟩
abbrev Cd:Stmt:=sub (top 17) 0
abbrev Q3:Stmt:=sub (top 17) 1
abbrev Q4:Stmt:=sub (top 17) 2
abbrev Ce:Stmt:=sub (top 17) 3
abbrev G9:Stmt:=sub (top 17) 4
abbrev Cf:Stmt:=sub (top 17) 5
theorem Lm:FnScope ["self", "kinds"] ["self", "kinds"] (f8 Cd):=scm
theorem DK:FnScope ["self", "bills"] ["self", "bills"] (f8 Q3):=scm
theorem Ao:FnScope ["self", "bill"] ["self", "bill"] (f8 Q4):=scm
theorem Gp:FnScope ["self", "place"] ["self", "place"] (f8 Ce):=scm
theorem T1:FnScope ["self"] ["self"] (f8 G9):=scm
theorem Ln:FnScope ["self"] ["self"] (f8 Cf):=scm
set_option genInjectivity false in
structure Adr where
 Av:Addr
 Aw:FuncData
 CO:Addr
 CP:FuncData
 W2:Addr
 W3:FuncData
 Bi:Addr
 Bj:FuncData
 T3:Addr
 T4:FuncData
 L8:Addr
 L9:FuncData
 Bl:Addr
 Bm:FuncData
 Bn:Addr
 Bo:FuncData
 W4:Addr
 W5:FuncData
 Ax:Addr
 Ay:FuncData
 Gs:Addr
 Gu:FuncData
 Az:Addr
 AA:FuncData
 CQ:Addr
 CS:FuncData
 CT:Addr
 CU:FuncData
 Gv:Addr
 Gw:FuncData
 a_law:Addr
 Gx:FuncData
 C0:Tok
 C1:Tok
 x_Book:Addr
 x_NoHall:Addr
 x_NoPlace:Addr
 U6:Addr
 Ci:FuncData
 F1:Addr
 N6:FuncData
 C4:Addr
 F6:FuncData
 U7:Addr
 AB:FuncData
 w8:Addr
 B1:FuncData
 AC:Addr
 Cj:FuncData
structure Facts(K:PySem.W.Frag)(mg:Str→Option Value)(A:Adr):Prop where
 n_abs:mg "abs" = none
 n_all:mg "all" = none
 Ko:mg "bool" = none
 n_int:mg "int" = none
 z7:mg "isinstance" = none
 F7:mg "len" = none
 Ck:mg "list" = none
 Gy:mg "range" = none
 X7:mg "tuple" = none
 I0:mg "MOST_BILLS" = some (.int 8 A.C0)
 Cl:mg "MOST_KINDS" = some (.int 6 A.C1)
 C9:Df K mg "is_whole" Q1 ["value"] A.Av A.Aw
 CV:Df K mg "is_row" S9 ["value", "length"] A.CO A.CP
 W6:Df K mg "are_kinds" L4 ["value"] A.W2 A.W3
 U8:Df K mg "is_bill" N3 ["value", "kinds"] A.Bi A.Bj
 J0:Df K mg "need_kinds" G7 ["kinds"] A.T3 A.T4
 B2:Df K mg "need_bill" L5 ["bill", "kinds"] A.L8 A.L9
 U9:Df K mg "hall_by" N4 ["kinds", "rows"] A.Bl A.Bm
 V0:Df K mg "hall_of" U5 ["kinds", "bills"] A.Bn A.Bo
 B3:Df K mg "_law_cell_at" L6 ["_law_script", "_law_k"] A.W4 A.W5
 AD:Df K mg "_law_number" Q2 ["_law_cell", "_law_mode"] A.Ax A.Ay
 Gz:Df K mg "_law_row" X6 ["_law_script", "_law_at", "_law_size", "_law_mode"] A.Gs A.Gu
 AE:Df K mg "_law_copied" G8 ["_law_rows"] A.Az A.AA
 CW:Df K mg "_law_deed" Am ["_law_script", "_law_k", "_law_kinds"] A.CQ A.CS
 T5:Df K mg "_law_done" An ["_law_book", "_law_deed_here"] A.CT A.CU
 X8:Df K mg "_law_due" Cc ["_law_states", "_law_deed_here"] A.Gv A.Gw
 f_law:Df K mg "law" Ix ["_law_script"] A.a_law A.Gx
 x_NoHall:Xc K mg 1 A.x_NoHall
 x_NoPlace:Xc K mg 3 A.x_NoPlace
 mis:Mis K mg h_NoPlace "NoHall" A.x_NoHall
 h_NoHall:Hit K mg h_NoHall "NoHall" A.x_NoHall
 h_NoPlace:Hit K mg h_NoPlace "NoPlace" A.x_NoPlace
 Kp:mg "Book" = some (.ref A.x_Book)
 bk:Bk K A.x_Book
 mkc:Mk K A.x_Book A.U6
 m_init:Dm K A.x_Book "__init__" "Book.__init__" Cd ["self", "kinds"] A.U6 A.Ci
 m_turn_to:Dm K A.x_Book "turn_to" "Book.turn_to" Q3 ["self", "bills"] A.F1 A.N6
 m_hand_in:Dm K A.x_Book "hand_in" "Book.hand_in" Q4 ["self", "bill"] A.C4 A.F6
 m_drop:Dm K A.x_Book "drop" "Book.drop" Ce ["self", "place"] A.U7 A.AB
 m_take_back:Dm K A.x_Book "take_back" "Book.take_back" G9 ["self"] A.w8 A.B1
 m_hall:Dm K A.x_Book "hall" "Book.hall" Cf ["self"] A.AC A.Cj
section
variable {K:PySem.W.Frag}{mg:Str→Option Value}{P:Program}{w:World}{base:Heap}{A:Adr}
theorem D5(T:Facts K mg A):FnOk P w K mg base CX0 1 A.Av A.Aw ["value"] (spc K true o3) :=
 T.C9.d 0 P6 CI (fun _ _ _ _ _ _ hr hu =>
  (m7 (v9 (HK (Cw (T := "int") rfl rfl T.z7 rfl T.n_int (by decide +kernel) (g9 0)) (HJ (p_not (Cw (T := "bool") rfl rfl T.z7 rfl T.Ko (by decide +kernel) (g9 0))))))))
theorem GY(T:Facts K mg A):FnOk P w K mg base CX0 2 A.CO A.CP ["value", "length"] (spc K true z6) :=
 T.CV.d 1 K7 GW (fun _ _ _ _ _ _ hr hu =>
  (o0 (s_if (PFW.pt (w_or (R3 (V3 (Cw (T := "list") rfl rfl T.z7 rfl T.Ck (by decide +kernel) (g9 0)) (fun _=>rfl))) (Z3 (t_cm (o_ne hu) (p_bu E4 T.F7 (q_n 0 j3)) (g9 1))))) (m7 (v9 p_bl)) u9)
   (m7 (v9 (p_bu (c_all rfl) T.n_all (i9 (p_co ["number"] 1 [] ["value", "length"] (f8 S9).names (Cy (g9 0)) (fun _ _ _ _ _=>(p_ca (D5 T) T.C9 hr (q_n 0 j3)))) j3))))))
theorem Cg(T:Facts K mg A):FnOk P w K mg base CX0 2 A.W2 A.W3 ["value"] (spc K true D1) :=
 T.W6.d 1 K8 Ca (fun _ _ _ _ _ _ hr hu =>
  (m7 (v9 (HK (p_ca (D5 T) T.C9 hr (q_n 0 j3)) (HJ (KG o_le o_le i8 (g9 0) (BG rfl T.Cl)))))))
theorem Ap(T:Facts K mg A):FnOk P w K mg base CX0 3 A.Bi A.Bj ["value", "kinds"] (spc K true o6) :=
 T.U8.d 2 N0 DI (fun _ _ _ _ _ _ hr hu =>
  (m7 (v9 (HK (p_ca (GY T) T.CV hr (q_n 0 (q_n 1 j3))) (HJ (p_bu (c_all rfl) T.n_all (i9 (p_co ["number"] 1 [] ["value", "kinds"] (f8 N3).names (Cy (g9 0)) (fun _ _ _ _ _=>(p_cm o_lt (p_bu c_abs T.n_abs (q_n 0 j3)) (p_op HI i8 i8)))) j3)))))))
theorem O7(T:Facts K mg A):FnOk P w K mg base CX0 3 A.T3 A.T4 ["kinds"] (spc K true u6) :=
 T.J0.d 2 G4 AG (fun _ _ _ _ _ _ hr hu =>
  (m7 (s_if (R3 (V3 (p_ca (Cg T) T.W6 hr (q_n 0 j3)) (fun _=>rfl))) (m7 BQ) u9)))
theorem AH(T:Facts K mg A):FnOk P w K mg base (CX1 P w) 4 A.L8 A.L9 ["bill", "kinds"] (spx K mg true K9) :=
 Fun.datX (k:=3) (F:=D2) T.B2.fn T0 rfl rfl (fun cdv A outer s H E hr=>have hu:=hr.units
  (m7 (s_if (R3 (V3 (p_ca (Ap T) T.U8 hr (q_n 0 (q_n 1 j3))) (fun _=>rfl))) (m7 (X3 1 rfl T.x_NoHall rfl)) u9)))
theorem T2(T:Facts K mg A):FnOk P w K mg base CX0 4 A.L8 A.L9 ["bill", "kinds"] (spc K true o4) :=
 T.B2.d 3 L0 T0 (fun _ _ _ _ _ _ hr hu =>
  (m7 (s_if (R3 (V3 (p_ca (Ap T) T.U8 hr (q_n 0 (q_n 1 j3))) (fun _=>rfl))) (m7 BQ) u9)))
theorem Aq(T:Facts K mg A):FnOk P w K mg base CX0 1 A.Bl A.Bm ["kinds", "rows"] (spc K true A1) :=
 T.U9.d 0 N1 DJ (fun _ _ _ _ _ _ hr hu =>
  (m7 (v9 (@FQ _ _ _ _ _ (@i9 _ _ _ _ _ (g9 0) (@i9 _ _ _ _ _ (p_ty FY T.X7 (i9 (p_co ["row"] 1 [] ["kinds", "rows"] (f8 N4).names (Cy (g9 1)) (fun _ _ _ _ _=>(p_ty FY T.X7 (q_n 0 j3)))) j3)) j3 rfl) rfl)))))
theorem Ar(T:Facts K mg A):FnOk P w K mg base CX0 5 A.Bn A.Bo ["kinds", "bills"] (spc K true u7) :=
 T.V0.d 4 U3 Al (fun _ _ _ _ _ _ hr hu =>
  (o0 (HV (p_ca (O7 T) T.J0 hr (q_n 0 j3)))
   (o0 (s_if (PFW.pt (w_or (R3 (V3 (Cw (T := "list") rfl rfl T.z7 rfl T.Ck (by decide +kernel) (g9 1)) (fun _=>rfl))) (Z3 (t_cm o_gt (p_bu E4 T.F7 (q_n 1 j3)) (BG rfl T.I0))))) (m7 BQ) u9)
   (o0 (s_for (rels:=[]) (g:=(Tg.one 2)) PassesOwn.never rfl (Cy (g9 1)) (g_one Al.nd rfl (Or.inl rfl) (Or.inl rfl)) (m7 (HV (p_ca (T2 T) T.B2 hr (q_n 2 (q_n 0 j3))))))
   (m7 (v9 (p_ca (Aq T) T.U9 hr (q_n 0 (q_n 1 j3)))))))))
theorem B9(T:Facts K mg A):FnOk P w K mg base CX0 1 A.W4 A.W5 ["_law_script", "_law_k"] (spc K true o5) :=
 T.B3.d 0 L1 Cb (fun _ _ _ _ _ _ hr hu =>
  (o0 (s_if (t_cm o_lt (g9 1) (p_bu E4 T.F7 (q_n 0 j3))) (m7 (v9 (p_i (g9 0) (g9 1)))) u9)
   (o0 (s_if (t_cm (o_eq hu) (g9 0) (K2 j3)) (m7 (v9 i8)) u9)
   (m7 (v9 (p_op J4 (p_op HH (p_i (g9 0) (p_op R1 (g9 1) (p_bu E4 T.F7 (q_n 0 j3)))) i8) (g9 1)))))))
theorem CL(T:Facts K mg A):FnOk P w K mg base CX0 1 A.Ax A.Ay ["_law_cell", "_law_mode"] (spc K true A3) :=
 T.AD.d 0 C8 D4 (fun _ _ _ _ _ _ hr hu =>
  (o0 (s_if (t_cm (o_eq hu) (g9 1) i8) (o0 (asn 2 (p_op R1 (g9 0) (p_op HI i8 i8)) D4.nd)
   (o0 (s_if (t_cm (o_eq hu) (p_op R1 (p_op BK (g9 0) (p_op HI i8 i8)) i8) i8) (m7 (v9 (FJ (g9 2)))) u9)
   (m7 (v9 (g9 2))))) u9)
   (o0 (asn 3 (p_i (K2 (i9 i8 (i9 i8 j3))) (g9 1)) D4.nd)
   (o0 (asn 2 (p_op R1 (g9 0) (g9 3)) D4.nd)
   (o0 (s_if (t_cm o_gt (g9 2) (p_op BK (g9 3) i8)) (m7 (v9 (p_op o_sub (g9 2) (g9 3)))) u9)
   (m7 (v9 (g9 2))))))))
theorem Iy(T:Facts K mg A):FnOk P w K mg base CX0 2 A.Gs A.Gu ["_law_script", "_law_at", "_law_size", "_law_mode"] (spc K true S5) :=
 T.Gz.d 1 BU Iw (fun _ _ _ _ _ _ hr hu =>
  (m7 (v9 (p_co ["_law_k", "_law_script", "_law_at", "_law_mode"] 1 [0,1,3] ["_law_script", "_law_at", "_law_size", "_law_mode"] (f8 X6).names (HN rfl T.Gy (g9 2)) (fun _ _ _ _ _=>(p_ca (CL T) T.AD hr (i9 (p_ca (B9 T) T.B3 hr (q_n 1 (i9 (p_op J4 (g9 2) (g9 0)) j3))) (q_n 3 j3))))))))
theorem CM(T:Facts K mg A):FnOk P w K mg base CX0 1 A.Az A.AA ["_law_rows"] (spc K true t9) :=
 T.AE.d 0 P7 CJ (fun _ _ _ _ _ _ hr hu =>
  (m7 (v9 (p_co ["_law_row_here"] 1 [] ["_law_rows"] (f8 G8).names (Cy (g9 0)) (fun _ _ _ _ _=>(p_ty c_lst T.Ck (q_n 0 j3)))))))
theorem GZ(T:Facts K mg A):FnOk P w K mg base CX0 3 A.CQ A.CS ["_law_script", "_law_k", "_law_kinds"] (spc K true A9) :=
 T.CW.d 2 CC N5 (fun _ _ _ _ _ _ hr hu =>
  (o0 (asn 3 (p_ca (B9 T) T.B3 hr (q_n 0 (i9 (p_op J4 i8 (p_op HH i8 (g9 1))) j3))) N5.nd)
   (o0 (asn 4 (p_ca (Iy T) T.Gz hr (q_n 0 (i9 (p_op J4 i8 (p_op HH i8 (g9 1))) (q_n 2 (i9 i8 j3))))) N5.nd)
   (@o0 _ _ _ _ _ (asn 5 (@p_i _ _ _ _ _ _ (@K2 _ _ _ _ (@i9 _ _ _ _ _ i8 (@i9 _ _ _ _ _ i8 (@i9 _ _ _ _ _ i8 (@i9 _ _ _ _ _ i8 (@i9 _ _ _ _ _ i8 (@i9 _ _ _ _ _ i8 (@i9 _ _ _ _ _ i8 (@i9 _ _ _ _ _ i8 (@i9 _ _ _ _ _ i8 j3 rfl) rfl) rfl) rfl) rfl) rfl) rfl) rfl) rfl)) (p_op R1 (g9 3) i8) (fun _ _=>rfl)) N5.nd)
   (@o0 _ _ _ _ _ (@s_if _ _ _ _ _ _ _ _ (t_cm (o_eq hu) (g9 5) i8) (@m7 _ _ _ (@v9 _ _ _ _ (@FQ _ _ _ _ _ (@i9 _ _ _ _ _ i8 (@i9 _ _ _ _ _ (@p_i _ _ _ _ _ _ (@K2 _ _ _ _ (@i9 _ _ _ _ _ i8 (@i9 _ _ _ _ _ i8 (@i9 _ _ _ _ _ i8 (@i9 _ _ _ _ _ i8 (@i9 _ _ _ _ _ i8 (@i9 _ _ _ _ _ i8 (@i9 _ _ _ _ _ i8 (@i9 _ _ _ _ _ i8 (@i9 _ _ _ _ _ i8 (@i9 _ _ _ _ _ (FJ i8) (@i9 _ _ _ _ _ p_bl j3 rfl) rfl) rfl) rfl) rfl) rfl) rfl) rfl) rfl) rfl) rfl)) (p_op R1 (p_op BK (g9 3) i8) i8) (fun _ _=>rfl)) j3 rfl) rfl)))) u9)
   (@o0 _ _ _ _ _ (@s_if _ _ _ _ _ _ _ _ (t_cm (o_eq hu) (g9 5) i8) (@m7 _ _ _ (@v9 _ _ _ _ (@FQ _ _ _ _ _ (@i9 _ _ _ _ _ i8 (@i9 _ _ _ _ _ (@p_i _ _ _ _ _ _ (@K2 _ _ _ _ (@i9 _ _ _ _ _ p_non (@i9 _ _ _ _ _ p_str (@i9 _ _ _ _ _ (p_ty FY T.X7 (q_n 4 j3)) (@i9 _ _ _ _ _ (p_op J4 (g9 4) (K2 (i9 i8 j3))) (@i9 _ _ _ _ _ (X2 (g9 4) (BN i8) BM) (@i9 _ _ _ _ _ (p_op J4 (K2 (i9 p_non j3)) (X2 (g9 4) (BN i8) BM)) j3 rfl) rfl) rfl) rfl) rfl) rfl)) (p_op R1 (p_op BK (g9 3) i8) i8) (fun _ _=>rfl)) j3 rfl) rfl)))) u9)
   (m7 (v9 (FQ (q_n 5 (q_n 4 j3)))))))))))
theorem Au(T:Facts K mg A):FnOk P w K mg base CX0 1 A.F1 A.N6 ["self", "bills"] (Ae K) :=
 KT (k:=0) T.m_turn_to.fn DK rfl (fun cdv A outer s H E =>
  j4 (u8 (Hr F.plainAttrs_list F.slot_list_append F.type_list_append M3 (Bu (m3 (i:=0) rfl (Or.inl rfl)) rfl) (u3 (Bu (m3 (i:=0) rfl (Or.inl rfl)) rfl) B4)))
   (j8 (Y3 (m3 (i:=0) rfl (Or.inl rfl)) (m3 (i:=1) rfl (Or.inl rfl)) rfl)))
theorem Ch(T:Facts K mg A):FnOk P w K mg base CX0 1 A.w8 A.B1 ["self"] (K6 K) :=
 KW (k:=0) (Fc:=m4 (fOp opEq (fBlt bLen (f9 (fFld 2 (fN 0)) fNil)) (fC (.int 0)))) T.m_take_back.fn T1 rfl rfl (fun C kd b es h=>by
  cases es with
  | nil=>exact absurd rfl h
  | cons d es=>simp[fFld,fldD,nrm,p7];first|omega|done) (fun cdv A outer s H E hr=>have hu:=hr.units
  ⟨_,j4 (A4 (t_cm (o_eq hu) (p_bu E4 T.F7 (i9 (E9 2 (g9 0)) j3)) i8) E7 o9)
   (j8 (Y3 (m3 (i:=0) rfl (Or.inl rfl)) (Dk F.plainAttrs_list F.slot_list_pop F.type_list_pop Hs (Bu (m3 (i:=0) rfl (Or.inl rfl)) rfl)) rfl))⟩)
theorem Gq(T:Facts K mg A):FnOk P w K mg base CX0 4 A.U6 A.Ci ["self", "kinds"] (BS K okI) :=
 KZ (k:=3) (F:=j7 true u6 (f9 (fN 1) fNil)) T.m_init.fn Lm rfl rfl (fun d h=>⟨_,by unfold okI at h;simp[j7,h,nrm];rfl⟩) (fun cdv A outer s H E hr =>
  j4 (u8 (p_ca (O7 T) T.J0 hr (q_n 1 j3))) (j4 (Y3 (m3 (i:=0) rfl (Or.inl rfl)) (m3 (i:=1) rfl (Or.inl rfl)) rfl) (j4 (Y3 (m3 (i:=0) rfl (Or.inl rfl)) (Bv B4) rfl) (j8 (Y3 (m3 (i:=0) rfl (Or.inl rfl)) (Bv B4) rfl)))))
theorem nbf_ok{C:Addr}{kd b:Dt}{es:List Dt}{d nb:Dt}(h:okH (nbf C) kd b es d nb):(∃ z,j7 true o4 (f9 (fN 1) (f9 (fFld 0 (fN 0)) fNil)) [.sh false (.obj C kd b es),.sh false d]=some z)∧m4 (fOp opGe (fBlt bLen (f9 (fFld 1 (fN 0)) fNil)) (fC (.int 8))) [.sh false (.obj C kd b es),.sh false d]=some false∧f9 (fOp o2 (fFld 1 (fN 0)) (fLst (f9 (fBlt bTup (f9 (fN 1) fNil)) fNil))) fNil [.sh false (.obj C kd b es),.sh false d]=some [(.nw,nb)]:=by
 obtain⟨ts,e,rfl⟩:=h
 unfold nbf at e
 obtain⟨z,e1,e⟩:=g5 e
 obtain⟨t,e2,e⟩:=g5 e
 cases t with
 | true=>cases e
 | false =>
  obtain⟨r,e3,e⟩:=g5 e
  refine⟨⟨z,e1⟩,e2,e3.trans ?_⟩
  split at e
  · cases e;rfl
  · cases e
theorem DL(T:Facts K mg A):FnOk P w K mg base CX0 5 A.C4 A.F6 ["self", "bill"] (z5 K A.x_Book (okH (nbf A.x_Book))) :=
 Lb (k:=4) (F:=j7 true o4 (f9 (fN 1) (f9 (fFld 0 (fN 0)) fNil))) T.m_hand_in.fn Ao rfl rfl (fun kd b es d nb h=>nbf_ok h) (fun cdv A outer s H E hr =>
  ⟨_,j4 (u8 (p_ca (T2 T) T.B2 hr (q_n 1 (i9 (E9 0 (g9 0)) j3)))) (j4 (A4 (t_cm o_ge (p_bu E4 T.F7 (i9 (E9 1 (g9 0)) j3)) (BG rfl T.I0)) E7 o9)
   (j8 (u8 (M1 (E:=E0) (dvs:=[]) (m3 (i:=0) rfl (Or.inl rfl)) T.bk.cls T.m_turn_to.mt (Au T) (hr.mono (by decide)) T.m_turn_to.bd .nil O0 (i9 (p_op J4 (E9 1 (g9 0)) (K2 (i9 (p_ty FY T.X7 (q_n 1 j3)) j3))) j3)))))⟩)
theorem CN(T:Facts K mg A):FnOk P w K mg base (CX1 P w) 5 A.C4 A.F6 ["self", "bill"] (spx K mg true F0) :=
 Fun.datX (k:=4) (F:=N2) T.m_hand_in.fn Ao rfl rfl (fun cdv A outer s H E hr=>o0 (KP (AH T) T.B2 hr rfl (q_n 1 (i9 (E9 0 (g9 0)) j3))) (o0 (s_if (t_cm o_ge (p_bu E4 T.F7 (i9 (E9 1 (g9 0)) j3)) (BG rfl T.I0)) (m7 (X3 1 rfl T.x_NoHall rfl)) u9) E7))
theorem AI(T:Facts K mg A):FnOk P w K mg base (CX1 P w) 1 A.w8 A.B1 ["self"] (spx K mg true D3) :=
 Fun.datX (k:=0) (F:=L3) T.m_take_back.fn T1 rfl rfl (fun cdv A outer s H E hr=>have hu:=hr.units
  o0 (s_if (t_cm (o_eq hu) (p_bu E4 T.F7 (i9 (E9 2 (g9 0)) j3)) i8) (m7 (X3 3 rfl T.x_NoPlace rfl)) u9) E7)
theorem Iz(T:Facts K mg A):FnOk P w K mg base (CX1 P w) 2 A.U7 A.AB ["self", "place"] (spx K mg true BV) :=
 Fun.datX (k:=1) (F:=DE) T.m_drop.fn Gp rfl rfl (fun cdv A outer s H E hr=>have hu:=hr.units
  o0 (s_if (PFW.pt (w_or (R3 (V3 (p_ca (D5 T) T.C9 hr (q_n 1 j3)) (fun _=>rfl))) (Z3 (R3 (FL o_le o_lt i8 (g9 1) (p_bu E4 T.F7 (i9 (E9 1 (g9 0)) j3))))))) (m7 (X3 3 rfl T.x_NoPlace rfl)) u9) E7)
theorem Gr(T:Facts K mg A):FnOk P w K mg base CX0 2 A.AC A.Cj ["self"] (spc K true P8) :=
 Fun.dat (k:=1) T.m_hall.fn Ln rfl rfl (fun cdv A outer s H E hr=>m7 (v9 (p_ca (Aq T) T.U9 hr (i9 (E9 0 (g9 0)) (i9 (E9 1 (g9 0)) j3)))))
theorem nbd_ok{C:Addr}{kd b:Dt}{es:List Dt}{d nb:Dt}(h:okH (nbd C) kd b es d nb):Gk [.sh false (.obj C kd b es),.sh false d]=some false∧Gm [.sh false (.obj C kd b es),.sh false d]=some [(.nw,nb)]:=by
 obtain⟨ts,e,rfl⟩:=h
 unfold nbd at e
 obtain⟨t,e2,e⟩:=g5 e
 cases t with
 | true=>cases e
 | false =>
  obtain⟨r,e3,e⟩:=g5 e
  refine⟨e2,e3.trans ?_⟩
  split at e
  · cases e;rfl
  · cases e
theorem Lo(T:Facts K mg A):FnOk P w K mg base CX0 2 A.U7 A.AB ["self", "place"] (z5 K A.x_Book (okH (nbd A.x_Book))) :=
 Lf (k:=1) (Fc:=Gk) (Fs:=Gm) T.m_drop.fn Gp rfl rfl (fun kd b es d nb h=>nbd_ok h) (fun cdv A outer s H E hr=>have hu:=hr.units
  ⟨_,j4 (A4 (PFW.pt (w_or (R3 (V3 (p_ca (D5 T) T.C9 hr (q_n 1 j3)) (fun _=>rfl))) (Z3 (R3 (FL o_le o_lt i8 (g9 1) (p_bu E4 T.F7 (i9 (E9 1 (g9 0)) j3))))))) E7 o9)
   (j8 (u8 (M1 (E:=E0) (dvs:=[]) (m3 (i:=0) rfl (Or.inl rfl)) T.bk.cls T.m_turn_to.mt (Au T) (hr.mono (by decide)) T.m_turn_to.bd .nil O0 (i9 (p_op J4 (X2 (E9 1 (g9 0)) BM (BN (g9 1))) (X2 (E9 1 (g9 0)) (BN (p_op J4 (g9 1) i8)) BM)) j3))))⟩)
theorem IA(T:Facts K mg A):FnOk P w K mg base CX0 1 A.Gv A.Gw ["_law_states", "_law_deed_here"] (Gj K) :=
 due_ok (k:=0) T.X8.fn CK rfl rfl (fun cdv A outer s H E hr=>have hu:=hr.units
  j4 (J7 CK.nd (i:=2) rfl (Or.inl rfl) (Fz FG (m3 (i:=0) rfl (Or.inl rfl)) (FJ i8) (fun _ _=>rfl)))
  (j4 (A4 (t_cm (o_eq hu) (p_i (g9 1) i8) i8) (j8 (r0 O9)) o9)
  (j4 (A4 (t_cm (o_eq hu) (p_i (g9 1) i8) i8) (j4 (A4 (t_cm (o_eq hu) (p_bu E4 T.F7 (q_n 2 j3)) i8) (j8 (r0 O9)) o9) (j4 (u8 (Hr F.plainAttrs_list F.slot_list_append F.type_list_append M3 (m3 (i:=0) rfl (Or.inl rfl)) (u3 (Hf Dn (m3 (i:=2) rfl (Or.inl rfl)) (Bv (u3 (p_ty c_lst T.Ck (i9 (p_i (g9 1) i8) j3)) B4))) B4))) (j8 (r0 AJ)))) o9)
  (j4 (A4 (t_cm (o_eq hu) (p_i (g9 1) i8) i8) (j4 (A4 (PFW.pt (w_or (V3 (Cw (T := "bool") rfl rfl T.z7 rfl T.Ko (by decide +kernel) (p_i (g9 1) i8)) (fun _=>rfl)) (w_or (t_cm o_lt (p_i (g9 1) i8) i8) (Z3 (t_cm o_ge (p_i (g9 1) i8) (p_bu E4 T.F7 (q_n 2 j3))))))) (j8 (r0 O9)) o9) (j4 (u8 (Hr F.plainAttrs_list F.slot_list_append F.type_list_append M3 (m3 (i:=0) rfl (Or.inl rfl)) (u3 (Hf Dn (Y6 BE (m3 (i:=2) rfl (Or.inl rfl)) Bx (Bz (p_i (g9 1) i8))) (Y6 BE (m3 (i:=2) rfl (Or.inl rfl)) (Bz (p_op J4 (p_i (g9 1) i8) i8)) Bx)) B4))) (j8 (r0 AJ)))) o9)
  (j4 (A4 (t_cm (o_eq hu) (p_bu E4 T.F7 (q_n 0 j3)) i8) (j8 (r0 O9)) o9)
  (j4 (u8 (Dk F.plainAttrs_list F.slot_list_pop F.type_list_pop Hs (m3 (i:=0) rfl (Or.inl rfl)))) (j8 (r0 AJ))))))))
theorem Ha(T:Facts K mg A):FnOk P w K mg base CX0 6 A.CT A.CU ["_law_book", "_law_deed_here"] (spD K A.x_Book) :=
 Lg (k:=5) (hits:=h_NoHall) (mis:=h_NoPlace) (hits2:=h_NoPlace) T.T5.fn GX rfl rfl rfl rfl rfl
  (fun cdv _ outer s H E hr=>have hu:=hr.units
   j8 (Ld (t:=fun H1 m=>Gh _ _ _ _ _ (EXm _ H1 m)) (fun pins H1 m =>
    j4 (A4 (PFW.pt (w_or (t_cm (o_eq hu) (p_i (g9 1) i8) i8) (Z3 (t_cm (o_eq hu) (p_i (g9 1) i8) i8)))) (j8 (r0 (F9 T6 (M1 (dvs:=[]) (m3 (i:=0) rfl (Or.inl rfl)) T.bk.cls T.m_hand_in.mt (CN T) (hr.mono (by decide)) T.m_hand_in.bd .nil Ij (i9 (p_i (g9 1) i8) j3)) O8 rfl))) o9)
    (j4 (A4 (t_cm (o_eq hu) (p_i (g9 1) i8) i8) (j8 (r0 (F9 T6 (M1 (dvs:=[]) (m3 (i:=0) rfl (Or.inl rfl)) T.bk.cls T.m_drop.mt (Iz T) (hr.mono (by decide)) T.m_drop.bd .nil Ij (i9 (p_i (g9 1) i8) j3)) O8 rfl))) o9)
    (j8 (r0 (F9 T6 (Y5 (dvs:=[]) (m3 (i:=0) rfl (Or.inl rfl)) T.bk.cls T.m_take_back.mt (AI T) (hr.mono (by decide)) T.m_take_back.bd .nil Ij) O8 rfl))))) rfl T.h_NoHall rfl T.mis T.h_NoPlace))
  (fun cdv _ outer s H E hr=>have hu:=hr.units
   j8 (Lc (fun E1 =>
    j4 (A4 (PFW.pt (w_or (t_cm (o_eq hu) (p_i (g9 1) i8) i8) (Z3 (t_cm (o_eq hu) (p_i (g9 1) i8) i8)))) (j8 (r0 (F9 T6 (M1 (E:=E0) (dvs:=[]) (m3 (i:=0) rfl (Or.inl rfl)) T.bk.cls T.m_hand_in.mt (DL T) (hr.mono (by decide)) T.m_hand_in.bd .nil O0 (i9 (p_i (g9 1) i8) j3)) O8 rfl))) o9)
    (j4 (A4 (t_cm (o_eq hu) (p_i (g9 1) i8) i8) (j8 (r0 (F9 T6 (M1 (E:=E0) (dvs:=[]) (m3 (i:=0) rfl (Or.inl rfl)) T.bk.cls T.m_drop.mt (Lo T) (hr.mono (by decide)) T.m_drop.bd .nil O0 (i9 (p_i (g9 1) i8) j3)) O8 rfl))) o9)
    (j8 (r0 (F9 T6 (Y5 (E:=E0) (dvs:=[]) (m3 (i:=0) rfl (Or.inl rfl)) T.bk.cls T.m_take_back.mt (Ch T) (hr.mono (by decide)) T.m_take_back.bd .nil O0) O8 rfl)))))))
open PySem.Spec PySem.W PyProof.Rows in
theorem law_ok{C f:Addr}{fd:FuncData}{st:Stmt}{N ps:List Str}{k:Nat}(Fu:Fun K "law" "law" st f fd)(S:FnScope N ps (f8 st))(hp:ps.length=1)(hN:N.length=8)(bk:Bk K C)
   (body:∀(cdv:Value) (A:Around) (outer:List Env) (s:Shared) (H:Hp) (E:XK),Room k (A.deeper (envOfC "law" (f8 st) s.heap.objs.size f cdv))→PSs (cxOf CX0 P w K mg base N "law" (f8 st) f cdv A outer s H E).nox (j9 st) (tLaw (cxOf CX0 P w K mg base N "law" (f8 st) f cdv A outer s H E).nox C)):FnOk P w K mg base CX0 (k+1) f fd ps (spc K true G5):=by
 obtain⟨oc,od,kV,doc,pm,an,cdv,ct,osl,rfl,lk,hcd⟩:=Fu.ex
 have one:∀{vs:List V} {H:Hp} {Q:VK} {E:XK},spc K true G5 vs H Q E→∃ ns vp,vs=[vp]∧Rp K emp (.scr ns) H vp∧∀ H',Same H H'→Q (.bl true) H':=fun{vs H Q E} h=>by
   obtain⟨ds,d,r,e,q⟩:=h
   unfold G5 at e
   split at e
   · rename_i ns
     split at e
     · cases e
       obtain⟨vp,rr,rfl,r1,r2⟩:=Rps.cons_.mp r
       obtain rfl:rr=[]:=Rps.nil_.mp r2
       exact⟨ns,vp,rfl,r1,fun H' s'=>q (.bl true) H' s' (Rp.bl_.mpr rfl)⟩
     · cases e
   · cases e
 refine N8 lk hcd S (fun vs H Q E h=>?_) fun A outer s H vs Q E hr h=>?_
 · obtain⟨ns,vp,rfl,_⟩:=one h
   rw[hp];rfl
 · obtain⟨ns,vp,rfl,r1,q⟩:=one h
   exact⟨_,(body cdv A outer s H E hr).nox,rd_law (X:=(cxOf CX0 P w K mg base N "law" (f8 st) f cdv A outer s H E).nox) hN bk rfl r1 q⟩
theorem ok_law(T:Facts K mg A):FnOk P w K mg base CX0 7 A.a_law A.Gx ["_law_script"] (spc K true G5) :=
 law_ok (k:=6) T.f_law.fn L7 rfl rfl T.bk (fun cdv _ outer s H E hr=>have hu:=hr.units
  j4 (J7 L7.nd (i:=1) rfl (Or.inl rfl) (p_op J4 i8 (p_op R1 (p_ca (B9 T) T.B3 hr (q_n 0 (i9 i8 j3))) i8)))
  (j4 (J7 L7.nd (i:=2) rfl (Or.inl rfl) (Ii T.bk T.mkc (Gq T) hr rfl T.Kp T.m_init.bd (q_n 1 j3)))
  (j4 (J7 L7.nd (i:=3) rfl (Or.inl rfl) (Ii T.bk T.mkc (Gq T) hr rfl T.Kp T.m_init.bd (q_n 1 j3)))
  (j4 (J7 L7.nd (i:=4) rfl (Or.inl rfl) (K2 (i9 (K2 j3) j3)))
  (j4 (He PassesOwn.never rfl (AK rfl T.Gy (u3 (p_op J4 i8 (p_op R1 (p_ca (B9 T) T.B3 hr (q_n 0 (i9 i8 j3))) i8)) B4)) (Fw (i:=5) L7.nd rfl (Or.inl rfl))
   (j4 (J7 L7.nd (i:=6) rfl (Or.inl rfl) (p_ca (GZ T) T.CW hr (q_n 0 (q_n 5 (q_n 1 j3)))))
   (j4 (J7 L7.nd (i:=7) rfl (Or.inl rfl) (Q5 (E:=E0) (dvs:=[]) (IA T) (hr.mono (by decide)) rfl T.X8.mg T.X8.fn.kp T.X8.bd .nil O0 (u3 (m3 (i:=4) rfl (Or.inl rfl)) (u3 (m3 (i:=6) rfl (Or.inl rfl)) B4))))
   (j4 (A4 (Bt (o_ne hu) (Q5 (E:=E0) (dvs:=[]) (Ha T) (hr.mono (by decide)) rfl T.T5.mg T.T5.fn.kp T.T5.bd .nil O0 (u3 (m3 (i:=2) rfl (Or.inl rfl)) (u3 (m3 (i:=6) rfl (Or.inl rfl)) B4))) (m3 (i:=7) rfl (Or.inl rfl)) rfl) (j8 (r0 AJ)) o9)
   (j4 (A4 (Bt (o_eq hu) (Fz Dj (m3 (i:=6) rfl (Or.inl rfl)) Bq (fun _ _=>rfl)) Bq rfl) (j8 (u8 (Dk F.plainAttrs_list F.slot_list_clear F.type_list_clear Hu (Fz Dj (m3 (i:=6) rfl (Or.inl rfl)) Bq (fun _ _=>rfl))))) o9)
   (j8 (A4 (t_cm (o_ne hu) (Gg T.bk.cls (Gr T) T.m_hall hr (g9 2)) (p_ca (Ar T) T.V0 hr (q_n 1 (i9 (p_ca (CM T) T.AE hr (i9 (p_i (g9 4) (FJ i8)) j3)) j3)))) (j8 (r0 AJ)) o9)))))))
  (j8 (r0 (p_cm (o_eq hu) (Gg T.bk.cls (Gr T) T.m_hall hr (g9 3)) (p_ca (Ar T) T.V0 hr (q_n 1 (i9 (K2 j3) j3)))))))))))
end
def Mh(K:PySem.W.Frag)(C:Addr)(m qual:Str)(st:Stmt)(f:Addr):Prop:=∃(oc:Value) (od:Option Addr) (kV doc pm:Value) (an:Option Addr) (cdv ct:Value) (osl:Array (Option Value)),PySem.W.findIn K (.ref C) m=some (some (.ref f))∧PySem.W.isFn K (.ref f)=true∧K.lookup f=some ⟨oc,od,.func (PySem.W.fnOf m qual (u4 st) (j9 st) (f8 st) .none kV doc pm an cdv ct),osl⟩∧PySem.W.codeIn K cdv qual=true∧PySem.W.keepIn K (.ref f)=true
theorem mh{K:PySem.W.Frag}{C:Addr}{m qual:Str}{st:Stmt}{f:Addr}{oc kV doc pm cdv ct:Value}{od an:Option Addr}{osl:Array (Option Value)}(e:PySem.W.findIn K (.ref C) m=some (some (.ref f)))(i:PySem.W.isFn K (.ref f)=true)(l:K.lookup f=some ⟨oc,od,.func (PySem.W.fnOf m qual (u4 st) (j9 st) (f8 st) .none kV doc pm an cdv ct),osl⟩)(c:PySem.W.codeIn K cdv qual=true)(k:PySem.W.keepIn K (.ref f)=true):Mh K C m qual st f:=⟨_,_,_,_,_,_,_,_,_,e,i,l,c,k⟩
theorem Mh.dm{K:PySem.W.Frag}{C:Addr}{m qual:Str}{st:Stmt}{f:Addr}{ps:List Str}(h:Mh K C m qual st f)
  (hb:∀(kV doc pm:Value) (an:Option Addr) (cdv ct:Value) (us:List Value),us.length=ps.length→bindArgs (PySem.W.fnOf m qual (u4 st) (j9 st) (f8 st) .none kV doc pm an cdv ct) ⟨us,[]⟩=pure (ps.zip us)):∃ fd,Dm K C m qual st ps f fd:=by
 obtain⟨_,_,_,_,_,_,_,_,_,e,i,l,c,k⟩:=h
 exact⟨_,⟨e,i,k⟩,⟨⟨_,_,_,_,_,_,_,_,_,rfl,l,c⟩,k⟩,Binds.all (hb _ _ _ _ _ _)⟩
theorem bk_mk{K:PySem.W.Frag}{C:Addr}(a:PySem.W.plainGet K C Str.empty=true)(b:PySem.W.hasDictIn K C=true)(c:PySem.W.plainOver K C=true)(d:PySem.W.findIn K (.ref C) "__setattr__" = some (some (.builtin "object.__setattr__")))(n1:PySem.W.findIn K (.ref C) "kinds" = some none)(n2:PySem.W.findIn K (.ref C) "bills" = some none)(n3:PySem.W.findIn K (.ref C) "earlier" = some none)
  (e:PySem.W.findIn K (.ref C) "__class__" = some (some (.builtin "object.__class__"))) (f:PySem.W.specialIn K (.builtin "object.__class__") "__get__" = some (some (.builtin "getset_descriptor.__get__"))) (g:PySem.W.takesIn K (.builtin "object.__class__")=some true) (h:PySem.W.mroIn K C (.type "object")=some true)
  (i1:PySem.W.kitOne K (.ref C) (.type "int")=some false) (i2:PySem.W.kitOne K (.ref C) (.type "bool")=some false) (i3:PySem.W.kitOne K (.ref C) (.type "str")=some false) (i4:PySem.W.kitOne K (.ref C) (.type "list")=some false) (i5:PySem.W.kitOne K (.ref C) (.type "tuple")=some false) (i6:PySem.W.kitOne K (.ref C) (.type "dict")=some false):Bk K C :=
 ⟨⟨a,b,c,d⟩,n1,n2,n3,e,f,g,h,fun T hT=>by simp only[List.mem_cons,List.not_mem_nil,or_false]at hT;rcases hT with rfl|rfl|rfl|rfl|rfl|rfl<;>assumption⟩
theorem IB{l:PySem.W.OpenLaw}{w:World}{K:PySem.W.Frag}{h:Heap}{mg:Str→Option Value}{fa:Addr}(X:K.In h)(G:h.Ns mainGlobals mg)(hfa:mg "law" = some (.ref fa))
  {a0:Addr} (h0:Dh K "is_whole" Q1 a0)
  {a1:Addr} (h1:Dh K "is_row" S9 a1)
  {a2:Addr} (h2:Dh K "are_kinds" L4 a2)
  {a3:Addr} (h3:Dh K "is_bill" N3 a3)
  {a4:Addr} (h4:Dh K "need_kinds" G7 a4)
  {a5:Addr} (h5:Dh K "need_bill" L5 a5)
  {a6:Addr} (h6:Dh K "hall_by" N4 a6)
  {a7:Addr} (h7:Dh K "hall_of" U5 a7)
  {a8:Addr} (h8:Dh K "_law_cell_at" L6 a8)
  {a9:Addr} (h9:Dh K "_law_number" Q2 a9)
  {a10:Addr} (h10:Dh K "_law_row" X6 a10)
  {a11:Addr} (h11:Dh K "_law_copied" G8 a11)
  {a12:Addr} (h12:Dh K "_law_deed" Am a12)
  {a13:Addr} (h13:Dh K "_law_done" An a13)
  {a14:Addr} (h14:Dh K "_law_due" Cc a14)
  {a15:Addr} (h15:Dh K "law" Ix a15)
  (z_abs:PySem.W.nsIn K mainGlobals "abs" = some none)
  (z_all:PySem.W.nsIn K mainGlobals "all" = some none)
  (z_bool:PySem.W.nsIn K mainGlobals "bool" = some none)
  (z_int:PySem.W.nsIn K mainGlobals "int" = some none)
  (z_isinstance:PySem.W.nsIn K mainGlobals "isinstance" = some none)
  (z_len:PySem.W.nsIn K mainGlobals "len" = some none)
  (z_list:PySem.W.nsIn K mainGlobals "list" = some none)
  (z_range:PySem.W.nsIn K mainGlobals "range" = some none)
  (z_tuple:PySem.W.nsIn K mainGlobals "tuple" = some none)
  {C0:Tok} (y_MOST_BILLS:PySem.W.nsIn K mainGlobals "MOST_BILLS" = some (some (.int 8 C0)))
  {C1:Tok} (y_MOST_KINDS:PySem.W.nsIn K mainGlobals "MOST_KINDS" = some (some (.int 6 C1)))
  {x_Book:Addr} (w_Book:PySem.W.nsIn K mainGlobals "Book" = some (some (.ref x_Book)))
  {x_NoHall:Addr} (w_NoHall:PySem.W.nsIn K mainGlobals "NoHall" = some (some (.ref x_NoHall)))
  {x_NoPlace:Addr} (w_NoPlace:PySem.W.nsIn K mainGlobals "NoPlace" = some (some (.ref x_NoPlace)))
  (u_NoHall:PySem.W.excIn K x_NoHall bmVE "ValueError.__new__" = true) (v_NoHall:PySem.W.kitCls K (.ref x_NoHall) (.type "ValueError")=some true)
  (u_NoPlace:PySem.W.excIn K x_NoPlace bmVE "ValueError.__new__" = true) (v_NoPlace:PySem.W.kitCls K (.ref x_NoPlace) (.type "ValueError")=some true)
  (o_NoHall_NoHall:PySem.W.exmOne K (.ref x_NoHall) (.ref x_NoHall)=some true)
  (o_NoPlace_NoPlace:PySem.W.exmOne K (.ref x_NoPlace) (.ref x_NoPlace)=some true)
  (o_mis:PySem.W.exmOne K (.ref x_NoPlace) (.ref x_NoHall)=some false)
  (hbk:Bk K x_Book)
  {U6:Addr} (i_init:Mh K x_Book "__init__" "Book.__init__" Cd U6)
  {F1:Addr} (i_turn_to:Mh K x_Book "turn_to" "Book.turn_to" Q3 F1)
  {C4:Addr} (i_hand_in:Mh K x_Book "hand_in" "Book.hand_in" Q4 C4)
  {U7:Addr} (i_drop:Mh K x_Book "drop" "Book.drop" Ce U7)
  {w8:Addr} (i_take_back:Mh K x_Book "take_back" "Book.take_back" G9 w8)
  {AC:Addr} (i_hall:Mh K x_Book "hall" "Book.hall" Cf AC)
  (j_makes:PySem.W.makesIn K x_Book=true) (j_kp:PySem.W.keepIn K (.ref x_Book)=true)
  : ∃ fd:FuncData,(∀(s:Shared) (u:Value),BindsTo s fd ⟨[u],[]⟩ [("_law_script",u)])∧∀ base:Heap,K.In base→base.Ns mainGlobals mg→FnOk l.prog w K mg base CX0 7 fa fd ["_law_script"] (spc K true G5):=by
 obtain⟨d0,q0,b0⟩:=h0.df (ps:=["value"]) X G (fun _ _ _ _ _ _=>us1 (fun _=>rfl))
 obtain⟨d1,q1,b1⟩:=h1.df (ps:=["value", "length"]) X G (fun _ _ _ _ _ _=>us2 (fun _ _=>rfl))
 obtain⟨d2,q2,b2⟩:=h2.df (ps:=["value"]) X G (fun _ _ _ _ _ _=>us1 (fun _=>rfl))
 obtain⟨d3,q3,b3⟩:=h3.df (ps:=["value", "kinds"]) X G (fun _ _ _ _ _ _=>us2 (fun _ _=>rfl))
 obtain⟨d4,q4,b4⟩:=h4.df (ps:=["kinds"]) X G (fun _ _ _ _ _ _=>us1 (fun _=>rfl))
 obtain⟨d5,q5,b5⟩:=h5.df (ps:=["bill", "kinds"]) X G (fun _ _ _ _ _ _=>us2 (fun _ _=>rfl))
 obtain⟨d6,q6,b6⟩:=h6.df (ps:=["kinds", "rows"]) X G (fun _ _ _ _ _ _=>us2 (fun _ _=>rfl))
 obtain⟨d7,q7,b7⟩:=h7.df (ps:=["kinds", "bills"]) X G (fun _ _ _ _ _ _=>us2 (fun _ _=>rfl))
 obtain⟨d8,q8,b8⟩:=h8.df (ps:=["_law_script", "_law_k"]) X G (fun _ _ _ _ _ _=>us2 (fun _ _=>rfl))
 obtain⟨d9,q9,b9⟩:=h9.df (ps:=["_law_cell", "_law_mode"]) X G (fun _ _ _ _ _ _=>us2 (fun _ _=>rfl))
 obtain⟨d10,q10,b10⟩:=h10.df (ps:=["_law_script", "_law_at", "_law_size", "_law_mode"]) X G (fun _ _ _ _ _ _=>us4 (fun _ _ _ _=>rfl))
 obtain⟨d11,q11,b11⟩:=h11.df (ps:=["_law_rows"]) X G (fun _ _ _ _ _ _=>us1 (fun _=>rfl))
 obtain⟨d12,q12,b12⟩:=h12.df (ps:=["_law_script", "_law_k", "_law_kinds"]) X G (fun _ _ _ _ _ _=>us3 (fun _ _ _=>rfl))
 obtain⟨d13,q13,b13⟩:=h13.df (ps:=["_law_book", "_law_deed_here"]) X G (fun _ _ _ _ _ _=>us2 (fun _ _=>rfl))
 obtain⟨d14,q14,b14⟩:=h14.df (ps:=["_law_states", "_law_deed_here"]) X G (fun _ _ _ _ _ _=>us2 (fun _ _=>rfl))
 obtain⟨d15,q15,b15⟩:=h15.df (ps:=["_law_script"]) X G (fun _ _ _ _ _ _=>us1 (fun _=>rfl))
 obtain⟨Ci,q_init⟩:=i_init.dm (ps:=["self", "kinds"]) (fun _ _ _ _ _ _=>us2 (fun _ _=>rfl))
 obtain⟨N6,q_turn_to⟩:=i_turn_to.dm (ps:=["self", "bills"]) (fun _ _ _ _ _ _=>us2 (fun _ _=>rfl))
 obtain⟨F6,q_hand_in⟩:=i_hand_in.dm (ps:=["self", "bill"]) (fun _ _ _ _ _ _=>us2 (fun _ _=>rfl))
 obtain⟨AB,q_drop⟩:=i_drop.dm (ps:=["self", "place"]) (fun _ _ _ _ _ _=>us2 (fun _ _=>rfl))
 obtain⟨B1,q_take_back⟩:=i_take_back.dm (ps:=["self"]) (fun _ _ _ _ _ _=>us1 (fun _=>rfl))
 obtain⟨Cj,q_hall⟩:=i_hall.dm (ps:=["self"]) (fun _ _ _ _ _ _=>us1 (fun _=>rfl))
 have key:∃ A:Adr,Facts K mg A∧∀(s:Shared) (u:Value),BindsTo s A.Gx ⟨[u],[]⟩ [("_law_script",u)]:=⟨⟨a0,d0,a1,d1,a2,d2,a3,d3,a4,d4,a5,d5,a6,d6,a7,d7,a8,d8,a9,d9,a10,d10,a11,d11,a12,d12,a13,d13,a14,d14,a15,d15,C0,C1,x_Book,x_NoHall,x_NoPlace,U6,Ci,F1,N6,C4,F6,U7,AB,w8,B1,AC,Cj⟩,⟨PySem.W.mg_none_of X G z_abs,PySem.W.mg_none_of X G z_all,PySem.W.mg_none_of X G z_bool,PySem.W.mg_none_of X G z_int,PySem.W.mg_none_of X G z_isinstance,PySem.W.mg_none_of X G z_len,PySem.W.mg_none_of X G z_list,PySem.W.mg_none_of X G z_range,PySem.W.mg_none_of X G z_tuple,PySem.W.mg_of X G y_MOST_BILLS,PySem.W.mg_of X G y_MOST_KINDS,q0,q1,q2,q3,q4,q5,q6,q7,q8,q9,q10,q11,q12,q13,q14,q15,⟨PySem.W.mg_of X G w_NoHall,u_NoHall,v_NoHall⟩,⟨PySem.W.mg_of X G w_NoPlace,u_NoPlace,v_NoPlace⟩,⟨PySem.W.mg_of X G w_NoHall,by intro n C hn hC;unfold h_NoPlace at hn;simp only[beq_iff_eq]at hn;subst hn;cases hC.symm.trans (PySem.W.mg_of X G w_NoPlace);exact o_mis⟩,Ib (PySem.W.mg_of X G w_NoHall) (by intro n C hn hC;unfold h_NoHall at hn;simp only[Bool.or_eq_true,beq_iff_eq,or_assoc]at hn;first|(rcases hn with rfl<;>first|(cases hC.symm.trans (PySem.W.mg_of X G w_NoHall);exact⟨o_NoHall_NoHall,v_NoHall⟩))),Ib (PySem.W.mg_of X G w_NoPlace) (by intro n C hn hC;unfold h_NoPlace at hn;simp only[Bool.or_eq_true,beq_iff_eq,or_assoc]at hn;first|(rcases hn with rfl<;>first|(cases hC.symm.trans (PySem.W.mg_of X G w_NoPlace);exact⟨o_NoPlace_NoPlace,v_NoPlace⟩))),PySem.W.mg_of X G w_Book,hbk,⟨j_makes,q_init.mt.at_,q_init.mt.fn,j_kp⟩,q_init,q_turn_to,q_hand_in,q_drop,q_take_back,q_hall⟩,fun s u => .of_eq (b15 [u] rfl)⟩
 obtain⟨A,FF,hb⟩:=key
 have e:=hfa.symm.trans FF.f_law.mg
 cases e
 exact⟨A.Gx,hb,fun base _ _=>ok_law FF⟩
namespace H
noncomputable section
open PySem PySem.W PySem.Calls PyProof.Rows
abbrev pw:Program:=PySem.Challenge.pw_changehall_k39_whole_books
abbrev vs(s:String)(t:Nat):Value := .str (Str.ofString s) t
abbrev de(P:Params)(s:String)(t:Nat)(v:Value):DictEntry:=⟨PyData.keyHash P (Str.ofString s),.str (Str.ofString s) t,v⟩
abbrev N:=BT.node
abbrev E:=BT.nil
abbrev ins(t:BT)(l:List (Nat×Obj)):BT:=l.foldl (fun t x=>t.ins x.1 x.2) t
def fdT(s:Stmt)(g:Addr)(md cd:Value):FuncData:=match s with
 | .FunctionDef name args body _ _ _ scope _ _ _=>{ name:=name,qualname:=name,params:=args,body := .stmts body,scope:=scope,globals:=g,closure:=[],defaults := .none,kwdefaults := .none,pyModule:=md,code:=cd }
 | _=>default
abbrev tu(l:List Value):Obj:=⟨.type "tuple",none,.seq l.toArray 0,#[]⟩
abbrev fi(l:List Value):Obj:=⟨.none,none,.fields l.toArray,#[]⟩
abbrev fo(c:Value)(i:Nat)(g:Addr)(md cd:Value):Obj:=⟨c,none,.func (fdT (top i) g md cd),#[]⟩
abbrev co(a f:String)(t0 t1 t2:Nat)(l n z:Int)(r:Addr)(u:Bool)(v:Int)(s:Addr)(p q1 q2 q3:Value)(w:Int)(t3:Nat):Obj:=⟨.type "code",none,.fields #[vs a t0,vs a t1,vs f t2,.int l 0,.int n 0,.int 0 0,.int 0 0,.int z 0,.ref r,.bool u,.int v 0,.ref s,p,q1,q2,q3,.int w 0,.int l 0,vs f t3],#[]⟩
theorem te_go:@topGo=Fast.tw15667345088766844465:=Fast.te15667345088766844465
theorem te_sr:@segRun=Fast.tw14374325043358763698:=Fast.te14374325043358763698
theorem te_sT:@segRunT=Fast.tw10110043849684766642:=Fast.te10110043849684766642
theorem te_tr:@topRun=Fast.tw14082659384304107361:=Fast.te14082659384304107361
theorem te_tb:treeTable=Fast.tw14364793385576792824:=Fast.te14364793385576792824
theorem te_im:@importedModules=Fast.tw5923862056798008813:=Fast.te5923862056798008813
theorem te_seen:@seen=Fast.tw5160383126252970620:=Fast.te5160383126252970620
theorem te_recs:@recsOf=Fast.tw3399658132070893891:=Fast.te3399658132070893891
theorem te_owns:@ownsOf=Fast.tw5991557255702980513:=Fast.te5991557255702980513
theorem te_keys:@Heap.keysOk=Fast.tw10880121769531294198:=Fast.te10880121769531294198
theorem te_loose:@looseW=Fast.tw821141287760084731:=Fast.te821141287760084731
theorem te_lits:@litsOf=Fast.tw7409074990110511671:=Fast.te7409074990110511671
theorem te_clss:@clssOf=Fast.tw13664370479719496447:=Fast.te13664370479719496447
theorem te_acc:@Heap.accountedOkI=Fast.tw14722251495701143533:=Fast.te14722251495701143533
theorem te_tabl:@tablesOk=Fast.tw10994771534591457954:=Fast.te10994771534591457954
theorem te_tabs:@tabsOk=Fast.tw479339242167458305:=Fast.te479339242167458305
theorem te_pin:@pinSeenD=Fast.tw16090120013241838585:=Fast.te16090120013241838585
theorem te_drecs:@drecsOf=Fast.tw3247288618530077131:=Fast.te3247288618530077131
theorem te_pE:@plainSeenE=Fast.tw2386780881361962483:=Fast.te2386780881361962483
theorem te_pD:@plainSeenD=Fast.tw11698064438423848299:=Fast.te11698064438423848299
theorem te_wide:@wideSeen=Fast.tw7317090234206586261:=Fast.te7317090234206586261
theorem te_cls:@clsSeenW=Fast.tw7369524293546568484:=Fast.te7369524293546568484
theorem te_den:@denote=Fast.tw11892475500146522536:=Fast.te11892475500146522536
theorem te_ns:@Heap.nsMap=Fast.tw8920871248978507458:=Fast.te8920871248978507458
abbrev env:Env:={ scope:=pw.main.scope,locals:=mainNs,globals:=mainNs,cells:=[],code := .ref 13,frame:=some 14 }
abbrev cE:Code := .body (behindTheImports pw) env
abbrev fB:List Frame:=[topFrame ⟨0,0,0,0⟩]
abbrev ann:Option Value:=some (.ref 6)
abbrev o11a:=tu []
abbrev o12aL:List Value:=[]
abbrev o12a:=fi o12aL
abbrev o13a:=co "<module>" "/claim/cut.py" 182 183 184 1 0 0 11 false 181 12 .none .none .none .none 185 186
abbrev o14a:Obj:=⟨.type "frame",none,.plain,#[Option.some (PySem.Value.ref 13),Option.some (PySem.Value.ref 3),Option.some (PySem.Value.ref 3),Option.none,Option.some (PySem.Value.str (PySem.Str.ofString "__main__") 164),Option.none,Option.some (PySem.Value.ref 0)]⟩
abbrev ha(P:Params):Heap:=⟨⟨[boot_o_0 P,boot_o_1 P,boot_o_2 P,boot_o_3 P,boot_o_4 P,boot_o_5 P,boot_o_6 P,boot_o_7 P,boot_o_8 P,boot_o_9 P,boot_o_10 P,o11a,o12a,o13a,o14a]⟩,{ }⟩
theorem run_a(w:World)(os:OsState):topGo treeTable pw w 11 ann 12 ⟨boot_heap w.params,#[],boot_drawn,boot_toks,os⟩ (topStub pw)=some (⟨ha w.params,#[],{ },187,os⟩,⟨denote treeTable cE,cE,⟨0,0,0,0⟩,fB⟩):=by
 rewrite[te_go,te_den,te_tb];kernel_rfl
abbrev t0(P:Params):BT:=(N (boot_o_0 P) (N (boot_o_1 P) (N (boot_o_3 P) (N (boot_o_7 P) E E) (N (o11a) E E)) (N (boot_o_5 P) (N (boot_o_9 P) E E) (N (o13a) E E))) (N (boot_o_2 P) (N (boot_o_4 P) (N (boot_o_8 P) E E) (N (o12a) E E)) (N (boot_o_6 P) (N (boot_o_10 P) E E) (N (o14a) E E))))
abbrev s0(w:World)(os:OsState):SharedT:=⟨t0 w.params,15,{ },#[],{ },187,os⟩
theorem run_b(w:World)(os:OsState):segRun treeTable pw w 11 ann 1 1 ⟨ha w.params,#[],{ },187,os⟩ (blockOf (behindTheImports pw) env cE ⟨0,0,0,0⟩ fB)=some (.next,(s0 w os).abs,cE,⟨0,0,0,0⟩):=by
 rewrite[te_sr,te_tb];kernel_rfl
abbrev o3_1L(P:Params):List DictEntry:=[de P "__name__" 165 (vs "changehall.errors" 187),de P "__doc__" 166 .none,de P "__package__" 167 .none,de P "__loader__" 168 (.builtin "__main__.__loader__#opaque"),de P "__spec__" 169 .none,de P "__annotations__" 170 (.ref 6),de P "__builtins__" 171 (.ref 4),de P "__file__" 173 (vs "/claim/cut.py" 172),de P "__cached__" 174 .none,de P "HallError" 206 (.ref 24)]
abbrev o3_1(P:Params):Obj:=⟨.type "dict",none,.dict (o3_1L P).toArray 10,#[]⟩
abbrev IC:List Value:=o12aL++[.int 2 0,.int 0 0,.ref 20]
abbrev o12_1:=fi IC
abbrev ID:=tu [.type "ValueError"]
abbrev o16_1:Obj:=⟨.type "builtin_function_or_method",none,.fields #[.builtin "type.__prepare__",.type "type"],#[]⟩
abbrev o17_1L(P:Params):List DictEntry:=[de P "__module__" 196 (vs "changehall.errors" 187),de P "__qualname__" 198 (vs "HallError" 197),de P "__firstlineno__" 200 (.int 2 199),de P "__static_attributes__" 201 (.ref 22)]
abbrev o17_1(P:Params):Obj:=⟨.type "dict",none,.dict (o17_1L P).toArray 4,#[]⟩
abbrev o18_1:=tu []
abbrev o19_1:=fi []
abbrev o20_1:=co "HallError" "/claim/cut.py" 191 192 193 2 0 0 18 false 181 19 .none .none .none .none 194 195
abbrev o21_1:Obj:=⟨.type "frame",none,.plain,#[Option.some (PySem.Value.ref 20),Option.some (PySem.Value.ref 3),Option.some (PySem.Value.ref 17),Option.none,Option.some (PySem.Value.str (PySem.Str.ofString "changehall.errors") 187),Option.none,Option.some (PySem.Value.ref 0)]⟩
abbrev IE:=tu []
abbrev o23_1L(P:Params):List DictEntry:=[de P "__module__" 196 (vs "changehall.errors" 187),de P "__firstlineno__" 200 (.int 2 199),de P "__static_attributes__" 201 (.ref 22),de P "__weakref__" 203 (.ref 25),de P "__doc__" 204 .none]
abbrev IF(P:Params):Obj:=⟨.type "dict",none,.dict (o23_1L P).toArray 3,#[]⟩
abbrev o24_1:Obj:=⟨.type "type",none,.cls ({ name:=PySem.Str.ofString "HallError",bases:=[PySem.Value.type "ValueError"],mro:=[PySem.Value.ref 24,PySem.Value.type "ValueError",PySem.Value.type "Exception",PySem.Value.type "BaseException",PySem.Value.type "object"],ns:=23,qualname:=PySem.Str.ofString "HallError" }),#[Option.some (PySem.Value.ref 15),Option.none,Option.some (PySem.Value.str (PySem.Str.ofString "HallError") 189),Option.some (PySem.Value.str (PySem.Str.ofString "HallError") 197),Option.some (PySem.Value.builtin "ValueError.__new__"),Option.some (PySem.Value.bool Bool.true)]⟩
abbrev IG:Obj:=⟨.type "getset_descriptor",none,.fields #[vs "__weakref__" 202,.ref 24,.builtin "ExceptionGroup.__weakref__",.none],#[]⟩
abbrev o26_1:Obj:=⟨.type "super",none,.fields #[.ref 24,.ref 24,.ref 24],#[]⟩
abbrev o27_1:Obj:=⟨.type "builtin_function_or_method",none,.fields #[.builtin "object.__init_subclass__",.ref 24],#[]⟩
abbrev t1(P:Params):BT:=ins (t0 P) [(3,o3_1 P),(12,o12_1),(15,ID),(16,o16_1),(17,o17_1 P),(18,o18_1),(19,o19_1),(20,o20_1),(21,o21_1),(22,IE),(23,IF P),(24,o24_1),(25,IG),(26,o26_1),(27,o27_1)]
abbrev s1(w:World)(os:OsState):SharedT:=⟨t1 w.params,28,{ },#[],{ },207,os⟩
abbrev l0:List Stmt:=[top 0,top 1]
theorem run_0(w:World)(os:OsState):segRunT treeTable pw w 11 ann 1 196 (s0 w os) (piecesOf l0 env cE ⟨0,0,0,0⟩ fB)=some (.next,s1 w os,cE,⟨2,0,3,8⟩):=by
 rewrite[te_sT,te_tb];kernel_rfl
abbrev o3_2L(P:Params):List DictEntry:=de P "__name__" 165 (vs "changehall.errors" 187)::(o3_1L P).tail++[de P "NoHall" 222 (.ref 37)]
abbrev o3_2(P:Params):Obj:=⟨.type "dict",none,.dict (o3_2L P).toArray 11,#[]⟩
abbrev IH:List Value:=IC++[.int 4 0,.int 0 0,.ref 33]
abbrev o12_2:=fi IH
abbrev o24_2:Obj:=⟨.type "type",none,.cls ({ name:=PySem.Str.ofString "HallError",bases:=[PySem.Value.type "ValueError"],mro:=[PySem.Value.ref 24,PySem.Value.type "ValueError",PySem.Value.type "Exception",PySem.Value.type "BaseException",PySem.Value.type "object"],ns:=23,qualname:=PySem.Str.ofString "HallError",subclasses:=[PySem.Value.ref 37] }),#[Option.some (PySem.Value.ref 15),Option.none,Option.some (PySem.Value.str (PySem.Str.ofString "HallError") 189),Option.some (PySem.Value.str (PySem.Str.ofString "HallError") 197),Option.some (PySem.Value.builtin "ValueError.__new__"),Option.some (PySem.Value.bool Bool.true)]⟩
abbrev II:=tu [.ref 24]
abbrev o29_2:Obj:=⟨.type "builtin_function_or_method",none,.fields #[.builtin "type.__prepare__",.type "type"],#[]⟩
abbrev o30_2L(P:Params):List DictEntry:=[de P "__module__" 214 (vs "changehall.errors" 187),de P "__qualname__" 216 (vs "NoHall" 215),de P "__firstlineno__" 218 (.int 4 217),de P "__static_attributes__" 219 (.ref 35)]
abbrev o30_2(P:Params):Obj:=⟨.type "dict",none,.dict (o30_2L P).toArray 4,#[]⟩
abbrev o31_2:=tu []
abbrev o32_2:=fi []
abbrev o33_2:=co "NoHall" "/claim/cut.py" 209 210 211 4 0 0 31 false 181 32 .none .none .none .none 212 213
abbrev o34_2:Obj:=⟨.type "frame",none,.plain,#[Option.some (PySem.Value.ref 33),Option.some (PySem.Value.ref 3),Option.some (PySem.Value.ref 30),Option.none,Option.some (PySem.Value.str (PySem.Str.ofString "changehall.errors") 187),Option.none,Option.some (PySem.Value.ref 0)]⟩
abbrev IJ:=tu []
abbrev o36_2L(P:Params):List DictEntry:=[de P "__module__" 214 (vs "changehall.errors" 187),de P "__firstlineno__" 218 (.int 4 217),de P "__static_attributes__" 219 (.ref 35),de P "__doc__" 220 .none]
abbrev IK(P:Params):Obj:=⟨.type "dict",none,.dict (o36_2L P).toArray 2,#[]⟩
abbrev IL:Obj:=⟨.type "type",none,.cls ({ name:=PySem.Str.ofString "NoHall",bases:=[PySem.Value.ref 24],mro:=[PySem.Value.ref 37,PySem.Value.ref 24,PySem.Value.type "ValueError",PySem.Value.type "Exception",PySem.Value.type "BaseException",PySem.Value.type "object"],ns:=36,qualname:=PySem.Str.ofString "NoHall" }),#[Option.some (PySem.Value.ref 28),Option.none,Option.some (PySem.Value.str (PySem.Str.ofString "NoHall") 207),Option.some (PySem.Value.str (PySem.Str.ofString "NoHall") 215),Option.some (PySem.Value.builtin "ValueError.__new__"),Option.some (PySem.Value.bool Bool.true)]⟩
abbrev o38_2:Obj:=⟨.type "super",none,.fields #[.ref 37,.ref 37,.ref 37],#[]⟩
abbrev o39_2:Obj:=⟨.type "builtin_function_or_method",none,.fields #[.builtin "object.__init_subclass__",.ref 37],#[]⟩
abbrev t2(P:Params):BT:=ins (t1 P) [(3,o3_2 P),(12,o12_2),(24,o24_2),(28,II),(29,o29_2),(30,o30_2 P),(31,o31_2),(32,o32_2),(33,o33_2),(34,o34_2),(35,IJ),(36,IK P),(37,IL),(38,o38_2),(39,o39_2)]
abbrev s2(w:World)(os:OsState):SharedT:=⟨t2 w.params,40,{ },#[],{ },223,os⟩
abbrev l1:List Stmt:=[top 2]
theorem run_1(w:World)(os:OsState):segRunT treeTable pw w 11 ann 1 214 (s1 w os) (piecesOf l1 env cE ⟨2,0,3,8⟩ fB)=some (.next,s2 w os,cE,⟨4,0,5,8⟩):=by
 rewrite[te_sT,te_tb];kernel_rfl
abbrev o3_3L(P:Params):List DictEntry:=de P "__name__" 165 (vs "changehall.halls" 254)::(o3_2L P).tail++[de P "NoPlace" 238 (.ref 49),de P "is_whole" 247 (.ref 58),de P "is_row" 253 (.ref 63),de P "MOST_KINDS" 257 (.int 6 256),de P "MOST_BILLS" 259 (.int 8 258),de P "are_kinds" 266 (.ref 70),de P "is_bill" 272 (.ref 75),de P "need_kinds" 279 (.ref 82)]
abbrev o3_3(P:Params):Obj:=⟨.type "dict",none,.dict (o3_3L P).toArray 19,#[]⟩
abbrev IM:List Value:=IH++[.int 6 0,.int 0 0,.ref 45,.int 9 0,.int 0 0,.ref 57,.int 11 0,.int 0 0,.ref 62,.int 18 0,.int 0 0,.ref 69,.int 20 0,.int 0 0,.ref 74,.int 22 0,.int 0 0,.ref 81]
abbrev o12_3:=fi IM
abbrev IN:Obj:=⟨.type "type",none,.cls ({ name:=PySem.Str.ofString "HallError",bases:=[PySem.Value.type "ValueError"],mro:=[PySem.Value.ref 24,PySem.Value.type "ValueError",PySem.Value.type "Exception",PySem.Value.type "BaseException",PySem.Value.type "object"],ns:=23,qualname:=PySem.Str.ofString "HallError",subclasses:=[PySem.Value.ref 37,PySem.Value.ref 49] }),#[Option.some (PySem.Value.ref 15),Option.none,Option.some (PySem.Value.str (PySem.Str.ofString "HallError") 189),Option.some (PySem.Value.str (PySem.Str.ofString "HallError") 197),Option.some (PySem.Value.builtin "ValueError.__new__"),Option.some (PySem.Value.bool Bool.true)]⟩
abbrev IP:=tu [.ref 24]
abbrev o41_3:Obj:=⟨.type "builtin_function_or_method",none,.fields #[.builtin "type.__prepare__",.type "type"],#[]⟩
abbrev o42_3L(P:Params):List DictEntry:=[de P "__module__" 230 (vs "changehall.errors" 187),de P "__qualname__" 232 (vs "NoPlace" 231),de P "__firstlineno__" 234 (.int 6 233),de P "__static_attributes__" 235 (.ref 47)]
abbrev o42_3(P:Params):Obj:=⟨.type "dict",none,.dict (o42_3L P).toArray 4,#[]⟩
abbrev o43_3:=tu []
abbrev o44_3:=fi []
abbrev o45_3:=co "NoPlace" "/claim/cut.py" 225 226 227 6 0 0 43 false 181 44 .none .none .none .none 228 229
abbrev o46_3:Obj:=⟨.type "frame",none,.plain,#[Option.some (PySem.Value.ref 45),Option.some (PySem.Value.ref 3),Option.some (PySem.Value.ref 42),Option.none,Option.some (PySem.Value.str (PySem.Str.ofString "changehall.errors") 187),Option.none,Option.some (PySem.Value.ref 0)]⟩
abbrev IQ:=tu []
abbrev o48_3L(P:Params):List DictEntry:=[de P "__module__" 230 (vs "changehall.errors" 187),de P "__firstlineno__" 234 (.int 6 233),de P "__static_attributes__" 235 (.ref 47),de P "__doc__" 236 .none]
abbrev IR(P:Params):Obj:=⟨.type "dict",none,.dict (o48_3L P).toArray 2,#[]⟩
abbrev IS:Obj:=⟨.type "type",none,.cls ({ name:=PySem.Str.ofString "NoPlace",bases:=[PySem.Value.ref 24],mro:=[PySem.Value.ref 49,PySem.Value.ref 24,PySem.Value.type "ValueError",PySem.Value.type "Exception",PySem.Value.type "BaseException",PySem.Value.type "object"],ns:=48,qualname:=PySem.Str.ofString "NoPlace" }),#[Option.some (PySem.Value.ref 40),Option.none,Option.some (PySem.Value.str (PySem.Str.ofString "NoPlace") 223),Option.some (PySem.Value.str (PySem.Str.ofString "NoPlace") 231),Option.some (PySem.Value.builtin "ValueError.__new__"),Option.some (PySem.Value.bool Bool.true)]⟩
abbrev o50_3:Obj:=⟨.type "super",none,.fields #[.ref 49,.ref 49,.ref 49],#[]⟩
abbrev o51_3:Obj:=⟨.type "builtin_function_or_method",none,.fields #[.builtin "object.__init_subclass__",.ref 49],#[]⟩
abbrev IT:=tu []
abbrev o53_3:=fi []
abbrev IU:=tu [vs "value" 244]
abbrev IV:=tu []
abbrev o56_3:=fo .none 5 0 .none .none
abbrev IW:=co "is_whole" "/claim/cut.py" 241 242 243 9 1 3 52 true 181 53 .none (.ref 54) (.ref 55) (.ref 56) 245 246
abbrev IX:=fo (.type "function") 5 3 (vs "changehall.rows" 239) (.ref 57)
abbrev IY:=tu []
abbrev o60_3:=fi []
abbrev o61_3:=fo .none 6 0 .none .none
abbrev IZ:=co "is_row" "/claim/cut.py" 248 249 250 11 2 3 59 true 181 60 .none .none .none (.ref 61) 251 252
abbrev Ja:=fo (.type "function") 6 3 (vs "changehall.rows" 239) (.ref 62)
abbrev Jb:=tu []
abbrev o65_3:=fi []
abbrev Jc:=tu [vs "value" 263]
abbrev Jd:=tu []
abbrev o68_3:=fo .none 10 0 .none .none
abbrev Je:=co "are_kinds" "/claim/cut.py" 260 261 262 18 1 3 64 true 181 65 .none (.ref 66) (.ref 67) (.ref 68) 264 265
abbrev Jf:=fo (.type "function") 10 3 (vs "changehall.halls" 254) (.ref 69)
abbrev Jg:=tu []
abbrev o72_3:=fi []
abbrev o73_3:=fo .none 11 0 .none .none
abbrev Jh:=co "is_bill" "/claim/cut.py" 267 268 269 20 2 3 71 true 181 72 .none .none .none (.ref 73) 270 271
abbrev Ji:=fo (.type "function") 11 3 (vs "changehall.halls" 254) (.ref 74)
abbrev Jj:=tu []
abbrev o77_3:=fi []
abbrev Jk:=tu [vs "kinds" 276]
abbrev Jl:=tu []
abbrev o80_3:=fo .none 12 0 .none .none
abbrev Jm:=co "need_kinds" "/claim/cut.py" 273 274 275 22 1 3 76 true 181 77 .none (.ref 78) (.ref 79) (.ref 80) 277 278
abbrev Jn:=fo (.type "function") 12 3 (vs "changehall.halls" 254) (.ref 81)
abbrev t3(P:Params):BT:=ins (t2 P) [(3,o3_3 P),(12,o12_3),(24,IN),(40,IP),(41,o41_3),(42,o42_3 P),(43,o43_3),(44,o44_3),(45,o45_3),(46,o46_3),(47,IQ),(48,IR P),(49,IS),(50,o50_3),(51,o51_3),(52,IT),(53,o53_3),(54,IU),(55,IV),(56,o56_3),(57,IW),(58,IX),(59,IY),(60,o60_3),(61,o61_3),(62,IZ),(63,Ja),(64,Jb),(65,o65_3),(66,Jc),(67,Jd),(68,o68_3),(69,Je),(70,Jf),(71,Jg),(72,o72_3),(73,o73_3),(74,Jh),(75,Ji),(76,Jj),(77,o77_3),(78,Jk),(79,Jl),(80,o80_3),(81,Jm),(82,Jn)]
abbrev s3(w:World)(os:OsState):SharedT:=⟨t3 w.params,83,{ },#[],{ },280,os⟩
abbrev l2:List Stmt:=[top 3,top 4,top 5,top 6,top 7,top 8,top 9,top 10,top 11,top 12]
theorem run_2(w:World)(os:OsState):segRunT treeTable pw w 11 ann 1 389 (s2 w os) (piecesOf l2 env cE ⟨4,0,5,8⟩ fB)=some (.next,s3 w os,cE,⟨22,0,24,60⟩):=by
 rewrite[te_sT,te_tb];kernel_rfl
abbrev o3_4L(P:Params):List DictEntry:=de P "__name__" 165 (vs "changehall.book" 303)::(o3_3L P).tail++[de P "need_bill" 287 (.ref 89),de P "hall_of" 296 (.ref 96),de P "hall_by" 302 (.ref 101)]
abbrev o3_4(P:Params):Obj:=⟨.type "dict",none,.dict (o3_4L P).toArray 22,#[]⟩
abbrev Jo:List Value:=IM++[.int 25 0,.int 0 0,.ref 88,.int 28 0,.int 0 0,.ref 95,.int 35 0,.int 0 0,.ref 100]
abbrev o12_4:=fi Jo
abbrev Jp:=tu []
abbrev o84_4:=fi []
abbrev Jq:=tu [vs "bill" 283,vs "kinds" 284]
abbrev Jr:=tu []
abbrev o87_4:=fo .none 13 0 .none .none
abbrev Js:=co "need_bill" "/claim/cut.py" 280 281 282 25 2 3 83 true 181 84 .none (.ref 85) (.ref 86) (.ref 87) 285 286
abbrev Jt:=fo (.type "function") 13 3 (vs "changehall.halls" 254) (.ref 88)
abbrev Ju:=tu []
abbrev o91_4:=fi []
abbrev Jv:=tu [vs "kinds" 291,vs "bills" 292,vs "bill" 293]
abbrev Jw:=tu []
abbrev o94_4:=fo .none 14 0 .none .none
abbrev Jx:=co "hall_of" "/claim/cut.py" 288 289 290 28 2 3 90 true 181 91 .none (.ref 92) (.ref 93) (.ref 94) 294 295
abbrev Jy:=fo (.type "function") 14 3 (vs "changehall.halls" 254) (.ref 95)
abbrev Jz:=tu []
abbrev o98_4:=fi []
abbrev o99_4:=fo .none 15 0 .none .none
abbrev DM:=co "hall_by" "/claim/cut.py" 297 298 299 35 2 3 97 true 181 98 .none .none .none (.ref 99) 300 301
abbrev DN:=fo (.type "function") 15 3 (vs "changehall.halls" 254) (.ref 100)
abbrev t4(P:Params):BT:=ins (t3 P) [(3,o3_4 P),(12,o12_4),(83,Jp),(84,o84_4),(85,Jq),(86,Jr),(87,o87_4),(88,Js),(89,Jt),(90,Ju),(91,o91_4),(92,Jv),(93,Jw),(94,o94_4),(95,Jx),(96,Jy),(97,Jz),(98,o98_4),(99,o99_4),(100,DM),(101,DN)]
abbrev s4(w:World)(os:OsState):SharedT:=⟨t4 w.params,102,{ },#[],{ },305,os⟩
abbrev l3:List Stmt:=[top 13,top 14,top 15,top 16]
theorem run_3(w:World)(os:OsState):segRunT treeTable pw w 11 ann 1 97 (s3 w os) (piecesOf l3 env cE ⟨22,0,24,60⟩ fB)=some (.next,s4 w os,cE,⟨37,0,37,8⟩):=by
 rewrite[te_sT,te_tb];kernel_rfl
abbrev o3_5L(P:Params):List DictEntry:=de P "__name__" 165 (vs "law_changehall_k39_whole_books" 374)::(o3_4L P).tail++[de P "Book" 373 (.ref 153)]
abbrev o3_5(P:Params):Obj:=⟨.type "dict",none,.dict (o3_5L P).toArray 23,#[]⟩
abbrev JA:List Value:=Jo++[.int 38 0,.int 0 0,.ref 107]
abbrev o12_5:=fi JA
abbrev JB:=tu []
abbrev JC:Obj:=⟨.type "builtin_function_or_method",none,.fields #[.builtin "type.__prepare__",.type "type"],#[]⟩
abbrev Lp(P:Params):List DictEntry:=[de P "__module__" 312 (vs "changehall.book" 303),de P "__qualname__" 314 (vs "Book" 313),de P "__firstlineno__" 316 (.int 38 315),de P "__init__" 324 (.ref 115),de P "turn_to" 332 (.ref 122),de P "hand_in" 340 (.ref 129),de P "drop" 348 (.ref 136),de P "take_back" 355 (.ref 143),de P "hall" 362 (.ref 150),de P "__static_attributes__" 366 (.ref 151)]
abbrev JD(P:Params):Obj:=⟨.type "dict",none,.dict (Lp P).toArray 10,#[]⟩
abbrev JE:=tu []
abbrev JF:=fi [.int 40 0,.int 4 0,.ref 114,.int 46 0,.int 4 0,.ref 121,.int 50 0,.int 4 0,.ref 128,.int 56 0,.int 4 0,.ref 135,.int 61 0,.int 4 0,.ref 142,.int 66 0,.int 4 0,.ref 149]
abbrev JG:=co "Book" "/claim/cut.py" 307 308 309 38 0 0 105 false 181 106 .none .none .none .none 310 311
abbrev JH:Obj:=⟨.type "frame",none,.plain,#[Option.some (PySem.Value.ref 107),Option.some (PySem.Value.ref 3),Option.some (PySem.Value.ref 104),Option.none,Option.some (PySem.Value.str (PySem.Str.ofString "changehall.book") 303),Option.none,Option.some (PySem.Value.ref 0)]⟩
abbrev DO:=tu []
abbrev JI:=fi []
abbrev DP:=tu [vs "self" 320,vs "kinds" 321]
abbrev DQ:=tu []
abbrev JJ:Obj:=⟨.none,none,.func ({ name:=PySem.Str.ofString "__init__",qualname:=PySem.Str.ofString "Book.__init__",params:={ posonlyargs:=[],args:=[{ arg:=PySem.Str.ofString "self",annotation:=Option.none,pos:={ line:=40,col:=17,endLine:=40,endCol:=21 } },{ arg:=PySem.Str.ofString "kinds",annotation:=Option.none,pos:={ line:=40,col:=23,endLine:=40,endCol:=28 } }],vararg:=Option.none,kwonlyargs:=[],kw_defaults:=[],kwarg:=Option.none,defaults:=[] },body:=PySem.FuncBody.stmts [PySem.Stmt.Expr ((PySem.Expr.Name (PySem.Str.ofString "need_kinds") { line:=41,col:=8,endLine:=41,endCol:=18 }).Call [PySem.Expr.Name (PySem.Str.ofString "kinds") { line:=41,col:=19,endLine:=41,endCol:=24 }] [] { line:=41,col:=8,endLine:=41,endCol:=25 }) { line:=41,col:=8,endLine:=41,endCol:=25 },PySem.Stmt.Assign [(PySem.Expr.Name (PySem.Str.ofString "self") { line:=42,col:=8,endLine:=42,endCol:=12 }).Attribute (PySem.Str.ofString "kinds") { line:=42,col:=8,endLine:=42,endCol:=18 }] (PySem.Expr.Name (PySem.Str.ofString "kinds") { line:=42,col:=21,endLine:=42,endCol:=26 }) { line:=42,col:=8,endLine:=42,endCol:=26 },PySem.Stmt.Assign [(PySem.Expr.Name (PySem.Str.ofString "self") { line:=43,col:=8,endLine:=43,endCol:=12 }).Attribute (PySem.Str.ofString "bills") { line:=43,col:=8,endLine:=43,endCol:=18 }] (PySem.Expr.List [] { line:=43,col:=21,endLine:=43,endCol:=23 }) { line:=43,col:=8,endLine:=43,endCol:=23 },PySem.Stmt.Assign [(PySem.Expr.Name (PySem.Str.ofString "self") { line:=44,col:=8,endLine:=44,endCol:=12 }).Attribute (PySem.Str.ofString "earlier") { line:=44,col:=8,endLine:=44,endCol:=20 }] (PySem.Expr.List [] { line:=44,col:=23,endLine:=44,endCol:=25 }) { line:=44,col:=8,endLine:=44,endCol:=25 }],scope:={ kind:=PySem.ScopeKind.function,names:=[(PySem.Str.ofString "self",PySem.NameKind.local),(PySem.Str.ofString "kinds",PySem.NameKind.local),(PySem.Str.ofString "need_kinds",PySem.NameKind.globalImplicit)],isGenerator:=Bool.false,isCoroutine:=Bool.false },globals:=0,closure:=[],defaults:=PySem.Value.none,kwdefaults:=PySem.Value.none }),#[]⟩
abbrev DR:Obj:=⟨.type "code",none,.fields #[vs "__init__" 317,vs "Book.__init__" 318,vs "/claim/cut.py" 319,.int 40 0,.int 2 0,.int 0 0,.int 0 0,.int 3 0,.ref 109,.bool true,.int 181 0,.ref 110,.none,.ref 111,.ref 112,.ref 113,.int 322 0,.int 40 0,vs "/claim/cut.py" 323],#[]⟩
abbrev DS:Obj:=⟨.type "function",none,.func ({ name:=PySem.Str.ofString "__init__",qualname:=PySem.Str.ofString "Book.__init__",params:={ posonlyargs:=[],args:=[{ arg:=PySem.Str.ofString "self",annotation:=Option.none,pos:={ line:=40,col:=17,endLine:=40,endCol:=21 } },{ arg:=PySem.Str.ofString "kinds",annotation:=Option.none,pos:={ line:=40,col:=23,endLine:=40,endCol:=28 } }],vararg:=Option.none,kwonlyargs:=[],kw_defaults:=[],kwarg:=Option.none,defaults:=[] },body:=PySem.FuncBody.stmts [PySem.Stmt.Expr ((PySem.Expr.Name (PySem.Str.ofString "need_kinds") { line:=41,col:=8,endLine:=41,endCol:=18 }).Call [PySem.Expr.Name (PySem.Str.ofString "kinds") { line:=41,col:=19,endLine:=41,endCol:=24 }] [] { line:=41,col:=8,endLine:=41,endCol:=25 }) { line:=41,col:=8,endLine:=41,endCol:=25 },PySem.Stmt.Assign [(PySem.Expr.Name (PySem.Str.ofString "self") { line:=42,col:=8,endLine:=42,endCol:=12 }).Attribute (PySem.Str.ofString "kinds") { line:=42,col:=8,endLine:=42,endCol:=18 }] (PySem.Expr.Name (PySem.Str.ofString "kinds") { line:=42,col:=21,endLine:=42,endCol:=26 }) { line:=42,col:=8,endLine:=42,endCol:=26 },PySem.Stmt.Assign [(PySem.Expr.Name (PySem.Str.ofString "self") { line:=43,col:=8,endLine:=43,endCol:=12 }).Attribute (PySem.Str.ofString "bills") { line:=43,col:=8,endLine:=43,endCol:=18 }] (PySem.Expr.List [] { line:=43,col:=21,endLine:=43,endCol:=23 }) { line:=43,col:=8,endLine:=43,endCol:=23 },PySem.Stmt.Assign [(PySem.Expr.Name (PySem.Str.ofString "self") { line:=44,col:=8,endLine:=44,endCol:=12 }).Attribute (PySem.Str.ofString "earlier") { line:=44,col:=8,endLine:=44,endCol:=20 }] (PySem.Expr.List [] { line:=44,col:=23,endLine:=44,endCol:=25 }) { line:=44,col:=8,endLine:=44,endCol:=25 }],scope:={ kind:=PySem.ScopeKind.function,names:=[(PySem.Str.ofString "self",PySem.NameKind.local),(PySem.Str.ofString "kinds",PySem.NameKind.local),(PySem.Str.ofString "need_kinds",PySem.NameKind.globalImplicit)],isGenerator:=Bool.false,isCoroutine:=Bool.false },globals:=3,closure:=[],defaults:=PySem.Value.none,kwdefaults:=PySem.Value.none,pyModule:=PySem.Value.str (PySem.Str.ofString "changehall.book") 303,code:=PySem.Value.ref 114 }),#[]⟩
abbrev DT:=tu []
abbrev JK:=fi []
abbrev DU:=tu [vs "self" 328,vs "bills" 329]
abbrev DV:=tu []
abbrev JL:Obj:=⟨.none,none,.func ({ name:=PySem.Str.ofString "turn_to",qualname:=PySem.Str.ofString "Book.turn_to",params:={ posonlyargs:=[],args:=[{ arg:=PySem.Str.ofString "self",annotation:=Option.none,pos:={ line:=46,col:=16,endLine:=46,endCol:=20 } },{ arg:=PySem.Str.ofString "bills",annotation:=Option.none,pos:={ line:=46,col:=22,endLine:=46,endCol:=27 } }],vararg:=Option.none,kwonlyargs:=[],kw_defaults:=[],kwarg:=Option.none,defaults:=[] },body:=PySem.FuncBody.stmts [PySem.Stmt.Expr ((((PySem.Expr.Name (PySem.Str.ofString "self") { line:=47,col:=8,endLine:=47,endCol:=12 }).Attribute (PySem.Str.ofString "earlier") { line:=47,col:=8,endLine:=47,endCol:=20 }).Attribute (PySem.Str.ofString "append") { line:=47,col:=8,endLine:=47,endCol:=27 }).Call [(PySem.Expr.Name (PySem.Str.ofString "self") { line:=47,col:=28,endLine:=47,endCol:=32 }).Attribute (PySem.Str.ofString "bills") { line:=47,col:=28,endLine:=47,endCol:=38 }] [] { line:=47,col:=8,endLine:=47,endCol:=39 }) { line:=47,col:=8,endLine:=47,endCol:=39 },PySem.Stmt.Assign [(PySem.Expr.Name (PySem.Str.ofString "self") { line:=48,col:=8,endLine:=48,endCol:=12 }).Attribute (PySem.Str.ofString "bills") { line:=48,col:=8,endLine:=48,endCol:=18 }] (PySem.Expr.Name (PySem.Str.ofString "bills") { line:=48,col:=21,endLine:=48,endCol:=26 }) { line:=48,col:=8,endLine:=48,endCol:=26 }],scope:={ kind:=PySem.ScopeKind.function,names:=[(PySem.Str.ofString "self",PySem.NameKind.local),(PySem.Str.ofString "bills",PySem.NameKind.local)],isGenerator:=Bool.false,isCoroutine:=Bool.false },globals:=0,closure:=[],defaults:=PySem.Value.none,kwdefaults:=PySem.Value.none }),#[]⟩
abbrev DW:Obj:=⟨.type "code",none,.fields #[vs "turn_to" 325,vs "Book.turn_to" 326,vs "/claim/cut.py" 327,.int 46 0,.int 2 0,.int 0 0,.int 0 0,.int 3 0,.ref 116,.bool true,.int 181 0,.ref 117,.none,.ref 118,.ref 119,.ref 120,.int 330 0,.int 46 0,vs "/claim/cut.py" 331],#[]⟩
abbrev DX:Obj:=⟨.type "function",none,.func ({ name:=PySem.Str.ofString "turn_to",qualname:=PySem.Str.ofString "Book.turn_to",params:={ posonlyargs:=[],args:=[{ arg:=PySem.Str.ofString "self",annotation:=Option.none,pos:={ line:=46,col:=16,endLine:=46,endCol:=20 } },{ arg:=PySem.Str.ofString "bills",annotation:=Option.none,pos:={ line:=46,col:=22,endLine:=46,endCol:=27 } }],vararg:=Option.none,kwonlyargs:=[],kw_defaults:=[],kwarg:=Option.none,defaults:=[] },body:=PySem.FuncBody.stmts [PySem.Stmt.Expr ((((PySem.Expr.Name (PySem.Str.ofString "self") { line:=47,col:=8,endLine:=47,endCol:=12 }).Attribute (PySem.Str.ofString "earlier") { line:=47,col:=8,endLine:=47,endCol:=20 }).Attribute (PySem.Str.ofString "append") { line:=47,col:=8,endLine:=47,endCol:=27 }).Call [(PySem.Expr.Name (PySem.Str.ofString "self") { line:=47,col:=28,endLine:=47,endCol:=32 }).Attribute (PySem.Str.ofString "bills") { line:=47,col:=28,endLine:=47,endCol:=38 }] [] { line:=47,col:=8,endLine:=47,endCol:=39 }) { line:=47,col:=8,endLine:=47,endCol:=39 },PySem.Stmt.Assign [(PySem.Expr.Name (PySem.Str.ofString "self") { line:=48,col:=8,endLine:=48,endCol:=12 }).Attribute (PySem.Str.ofString "bills") { line:=48,col:=8,endLine:=48,endCol:=18 }] (PySem.Expr.Name (PySem.Str.ofString "bills") { line:=48,col:=21,endLine:=48,endCol:=26 }) { line:=48,col:=8,endLine:=48,endCol:=26 }],scope:={ kind:=PySem.ScopeKind.function,names:=[(PySem.Str.ofString "self",PySem.NameKind.local),(PySem.Str.ofString "bills",PySem.NameKind.local)],isGenerator:=Bool.false,isCoroutine:=Bool.false },globals:=3,closure:=[],defaults:=PySem.Value.none,kwdefaults:=PySem.Value.none,pyModule:=PySem.Value.str (PySem.Str.ofString "changehall.book") 303,code:=PySem.Value.ref 121 }),#[]⟩
abbrev DY:=tu []
abbrev JM:=fi []
abbrev DZ:=tu [vs "self" 336,vs "bill" 337]
abbrev Ea:=tu []
abbrev JN:Obj:=⟨.none,none,.func ({ name:=PySem.Str.ofString "hand_in",qualname:=PySem.Str.ofString "Book.hand_in",params:={ posonlyargs:=[],args:=[{ arg:=PySem.Str.ofString "self",annotation:=Option.none,pos:={ line:=50,col:=16,endLine:=50,endCol:=20 } },{ arg:=PySem.Str.ofString "bill",annotation:=Option.none,pos:={ line:=50,col:=22,endLine:=50,endCol:=26 } }],vararg:=Option.none,kwonlyargs:=[],kw_defaults:=[],kwarg:=Option.none,defaults:=[] },body:=PySem.FuncBody.stmts [PySem.Stmt.Expr ((PySem.Expr.Name (PySem.Str.ofString "need_bill") { line:=51,col:=8,endLine:=51,endCol:=17 }).Call [PySem.Expr.Name (PySem.Str.ofString "bill") { line:=51,col:=18,endLine:=51,endCol:=22 },(PySem.Expr.Name (PySem.Str.ofString "self") { line:=51,col:=24,endLine:=51,endCol:=28 }).Attribute (PySem.Str.ofString "kinds") { line:=51,col:=24,endLine:=51,endCol:=34 }] [] { line:=51,col:=8,endLine:=51,endCol:=35 }) { line:=51,col:=8,endLine:=51,endCol:=35 },PySem.Stmt.If (((PySem.Expr.Name (PySem.Str.ofString "len") { line:=52,col:=11,endLine:=52,endCol:=14 }).Call [(PySem.Expr.Name (PySem.Str.ofString "self") { line:=52,col:=15,endLine:=52,endCol:=19 }).Attribute (PySem.Str.ofString "bills") { line:=52,col:=15,endLine:=52,endCol:=25 }] [] { line:=52,col:=11,endLine:=52,endCol:=26 }).Compare [PySem.CmpOp.GtE] [PySem.Expr.Name (PySem.Str.ofString "MOST_BILLS") { line:=52,col:=30,endLine:=52,endCol:=40 }] { line:=52,col:=11,endLine:=52,endCol:=40 }) [PySem.Stmt.Raise (Option.some ((PySem.Expr.Name (PySem.Str.ofString "NoHall") { line:=53,col:=18,endLine:=53,endCol:=24 }).Call [PySem.Expr.Constant (PySem.Const.str (PySem.Str.ofString "the book has eight bills")) 0 { line:=53,col:=25,endLine:=53,endCol:=51 }] [] { line:=53,col:=18,endLine:=53,endCol:=52 })) Option.none { line:=53,col:=12,endLine:=53,endCol:=52 }] [] { line:=52,col:=8,endLine:=53,endCol:=52 },PySem.Stmt.Expr (((PySem.Expr.Name (PySem.Str.ofString "self") { line:=54,col:=8,endLine:=54,endCol:=12 }).Attribute (PySem.Str.ofString "turn_to") { line:=54,col:=8,endLine:=54,endCol:=20 }).Call [((PySem.Expr.Name (PySem.Str.ofString "self") { line:=54,col:=21,endLine:=54,endCol:=25 }).Attribute (PySem.Str.ofString "bills") { line:=54,col:=21,endLine:=54,endCol:=31 }).BinOp PySem.Operator.Add (PySem.Expr.List [(PySem.Expr.Name (PySem.Str.ofString "tuple") { line:=54,col:=35,endLine:=54,endCol:=40 }).Call [PySem.Expr.Name (PySem.Str.ofString "bill") { line:=54,col:=41,endLine:=54,endCol:=45 }] [] { line:=54,col:=35,endLine:=54,endCol:=46 }] { line:=54,col:=34,endLine:=54,endCol:=47 }) { line:=54,col:=21,endLine:=54,endCol:=47 }] [] { line:=54,col:=8,endLine:=54,endCol:=48 }) { line:=54,col:=8,endLine:=54,endCol:=48 }],scope:={ kind:=PySem.ScopeKind.function,names:=[(PySem.Str.ofString "self",PySem.NameKind.local),(PySem.Str.ofString "bill",PySem.NameKind.local),(PySem.Str.ofString "need_bill",PySem.NameKind.globalImplicit),(PySem.Str.ofString "len",PySem.NameKind.globalImplicit),(PySem.Str.ofString "MOST_BILLS",PySem.NameKind.globalImplicit),(PySem.Str.ofString "NoHall",PySem.NameKind.globalImplicit),(PySem.Str.ofString "tuple",PySem.NameKind.globalImplicit)],isGenerator:=Bool.false,isCoroutine:=Bool.false },globals:=0,closure:=[],defaults:=PySem.Value.none,kwdefaults:=PySem.Value.none }),#[]⟩
abbrev Eb:Obj:=⟨.type "code",none,.fields #[vs "hand_in" 333,vs "Book.hand_in" 334,vs "/claim/cut.py" 335,.int 50 0,.int 2 0,.int 0 0,.int 0 0,.int 3 0,.ref 123,.bool true,.int 181 0,.ref 124,.none,.ref 125,.ref 126,.ref 127,.int 338 0,.int 50 0,vs "/claim/cut.py" 339],#[]⟩
abbrev Ec:Obj:=⟨.type "function",none,.func ({ name:=PySem.Str.ofString "hand_in",qualname:=PySem.Str.ofString "Book.hand_in",params:={ posonlyargs:=[],args:=[{ arg:=PySem.Str.ofString "self",annotation:=Option.none,pos:={ line:=50,col:=16,endLine:=50,endCol:=20 } },{ arg:=PySem.Str.ofString "bill",annotation:=Option.none,pos:={ line:=50,col:=22,endLine:=50,endCol:=26 } }],vararg:=Option.none,kwonlyargs:=[],kw_defaults:=[],kwarg:=Option.none,defaults:=[] },body:=PySem.FuncBody.stmts [PySem.Stmt.Expr ((PySem.Expr.Name (PySem.Str.ofString "need_bill") { line:=51,col:=8,endLine:=51,endCol:=17 }).Call [PySem.Expr.Name (PySem.Str.ofString "bill") { line:=51,col:=18,endLine:=51,endCol:=22 },(PySem.Expr.Name (PySem.Str.ofString "self") { line:=51,col:=24,endLine:=51,endCol:=28 }).Attribute (PySem.Str.ofString "kinds") { line:=51,col:=24,endLine:=51,endCol:=34 }] [] { line:=51,col:=8,endLine:=51,endCol:=35 }) { line:=51,col:=8,endLine:=51,endCol:=35 },PySem.Stmt.If (((PySem.Expr.Name (PySem.Str.ofString "len") { line:=52,col:=11,endLine:=52,endCol:=14 }).Call [(PySem.Expr.Name (PySem.Str.ofString "self") { line:=52,col:=15,endLine:=52,endCol:=19 }).Attribute (PySem.Str.ofString "bills") { line:=52,col:=15,endLine:=52,endCol:=25 }] [] { line:=52,col:=11,endLine:=52,endCol:=26 }).Compare [PySem.CmpOp.GtE] [PySem.Expr.Name (PySem.Str.ofString "MOST_BILLS") { line:=52,col:=30,endLine:=52,endCol:=40 }] { line:=52,col:=11,endLine:=52,endCol:=40 }) [PySem.Stmt.Raise (Option.some ((PySem.Expr.Name (PySem.Str.ofString "NoHall") { line:=53,col:=18,endLine:=53,endCol:=24 }).Call [PySem.Expr.Constant (PySem.Const.str (PySem.Str.ofString "the book has eight bills")) 0 { line:=53,col:=25,endLine:=53,endCol:=51 }] [] { line:=53,col:=18,endLine:=53,endCol:=52 })) Option.none { line:=53,col:=12,endLine:=53,endCol:=52 }] [] { line:=52,col:=8,endLine:=53,endCol:=52 },PySem.Stmt.Expr (((PySem.Expr.Name (PySem.Str.ofString "self") { line:=54,col:=8,endLine:=54,endCol:=12 }).Attribute (PySem.Str.ofString "turn_to") { line:=54,col:=8,endLine:=54,endCol:=20 }).Call [((PySem.Expr.Name (PySem.Str.ofString "self") { line:=54,col:=21,endLine:=54,endCol:=25 }).Attribute (PySem.Str.ofString "bills") { line:=54,col:=21,endLine:=54,endCol:=31 }).BinOp PySem.Operator.Add (PySem.Expr.List [(PySem.Expr.Name (PySem.Str.ofString "tuple") { line:=54,col:=35,endLine:=54,endCol:=40 }).Call [PySem.Expr.Name (PySem.Str.ofString "bill") { line:=54,col:=41,endLine:=54,endCol:=45 }] [] { line:=54,col:=35,endLine:=54,endCol:=46 }] { line:=54,col:=34,endLine:=54,endCol:=47 }) { line:=54,col:=21,endLine:=54,endCol:=47 }] [] { line:=54,col:=8,endLine:=54,endCol:=48 }) { line:=54,col:=8,endLine:=54,endCol:=48 }],scope:={ kind:=PySem.ScopeKind.function,names:=[(PySem.Str.ofString "self",PySem.NameKind.local),(PySem.Str.ofString "bill",PySem.NameKind.local),(PySem.Str.ofString "need_bill",PySem.NameKind.globalImplicit),(PySem.Str.ofString "len",PySem.NameKind.globalImplicit),(PySem.Str.ofString "MOST_BILLS",PySem.NameKind.globalImplicit),(PySem.Str.ofString "NoHall",PySem.NameKind.globalImplicit),(PySem.Str.ofString "tuple",PySem.NameKind.globalImplicit)],isGenerator:=Bool.false,isCoroutine:=Bool.false },globals:=3,closure:=[],defaults:=PySem.Value.none,kwdefaults:=PySem.Value.none,pyModule:=PySem.Value.str (PySem.Str.ofString "changehall.book") 303,code:=PySem.Value.ref 128 }),#[]⟩
abbrev Ed:=tu []
abbrev JO:=fi []
abbrev Ee:=tu [vs "self" 344,vs "place" 345]
abbrev Ef:=tu []
abbrev JP:Obj:=⟨.none,none,.func ({ name:=PySem.Str.ofString "drop",qualname:=PySem.Str.ofString "Book.drop",params:={ posonlyargs:=[],args:=[{ arg:=PySem.Str.ofString "self",annotation:=Option.none,pos:={ line:=56,col:=13,endLine:=56,endCol:=17 } },{ arg:=PySem.Str.ofString "place",annotation:=Option.none,pos:={ line:=56,col:=19,endLine:=56,endCol:=24 } }],vararg:=Option.none,kwonlyargs:=[],kw_defaults:=[],kwarg:=Option.none,defaults:=[] },body:=PySem.FuncBody.stmts [PySem.Stmt.If (PySem.Expr.BoolOp PySem.BoolOp.Or [PySem.Expr.UnaryOp PySem.UnaryOp.Not ((PySem.Expr.Name (PySem.Str.ofString "is_whole") { line:=57,col:=15,endLine:=57,endCol:=23 }).Call [PySem.Expr.Name (PySem.Str.ofString "place") { line:=57,col:=24,endLine:=57,endCol:=29 }] [] { line:=57,col:=15,endLine:=57,endCol:=30 }) { line:=57,col:=11,endLine:=57,endCol:=30 },PySem.Expr.UnaryOp PySem.UnaryOp.Not ((PySem.Expr.Constant (PySem.Const.int 0) 0 { line:=57,col:=38,endLine:=57,endCol:=39 }).Compare [PySem.CmpOp.LtE,PySem.CmpOp.Lt] [PySem.Expr.Name (PySem.Str.ofString "place") { line:=57,col:=43,endLine:=57,endCol:=48 },(PySem.Expr.Name (PySem.Str.ofString "len") { line:=57,col:=51,endLine:=57,endCol:=54 }).Call [(PySem.Expr.Name (PySem.Str.ofString "self") { line:=57,col:=55,endLine:=57,endCol:=59 }).Attribute (PySem.Str.ofString "bills") { line:=57,col:=55,endLine:=57,endCol:=65 }] [] { line:=57,col:=51,endLine:=57,endCol:=66 }] { line:=57,col:=38,endLine:=57,endCol:=66 }) { line:=57,col:=34,endLine:=57,endCol:=66 }] { line:=57,col:=11,endLine:=57,endCol:=66 }) [PySem.Stmt.Raise (Option.some ((PySem.Expr.Name (PySem.Str.ofString "NoPlace") { line:=58,col:=18,endLine:=58,endCol:=25 }).Call [PySem.Expr.Constant (PySem.Const.str (PySem.Str.ofString "no bill stands at this place")) 0 { line:=58,col:=26,endLine:=58,endCol:=56 }] [] { line:=58,col:=18,endLine:=58,endCol:=57 })) Option.none { line:=58,col:=12,endLine:=58,endCol:=57 }] [] { line:=57,col:=8,endLine:=58,endCol:=57 },PySem.Stmt.Expr (((PySem.Expr.Name (PySem.Str.ofString "self") { line:=59,col:=8,endLine:=59,endCol:=12 }).Attribute (PySem.Str.ofString "turn_to") { line:=59,col:=8,endLine:=59,endCol:=20 }).Call [(((PySem.Expr.Name (PySem.Str.ofString "self") { line:=59,col:=21,endLine:=59,endCol:=25 }).Attribute (PySem.Str.ofString "bills") { line:=59,col:=21,endLine:=59,endCol:=31 }).Subscript (PySem.Expr.Slice Option.none (Option.some (PySem.Expr.Name (PySem.Str.ofString "place") { line:=59,col:=33,endLine:=59,endCol:=38 })) Option.none { line:=59,col:=32,endLine:=59,endCol:=38 }) { line:=59,col:=21,endLine:=59,endCol:=39 }).BinOp PySem.Operator.Add (((PySem.Expr.Name (PySem.Str.ofString "self") { line:=59,col:=42,endLine:=59,endCol:=46 }).Attribute (PySem.Str.ofString "bills") { line:=59,col:=42,endLine:=59,endCol:=52 }).Subscript (PySem.Expr.Slice (Option.some ((PySem.Expr.Name (PySem.Str.ofString "place") { line:=59,col:=53,endLine:=59,endCol:=58 }).BinOp PySem.Operator.Add (PySem.Expr.Constant (PySem.Const.int 1) 0 { line:=59,col:=61,endLine:=59,endCol:=62 }) { line:=59,col:=53,endLine:=59,endCol:=62 })) Option.none Option.none { line:=59,col:=53,endLine:=59,endCol:=63 }) { line:=59,col:=42,endLine:=59,endCol:=64 }) { line:=59,col:=21,endLine:=59,endCol:=64 }] [] { line:=59,col:=8,endLine:=59,endCol:=65 }) { line:=59,col:=8,endLine:=59,endCol:=65 }],scope:={ kind:=PySem.ScopeKind.function,names:=[(PySem.Str.ofString "self",PySem.NameKind.local),(PySem.Str.ofString "place",PySem.NameKind.local),(PySem.Str.ofString "is_whole",PySem.NameKind.globalImplicit),(PySem.Str.ofString "len",PySem.NameKind.globalImplicit),(PySem.Str.ofString "NoPlace",PySem.NameKind.globalImplicit)],isGenerator:=Bool.false,isCoroutine:=Bool.false },globals:=0,closure:=[],defaults:=PySem.Value.none,kwdefaults:=PySem.Value.none }),#[]⟩
abbrev Eg:Obj:=⟨.type "code",none,.fields #[vs "drop" 341,vs "Book.drop" 342,vs "/claim/cut.py" 343,.int 56 0,.int 2 0,.int 0 0,.int 0 0,.int 3 0,.ref 130,.bool true,.int 181 0,.ref 131,.none,.ref 132,.ref 133,.ref 134,.int 346 0,.int 56 0,vs "/claim/cut.py" 347],#[]⟩
abbrev Eh:Obj:=⟨.type "function",none,.func ({ name:=PySem.Str.ofString "drop",qualname:=PySem.Str.ofString "Book.drop",params:={ posonlyargs:=[],args:=[{ arg:=PySem.Str.ofString "self",annotation:=Option.none,pos:={ line:=56,col:=13,endLine:=56,endCol:=17 } },{ arg:=PySem.Str.ofString "place",annotation:=Option.none,pos:={ line:=56,col:=19,endLine:=56,endCol:=24 } }],vararg:=Option.none,kwonlyargs:=[],kw_defaults:=[],kwarg:=Option.none,defaults:=[] },body:=PySem.FuncBody.stmts [PySem.Stmt.If (PySem.Expr.BoolOp PySem.BoolOp.Or [PySem.Expr.UnaryOp PySem.UnaryOp.Not ((PySem.Expr.Name (PySem.Str.ofString "is_whole") { line:=57,col:=15,endLine:=57,endCol:=23 }).Call [PySem.Expr.Name (PySem.Str.ofString "place") { line:=57,col:=24,endLine:=57,endCol:=29 }] [] { line:=57,col:=15,endLine:=57,endCol:=30 }) { line:=57,col:=11,endLine:=57,endCol:=30 },PySem.Expr.UnaryOp PySem.UnaryOp.Not ((PySem.Expr.Constant (PySem.Const.int 0) 0 { line:=57,col:=38,endLine:=57,endCol:=39 }).Compare [PySem.CmpOp.LtE,PySem.CmpOp.Lt] [PySem.Expr.Name (PySem.Str.ofString "place") { line:=57,col:=43,endLine:=57,endCol:=48 },(PySem.Expr.Name (PySem.Str.ofString "len") { line:=57,col:=51,endLine:=57,endCol:=54 }).Call [(PySem.Expr.Name (PySem.Str.ofString "self") { line:=57,col:=55,endLine:=57,endCol:=59 }).Attribute (PySem.Str.ofString "bills") { line:=57,col:=55,endLine:=57,endCol:=65 }] [] { line:=57,col:=51,endLine:=57,endCol:=66 }] { line:=57,col:=38,endLine:=57,endCol:=66 }) { line:=57,col:=34,endLine:=57,endCol:=66 }] { line:=57,col:=11,endLine:=57,endCol:=66 }) [PySem.Stmt.Raise (Option.some ((PySem.Expr.Name (PySem.Str.ofString "NoPlace") { line:=58,col:=18,endLine:=58,endCol:=25 }).Call [PySem.Expr.Constant (PySem.Const.str (PySem.Str.ofString "no bill stands at this place")) 0 { line:=58,col:=26,endLine:=58,endCol:=56 }] [] { line:=58,col:=18,endLine:=58,endCol:=57 })) Option.none { line:=58,col:=12,endLine:=58,endCol:=57 }] [] { line:=57,col:=8,endLine:=58,endCol:=57 },PySem.Stmt.Expr (((PySem.Expr.Name (PySem.Str.ofString "self") { line:=59,col:=8,endLine:=59,endCol:=12 }).Attribute (PySem.Str.ofString "turn_to") { line:=59,col:=8,endLine:=59,endCol:=20 }).Call [(((PySem.Expr.Name (PySem.Str.ofString "self") { line:=59,col:=21,endLine:=59,endCol:=25 }).Attribute (PySem.Str.ofString "bills") { line:=59,col:=21,endLine:=59,endCol:=31 }).Subscript (PySem.Expr.Slice Option.none (Option.some (PySem.Expr.Name (PySem.Str.ofString "place") { line:=59,col:=33,endLine:=59,endCol:=38 })) Option.none { line:=59,col:=32,endLine:=59,endCol:=38 }) { line:=59,col:=21,endLine:=59,endCol:=39 }).BinOp PySem.Operator.Add (((PySem.Expr.Name (PySem.Str.ofString "self") { line:=59,col:=42,endLine:=59,endCol:=46 }).Attribute (PySem.Str.ofString "bills") { line:=59,col:=42,endLine:=59,endCol:=52 }).Subscript (PySem.Expr.Slice (Option.some ((PySem.Expr.Name (PySem.Str.ofString "place") { line:=59,col:=53,endLine:=59,endCol:=58 }).BinOp PySem.Operator.Add (PySem.Expr.Constant (PySem.Const.int 1) 0 { line:=59,col:=61,endLine:=59,endCol:=62 }) { line:=59,col:=53,endLine:=59,endCol:=62 })) Option.none Option.none { line:=59,col:=53,endLine:=59,endCol:=63 }) { line:=59,col:=42,endLine:=59,endCol:=64 }) { line:=59,col:=21,endLine:=59,endCol:=64 }] [] { line:=59,col:=8,endLine:=59,endCol:=65 }) { line:=59,col:=8,endLine:=59,endCol:=65 }],scope:={ kind:=PySem.ScopeKind.function,names:=[(PySem.Str.ofString "self",PySem.NameKind.local),(PySem.Str.ofString "place",PySem.NameKind.local),(PySem.Str.ofString "is_whole",PySem.NameKind.globalImplicit),(PySem.Str.ofString "len",PySem.NameKind.globalImplicit),(PySem.Str.ofString "NoPlace",PySem.NameKind.globalImplicit)],isGenerator:=Bool.false,isCoroutine:=Bool.false },globals:=3,closure:=[],defaults:=PySem.Value.none,kwdefaults:=PySem.Value.none,pyModule:=PySem.Value.str (PySem.Str.ofString "changehall.book") 303,code:=PySem.Value.ref 135 }),#[]⟩
abbrev Ei:=tu []
abbrev JQ:=fi []
abbrev Ej:=tu [vs "self" 352]
abbrev Ek:=tu []
abbrev JR:Obj:=⟨.none,none,.func ({ name:=PySem.Str.ofString "take_back",qualname:=PySem.Str.ofString "Book.take_back",params:={ posonlyargs:=[],args:=[{ arg:=PySem.Str.ofString "self",annotation:=Option.none,pos:={ line:=61,col:=18,endLine:=61,endCol:=22 } }],vararg:=Option.none,kwonlyargs:=[],kw_defaults:=[],kwarg:=Option.none,defaults:=[] },body:=PySem.FuncBody.stmts [PySem.Stmt.If (((PySem.Expr.Name (PySem.Str.ofString "len") { line:=62,col:=11,endLine:=62,endCol:=14 }).Call [(PySem.Expr.Name (PySem.Str.ofString "self") { line:=62,col:=15,endLine:=62,endCol:=19 }).Attribute (PySem.Str.ofString "earlier") { line:=62,col:=15,endLine:=62,endCol:=27 }] [] { line:=62,col:=11,endLine:=62,endCol:=28 }).Compare [PySem.CmpOp.Eq] [PySem.Expr.Constant (PySem.Const.int 0) 0 { line:=62,col:=32,endLine:=62,endCol:=33 }] { line:=62,col:=11,endLine:=62,endCol:=33 }) [PySem.Stmt.Raise (Option.some ((PySem.Expr.Name (PySem.Str.ofString "NoPlace") { line:=63,col:=18,endLine:=63,endCol:=25 }).Call [PySem.Expr.Constant (PySem.Const.str (PySem.Str.ofString "nothing stands that could be taken back")) 0 { line:=63,col:=26,endLine:=63,endCol:=67 }] [] { line:=63,col:=18,endLine:=63,endCol:=68 })) Option.none { line:=63,col:=12,endLine:=63,endCol:=68 }] [] { line:=62,col:=8,endLine:=63,endCol:=68 },PySem.Stmt.Assign [(PySem.Expr.Name (PySem.Str.ofString "self") { line:=64,col:=8,endLine:=64,endCol:=12 }).Attribute (PySem.Str.ofString "bills") { line:=64,col:=8,endLine:=64,endCol:=18 }] ((((PySem.Expr.Name (PySem.Str.ofString "self") { line:=64,col:=21,endLine:=64,endCol:=25 }).Attribute (PySem.Str.ofString "earlier") { line:=64,col:=21,endLine:=64,endCol:=33 }).Attribute (PySem.Str.ofString "pop") { line:=64,col:=21,endLine:=64,endCol:=37 }).Call [] [] { line:=64,col:=21,endLine:=64,endCol:=39 }) { line:=64,col:=8,endLine:=64,endCol:=39 }],scope:={ kind:=PySem.ScopeKind.function,names:=[(PySem.Str.ofString "self",PySem.NameKind.local),(PySem.Str.ofString "len",PySem.NameKind.globalImplicit),(PySem.Str.ofString "NoPlace",PySem.NameKind.globalImplicit)],isGenerator:=Bool.false,isCoroutine:=Bool.false },globals:=0,closure:=[],defaults:=PySem.Value.none,kwdefaults:=PySem.Value.none }),#[]⟩
abbrev El:Obj:=⟨.type "code",none,.fields #[vs "take_back" 349,vs "Book.take_back" 350,vs "/claim/cut.py" 351,.int 61 0,.int 1 0,.int 0 0,.int 0 0,.int 3 0,.ref 137,.bool true,.int 181 0,.ref 138,.none,.ref 139,.ref 140,.ref 141,.int 353 0,.int 61 0,vs "/claim/cut.py" 354],#[]⟩
abbrev Em:Obj:=⟨.type "function",none,.func ({ name:=PySem.Str.ofString "take_back",qualname:=PySem.Str.ofString "Book.take_back",params:={ posonlyargs:=[],args:=[{ arg:=PySem.Str.ofString "self",annotation:=Option.none,pos:={ line:=61,col:=18,endLine:=61,endCol:=22 } }],vararg:=Option.none,kwonlyargs:=[],kw_defaults:=[],kwarg:=Option.none,defaults:=[] },body:=PySem.FuncBody.stmts [PySem.Stmt.If (((PySem.Expr.Name (PySem.Str.ofString "len") { line:=62,col:=11,endLine:=62,endCol:=14 }).Call [(PySem.Expr.Name (PySem.Str.ofString "self") { line:=62,col:=15,endLine:=62,endCol:=19 }).Attribute (PySem.Str.ofString "earlier") { line:=62,col:=15,endLine:=62,endCol:=27 }] [] { line:=62,col:=11,endLine:=62,endCol:=28 }).Compare [PySem.CmpOp.Eq] [PySem.Expr.Constant (PySem.Const.int 0) 0 { line:=62,col:=32,endLine:=62,endCol:=33 }] { line:=62,col:=11,endLine:=62,endCol:=33 }) [PySem.Stmt.Raise (Option.some ((PySem.Expr.Name (PySem.Str.ofString "NoPlace") { line:=63,col:=18,endLine:=63,endCol:=25 }).Call [PySem.Expr.Constant (PySem.Const.str (PySem.Str.ofString "nothing stands that could be taken back")) 0 { line:=63,col:=26,endLine:=63,endCol:=67 }] [] { line:=63,col:=18,endLine:=63,endCol:=68 })) Option.none { line:=63,col:=12,endLine:=63,endCol:=68 }] [] { line:=62,col:=8,endLine:=63,endCol:=68 },PySem.Stmt.Assign [(PySem.Expr.Name (PySem.Str.ofString "self") { line:=64,col:=8,endLine:=64,endCol:=12 }).Attribute (PySem.Str.ofString "bills") { line:=64,col:=8,endLine:=64,endCol:=18 }] ((((PySem.Expr.Name (PySem.Str.ofString "self") { line:=64,col:=21,endLine:=64,endCol:=25 }).Attribute (PySem.Str.ofString "earlier") { line:=64,col:=21,endLine:=64,endCol:=33 }).Attribute (PySem.Str.ofString "pop") { line:=64,col:=21,endLine:=64,endCol:=37 }).Call [] [] { line:=64,col:=21,endLine:=64,endCol:=39 }) { line:=64,col:=8,endLine:=64,endCol:=39 }],scope:={ kind:=PySem.ScopeKind.function,names:=[(PySem.Str.ofString "self",PySem.NameKind.local),(PySem.Str.ofString "len",PySem.NameKind.globalImplicit),(PySem.Str.ofString "NoPlace",PySem.NameKind.globalImplicit)],isGenerator:=Bool.false,isCoroutine:=Bool.false },globals:=3,closure:=[],defaults:=PySem.Value.none,kwdefaults:=PySem.Value.none,pyModule:=PySem.Value.str (PySem.Str.ofString "changehall.book") 303,code:=PySem.Value.ref 142 }),#[]⟩
abbrev En:=tu []
abbrev JS:=fi []
abbrev Eo:=tu [vs "self" 359]
abbrev Ep:=tu []
abbrev JT:Obj:=⟨.none,none,.func ({ name:=PySem.Str.ofString "hall",qualname:=PySem.Str.ofString "Book.hall",params:={ posonlyargs:=[],args:=[{ arg:=PySem.Str.ofString "self",annotation:=Option.none,pos:={ line:=66,col:=13,endLine:=66,endCol:=17 } }],vararg:=Option.none,kwonlyargs:=[],kw_defaults:=[],kwarg:=Option.none,defaults:=[] },body:=PySem.FuncBody.stmts [PySem.Stmt.Return (Option.some ((PySem.Expr.Name (PySem.Str.ofString "hall_by") { line:=67,col:=15,endLine:=67,endCol:=22 }).Call [(PySem.Expr.Name (PySem.Str.ofString "self") { line:=67,col:=23,endLine:=67,endCol:=27 }).Attribute (PySem.Str.ofString "kinds") { line:=67,col:=23,endLine:=67,endCol:=33 },(PySem.Expr.Name (PySem.Str.ofString "self") { line:=67,col:=35,endLine:=67,endCol:=39 }).Attribute (PySem.Str.ofString "bills") { line:=67,col:=35,endLine:=67,endCol:=45 }] [] { line:=67,col:=15,endLine:=67,endCol:=46 })) { line:=67,col:=8,endLine:=67,endCol:=46 }],scope:={ kind:=PySem.ScopeKind.function,names:=[(PySem.Str.ofString "self",PySem.NameKind.local),(PySem.Str.ofString "hall_by",PySem.NameKind.globalImplicit)],isGenerator:=Bool.false,isCoroutine:=Bool.false },globals:=0,closure:=[],defaults:=PySem.Value.none,kwdefaults:=PySem.Value.none }),#[]⟩
abbrev Er:Obj:=⟨.type "code",none,.fields #[vs "hall" 356,vs "Book.hall" 357,vs "/claim/cut.py" 358,.int 66 0,.int 1 0,.int 0 0,.int 0 0,.int 3 0,.ref 144,.bool true,.int 181 0,.ref 145,.none,.ref 146,.ref 147,.ref 148,.int 360 0,.int 66 0,vs "/claim/cut.py" 361],#[]⟩
abbrev Es:Obj:=⟨.type "function",none,.func ({ name:=PySem.Str.ofString "hall",qualname:=PySem.Str.ofString "Book.hall",params:={ posonlyargs:=[],args:=[{ arg:=PySem.Str.ofString "self",annotation:=Option.none,pos:={ line:=66,col:=13,endLine:=66,endCol:=17 } }],vararg:=Option.none,kwonlyargs:=[],kw_defaults:=[],kwarg:=Option.none,defaults:=[] },body:=PySem.FuncBody.stmts [PySem.Stmt.Return (Option.some ((PySem.Expr.Name (PySem.Str.ofString "hall_by") { line:=67,col:=15,endLine:=67,endCol:=22 }).Call [(PySem.Expr.Name (PySem.Str.ofString "self") { line:=67,col:=23,endLine:=67,endCol:=27 }).Attribute (PySem.Str.ofString "kinds") { line:=67,col:=23,endLine:=67,endCol:=33 },(PySem.Expr.Name (PySem.Str.ofString "self") { line:=67,col:=35,endLine:=67,endCol:=39 }).Attribute (PySem.Str.ofString "bills") { line:=67,col:=35,endLine:=67,endCol:=45 }] [] { line:=67,col:=15,endLine:=67,endCol:=46 })) { line:=67,col:=8,endLine:=67,endCol:=46 }],scope:={ kind:=PySem.ScopeKind.function,names:=[(PySem.Str.ofString "self",PySem.NameKind.local),(PySem.Str.ofString "hall_by",PySem.NameKind.globalImplicit)],isGenerator:=Bool.false,isCoroutine:=Bool.false },globals:=3,closure:=[],defaults:=PySem.Value.none,kwdefaults:=PySem.Value.none,pyModule:=PySem.Value.str (PySem.Str.ofString "changehall.book") 303,code:=PySem.Value.ref 149 }),#[]⟩
abbrev Et:=tu [vs "bills" 363,vs "earlier" 364,vs "kinds" 365]
abbrev Lq(P:Params):List DictEntry:=[de P "__module__" 312 (vs "changehall.book" 303),de P "__firstlineno__" 316 (.int 38 315),de P "__init__" 324 (.ref 115),de P "turn_to" 332 (.ref 122),de P "hand_in" 340 (.ref 129),de P "drop" 348 (.ref 136),de P "take_back" 355 (.ref 143),de P "hall" 362 (.ref 150),de P "__static_attributes__" 366 (.ref 151),de P "__dict__" 368 (.ref 154),de P "__weakref__" 370 (.ref 155),de P "__doc__" 371 .none]
abbrev Eu(P:Params):Obj:=⟨.type "dict",none,.dict (Lq P).toArray 4,#[]⟩
abbrev Ev:Obj:=⟨.type "type",none,.cls ({ name:=PySem.Str.ofString "Book",bases:=[PySem.Value.type "object"],mro:=[PySem.Value.ref 153,PySem.Value.type "object"],ns:=152,qualname:=PySem.Str.ofString "Book" }),#[Option.none,Option.none,Option.some (PySem.Value.str (PySem.Str.ofString "Book") 305),Option.some (PySem.Value.str (PySem.Str.ofString "Book") 313),Option.some (PySem.Value.builtin "object.__new__"),Option.some (PySem.Value.bool Bool.true)]⟩
abbrev Ew:Obj:=⟨.type "getset_descriptor",none,.fields #[vs "__dict__" 367,.ref 153,.builtin "function.__dict__",.builtin "function.__dict__#set"],#[]⟩
abbrev Ex:Obj:=⟨.type "getset_descriptor",none,.fields #[vs "__weakref__" 369,.ref 153,.builtin "ExceptionGroup.__weakref__",.none],#[]⟩
abbrev JU:Obj:=⟨.type "super",none,.fields #[.ref 153,.ref 153,.ref 153],#[]⟩
abbrev JV:Obj:=⟨.type "builtin_function_or_method",none,.fields #[.builtin "object.__init_subclass__",.ref 153],#[]⟩
abbrev t5(P:Params):BT:=ins (t4 P) [(3,o3_5 P),(12,o12_5),(102,JB),(103,JC),(104,JD P),(105,JE),(106,JF),(107,JG),(108,JH),(109,DO),(110,JI),(111,DP),(112,DQ),(113,JJ),(114,DR),(115,DS),(116,DT),(117,JK),(118,DU),(119,DV),(120,JL),(121,DW),(122,DX),(123,DY),(124,JM),(125,DZ),(126,Ea),(127,JN),(128,Eb),(129,Ec),(130,Ed),(131,JO),(132,Ee),(133,Ef),(134,JP),(135,Eg),(136,Eh),(137,Ei),(138,JQ),(139,Ej),(140,Ek),(141,JR),(142,El),(143,Em),(144,En),(145,JS),(146,Eo),(147,Ep),(148,JT),(149,Er),(150,Es),(151,Et),(152,Eu P),(153,Ev),(154,Ew),(155,Ex),(156,JU),(157,JV)]
abbrev s5(w:World)(os:OsState):SharedT:=⟨t5 w.params,158,{ },#[],{ },376,os⟩
abbrev l4:List Stmt:=[top 17,top 18]
theorem run_4(w:World)(os:OsState):segRunT treeTable pw w 11 ann 1 392 (s4 w os) (piecesOf l4 env cE ⟨37,0,37,8⟩ fB)=some (.next,s5 w os,cE,⟨68,0,68,8⟩):=by
 rewrite[te_sT,te_tb];kernel_rfl
abbrev o3_6L(P:Params):List DictEntry:=de P "__name__" 165 (vs "law_changehall_k39_whole_books" 374)::(o3_5L P).tail++[de P "_law_cell_at" 383 (.ref 164),de P "_law_number" 393 (.ref 171),de P "_law_row" 399 (.ref 176),de P "_law_copied" 405 (.ref 181),de P "_law_done" 413 (.ref 188),de P "_law_due" 422 (.ref 195),de P "_law_deed" 434 (.ref 202),de P "law" 448 (.ref 209)]
abbrev o3_6(P:Params):Obj:=⟨.type "dict",none,.dict (o3_6L P).toArray 31,#[]⟩
abbrev o12_6L:List Value:=JA++[.int 69 0,.int 0 0,.ref 163,.int 75 0,.int 0 0,.ref 170,.int 86 0,.int 0 0,.ref 175,.int 88 0,.int 0 0,.ref 180,.int 90 0,.int 0 0,.ref 187,.int 101 0,.int 0 0,.ref 194,.int 119 0,.int 0 0,.ref 201,.int 128 0,.int 0 0,.ref 208]
abbrev o12_6:=fi o12_6L
abbrev Ey:=tu []
abbrev JW:=fi []
abbrev Ez:=tu [vs "_law_script" 379,vs "_law_k" 380]
abbrev EA:=tu []
abbrev JX:=fo .none 19 0 .none .none
abbrev EB:=co "_law_cell_at" "/claim/cut.py" 376 377 378 69 2 3 158 true 181 159 .none (.ref 160) (.ref 161) (.ref 162) 381 382
abbrev EC:=fo (.type "function") 19 3 (vs "law_changehall_k39_whole_books" 374) (.ref 163)
abbrev ED:=tu []
abbrev JY:=fi []
abbrev EE:=tu [vs "_law_cell" 387,vs "_law_mode" 388,vs "_law_number_here" 389,vs "_law_wide" 390]
abbrev EF:=tu []
abbrev JZ:=fo .none 20 0 .none .none
abbrev EG:=co "_law_number" "/claim/cut.py" 384 385 386 75 2 3 165 true 181 166 .none (.ref 167) (.ref 168) (.ref 169) 391 392
abbrev EH:=fo (.type "function") 20 3 (vs "law_changehall_k39_whole_books" 374) (.ref 170)
abbrev EI:=tu []
abbrev Kb:=fi []
abbrev Kc:=fo .none 21 0 .none .none
abbrev EJ:=co "_law_row" "/claim/cut.py" 394 395 396 86 4 3 172 true 181 173 .none .none .none (.ref 174) 397 398
abbrev EK:=fo (.type "function") 21 3 (vs "law_changehall_k39_whole_books" 374) (.ref 175)
abbrev EL:=tu []
abbrev Kd:=fi []
abbrev Kf:=fo .none 22 0 .none .none
abbrev EM:=co "_law_copied" "/claim/cut.py" 400 401 402 88 1 3 177 true 181 178 .none .none .none (.ref 179) 403 404
abbrev EN:=fo (.type "function") 22 3 (vs "law_changehall_k39_whole_books" 374) (.ref 180)
abbrev EO:=tu []
abbrev Kg:=fi []
abbrev EQ:=tu [vs "_law_book" 409,vs "_law_deed_here" 410]
abbrev ER:=tu []
abbrev Kh:=fo .none 23 0 .none .none
abbrev ES:=co "_law_done" "/claim/cut.py" 406 407 408 90 2 3 182 true 181 183 .none (.ref 184) (.ref 185) (.ref 186) 411 412
abbrev ET:=fo (.type "function") 23 3 (vs "law_changehall_k39_whole_books" 374) (.ref 187)
abbrev EU:=tu []
abbrev Ki:=fi []
abbrev EV:=tu [vs "_law_states" 417,vs "_law_deed_here" 418,vs "_law_bills" 419]
abbrev EW:=tu []
abbrev Kj:=fo .none 24 0 .none .none
abbrev EX:=co "_law_due" "/claim/cut.py" 414 415 416 101 2 3 189 true 181 190 .none (.ref 191) (.ref 192) (.ref 193) 420 421
abbrev EY:=fo (.type "function") 24 3 (vs "law_changehall_k39_whole_books" 374) (.ref 194)
abbrev EZ:=tu []
abbrev Kk:=fi []
abbrev Fd:=tu [vs "_law_script" 426,vs "_law_k" 427,vs "_law_kinds" 428,vs "_law_cell" 429,vs "_law_row_here" 430,vs "_law_way" 431]
abbrev Ff:=tu []
abbrev Kl:=fo .none 25 0 .none .none
abbrev Fg:=co "_law_deed" "/claim/cut.py" 423 424 425 119 3 3 196 true 181 197 .none (.ref 198) (.ref 199) (.ref 200) 432 433
abbrev Fh:=fo (.type "function") 25 3 (vs "law_changehall_k39_whole_books" 374) (.ref 201)
abbrev Fm:=tu []
abbrev Km:=fi []
abbrev Fn:=tu [vs "_law_script" 438,vs "_law_kinds" 439,vs "_law_book" 440,vs "_law_other" 441,vs "_law_states" 442,vs "_law_k" 443,vs "_law_deed_here" 444,vs "_law_due_here" 445]
abbrev Fp:=tu []
abbrev Kn:=fo .none 26 0 .none .none
abbrev Fq:=co "law" "/claim/cut.py" 435 436 437 128 1 3 203 true 181 204 .none (.ref 205) (.ref 206) (.ref 207) 446 447
abbrev Ft:=fo (.type "function") 26 3 (vs "law_changehall_k39_whole_books" 374) (.ref 208)
abbrev t6(P:Params):BT:=ins (t5 P) [(3,o3_6 P),(12,o12_6),(158,Ey),(159,JW),(160,Ez),(161,EA),(162,JX),(163,EB),(164,EC),(165,ED),(166,JY),(167,EE),(168,EF),(169,JZ),(170,EG),(171,EH),(172,EI),(173,Kb),(174,Kc),(175,EJ),(176,EK),(177,EL),(178,Kd),(179,Kf),(180,EM),(181,EN),(182,EO),(183,Kg),(184,EQ),(185,ER),(186,Kh),(187,ES),(188,ET),(189,EU),(190,Ki),(191,EV),(192,EW),(193,Kj),(194,EX),(195,EY),(196,EZ),(197,Kk),(198,Fd),(199,Ff),(200,Kl),(201,Fg),(202,Fh),(203,Fm),(204,Km),(205,Fn),(206,Fp),(207,Kn),(208,Fq),(209,Ft)]
abbrev s6(w:World)(os:OsState):SharedT:=⟨t6 w.params,210,{ },#[],{ },449,os⟩
abbrev l5:List Stmt:=[top 19,top 20,top 21,top 22,top 23,top 24,top 25,top 26]
theorem run_5(w:World)(os:OsState):segRunT treeTable pw w 11 ann 1 246 (s5 w os) (piecesOf l5 env cE ⟨68,0,68,8⟩ fB)=some (.next,s6 w os,cE,⟨128,0,142,55⟩):=by
 rewrite[te_sT,te_tb];kernel_rfl
def h1(P:Params):Heap:=⟨⟨[boot_o_0 P,boot_o_1 P,boot_o_2 P,o3_6 P,boot_o_4 P,boot_o_5 P,boot_o_6 P,boot_o_7 P,boot_o_8 P,boot_o_9 P,boot_o_10 P,o11a,o12_6,o13a,o14a,ID,o16_1,o17_1 P,o18_1,o19_1,o20_1,o21_1,IE,IF P,IN,IG,o26_1,o27_1,II,o29_2,o30_2 P,o31_2,o32_2,o33_2,o34_2,IJ,IK P,IL,o38_2,o39_2,IP,o41_3,o42_3 P,o43_3,o44_3,o45_3,o46_3,IQ,IR P,IS,o50_3,o51_3,IT,o53_3,IU,IV,o56_3,IW,IX,IY,o60_3,o61_3,IZ,Ja,Jb,o65_3,Jc,Jd,o68_3,Je,Jf,Jg,o72_3,o73_3,Jh,Ji,Jj,o77_3,Jk,Jl,o80_3,Jm,Jn,Jp,o84_4,Jq,Jr,o87_4,Js,Jt,Ju,o91_4,Jv,Jw,o94_4,Jx,Jy,Jz,o98_4,o99_4,DM,DN,JB,JC,JD P,JE,JF,JG,JH,DO,JI,DP,DQ,JJ,DR,DS,DT,JK,DU,DV,JL,DW,DX,DY,JM,DZ,Ea,JN,Eb,Ec,Ed,JO,Ee,Ef,JP,Eg,Eh,Ei,JQ,Ej,Ek,JR,El,Em,En,JS,Eo,Ep,JT,Er,Es,Et,Eu P,Ev,Ew,Ex,JU,JV,Ey,JW,Ez,EA,JX,EB,EC,ED,JY,EE,EF,JZ,EG,EH,EI,Kb,Kc,EJ,EK,EL,Kd,Kf,EM,EN,EO,Kg,EQ,ER,Kh,ES,ET,EU,Ki,EV,EW,Kj,EX,EY,EZ,Kk,Fd,Ff,Kl,Fg,Fh,Fm,Km,Fn,Fp,Kn,Fq,Ft]⟩,{ }⟩
abbrev j6:Drawn:={ }
theorem run_z(w:World)(os:OsState):topRun treeTable pw w 11 ann 2 (s6 w os).abs ⟨doneF .next,cE,⟨128,0,142,55⟩,fB⟩=some ⟨h1 w.params,#[],j6,449,os⟩:=by
 rewrite[te_tr,te_tb];kernel_rfl
theorem Lr:behindTheImports pw=(l0++(l1++(l2++(l3++(l4++(l5++[])))))):=by kernel_rfl
theorem run_all(w:World)(os:OsState):topRun treeTable pw w 11 ann (12+(1+(196+(214+(389+(97+(392+(246+2)))))))) ⟨boot_heap w.params,#[],boot_drawn,boot_toks,os⟩ (topStub pw)=some ⟨h1 w.params,#[],j6,449,os⟩ :=
 go_top (run_a w os) (piece_block (env:=env) (run_b w os) (by rw[Lr];exact(piece_app (segRun_of (run_0 w os)) (piece_app (segRun_of (run_1 w os)) (piece_app (segRun_of (run_2 w os)) (piece_app (segRun_of (run_3 w os)) (piece_app (segRun_of (run_4 w os)) (piece_app (segRun_of (run_5 w os)) (run_z w os)))))))))
abbrev keep:List Nat:=[1,2,3,5,6,8,9,10,11,12,13,14,15,17,19,20,21,22,23,24,25,26]
def K:Params→PySem.W.Frag:=fun P=>(nat_lit 2,boot_o_2 P)::(nat_lit 3,o3_6 P)::(nat_lit 15,ID)::(nat_lit 22,IE)::(nat_lit 23,IF P)::(nat_lit 24,IN)::(nat_lit 25,IG)::(nat_lit 28,II)::(nat_lit 35,IJ)::(nat_lit 36,IK P)::(nat_lit 37,IL)::(nat_lit 40,IP)::(nat_lit 47,IQ)::(nat_lit 48,IR P)::(nat_lit 49,IS)::(nat_lit 52,IT)::(nat_lit 54,IU)::(nat_lit 55,IV)::(nat_lit 57,IW)::(nat_lit 58,IX)::(nat_lit 59,IY)::(nat_lit 62,IZ)::(nat_lit 63,Ja)::(nat_lit 64,Jb)::(nat_lit 66,Jc)::(nat_lit 67,Jd)::(nat_lit 69,Je)::(nat_lit 70,Jf)::(nat_lit 71,Jg)::(nat_lit 74,Jh)::(nat_lit 75,Ji)::(nat_lit 76,Jj)::(nat_lit 78,Jk)::(nat_lit 79,Jl)::(nat_lit 81,Jm)::(nat_lit 82,Jn)::(nat_lit 83,Jp)::(nat_lit 85,Jq)::(nat_lit 86,Jr)::(nat_lit 88,Js)::(nat_lit 89,Jt)::(nat_lit 90,Ju)::(nat_lit 92,Jv)::(nat_lit 93,Jw)::(nat_lit 95,Jx)::(nat_lit 96,Jy)::(nat_lit 97,Jz)::(nat_lit 100,DM)::(nat_lit 101,DN)::(nat_lit 109,DO)::(nat_lit 111,DP)::(nat_lit 112,DQ)::(nat_lit 114,DR)::(nat_lit 115,DS)::(nat_lit 116,DT)::(nat_lit 118,DU)::(nat_lit 119,DV)::(nat_lit 121,DW)::(nat_lit 122,DX)::(nat_lit 123,DY)::(nat_lit 125,DZ)::(nat_lit 126,Ea)::(nat_lit 128,Eb)::(nat_lit 129,Ec)::(nat_lit 130,Ed)::(nat_lit 132,Ee)::(nat_lit 133,Ef)::(nat_lit 135,Eg)::(nat_lit 136,Eh)::(nat_lit 137,Ei)::(nat_lit 139,Ej)::(nat_lit 140,Ek)::(nat_lit 142,El)::(nat_lit 143,Em)::(nat_lit 144,En)::(nat_lit 146,Eo)::(nat_lit 147,Ep)::(nat_lit 149,Er)::(nat_lit 150,Es)::(nat_lit 151,Et)::(nat_lit 152,Eu P)::(nat_lit 153,Ev)::(nat_lit 154,Ew)::(nat_lit 155,Ex)::(nat_lit 158,Ey)::(nat_lit 160,Ez)::(nat_lit 161,EA)::(nat_lit 163,EB)::(nat_lit 164,EC)::(nat_lit 165,ED)::(nat_lit 167,EE)::(nat_lit 168,EF)::(nat_lit 170,EG)::(nat_lit 171,EH)::(nat_lit 172,EI)::(nat_lit 175,EJ)::(nat_lit 176,EK)::(nat_lit 177,EL)::(nat_lit 180,EM)::(nat_lit 181,EN)::(nat_lit 182,EO)::(nat_lit 184,EQ)::(nat_lit 185,ER)::(nat_lit 187,ES)::(nat_lit 188,ET)::(nat_lit 189,EU)::(nat_lit 191,EV)::(nat_lit 192,EW)::(nat_lit 194,EX)::(nat_lit 195,EY)::(nat_lit 196,EZ)::(nat_lit 198,Fd)::(nat_lit 199,Ff)::(nat_lit 201,Fg)::(nat_lit 202,Fh)::(nat_lit 203,Fm)::(nat_lit 205,Fn)::(nat_lit 206,Fp)::(nat_lit 208,Fq)::(nat_lit 209,Ft)::[]
abbrev Ka:List Addr:=[2,3,15,22,23,24,25,28,35,36,37,40,47,48,49,52,54,55,57,58,59,62,63,64,66,67,69,70,71,74,75,76,78,79,81,82,83,85,86,88,89,90,92,93,95,96,97,100,101,109,111,112,114,115,116,118,119,121,122,123,125,126,128,129,130,132,133,135,136,137,139,140,142,143,144,146,147,149,150,151,152,153,154,155,158,160,161,163,164,165,167,168,170,171,172,175,176,177,180,181,182,184,185,187,188,189,191,192,194,195,196,198,199,201,202,203,205,206,208,209]
theorem Ke(P:Params):Ka=(K P).map (·.1):=by kernel_rfl
abbrev qv:Program:=view pw keep
abbrev Xt:Shared→Bool:=fun s=>xlAt qv [] s&&recOk [] s
theorem opened:∀ w:World,(fencedOpening treeTable pw w 3182).map (fun s=>(s.heap,s.gens,s.drawn,s.toks))=some (boot_heap w.params,Array.mk [],boot_drawn,boot_toks):=boot_open (by kernel_rfl) (by kernel_rfl) (fun s=>by kernel_rfl)
theorem sized(w:World):((boot_heap w.params).isNs mainGlobals&&(Array.mk []:Array GenState).size==0,(boot_heap w.params).objs.size,(boot_heap w.params).nsMap mainGlobals "__annotations__")=(true,11,ann):=by
 rewrite[te_ns];kernel_rfl
theorem lk0(w:World)(os:OsState):(staticsOk (importedModules pw.main.body) (boot_heap w.params) (h1 w.params)&&namesBound pw (h1 w.params)&&gensDone ⟨h1 w.params,#[],j6,449,os⟩&&laidKept (boot_heap w.params) (h1 w.params))=true:=by
 rewrite[te_im];kernel_rfl
theorem lk1(w:World)(os:OsState):seen ((recsOf qv).map (·.name)) (ownsOf qv) [] { (⟨h1 w.params,#[],j6,449,os⟩:Shared)with gens:=#[] }=expectedOf qv:=by
 rewrite[te_seen,te_recs,te_owns];kernel_rfl
theorem lk2(w:World)(os:OsState):(⟨h1 w.params,#[],j6,449,os⟩:Shared).heap.bltView=bltViewBooted:=by
 kernel_rfl
theorem lk3(w:World)(os:OsState):((⟨h1 w.params,#[],j6,449,os⟩:Shared).heap.keysOk (looseW qv []) ((recsOf qv).map (·.name)) ((litsOf qv).map (·.1)) ((clssOf qv (looseW qv [])).map (·.name))&&(⟨h1 w.params,#[],j6,449,os⟩:Shared).heap.accountedOkI (importedModules pw.main.body)&&(⟨h1 w.params,#[],j6,449,os⟩:Shared).heap.isNs mainGlobals&&(⟨h1 w.params,#[],j6,449,os⟩:Shared).heap.isNs builtinsNs&&tablesOk qv (⟨h1 w.params,#[],j6,449,os⟩:Shared).heap&&Xt ⟨h1 w.params,#[],j6,449,os⟩&&(if true=true then(⟨h1 w.params,#[],j6,449,os⟩:Shared).gens.size==0 else !leftWithCleanup (⟨h1 w.params,#[],j6,449,os⟩:Shared).gens))=true:=by
 rewrite[te_keys,te_loose,te_recs,te_lits,te_clss,te_acc,te_im,te_tabl];kernel_rfl
theorem lk4(w:World)(os:OsState):tabsOk qv ⟨h1 w.params,#[],j6,449,os⟩=true:=by
 rewrite[te_tabs];kernel_rfl
theorem lk5(w:World)(os:OsState):pinSeenD qv (drecsOf qv) ⟨h1 w.params,#[],j6,449,os⟩=pinGoodD (drecsOf qv):=by
 rewrite[te_pin,te_drecs];kernel_rfl
theorem lk6(w:World)(os:OsState):plainSeenE qv (looseW qv []) ⟨h1 w.params,#[],j6,449,os⟩=plainGoodE qv (looseW qv []):=by
 rewrite[te_pE,te_loose];kernel_rfl
theorem lk7(w:World)(os:OsState):plainSeenD qv [] ⟨h1 w.params,#[],j6,449,os⟩=plainGoodD qv []:=by
 rewrite[te_pD];kernel_rfl
theorem lk8(w:World)(os:OsState):wideSeen qv ⟨h1 w.params,#[],j6,449,os⟩=wideGood qv:=by
 rewrite[te_wide];kernel_rfl
theorem lk9(w:World)(os:OsState):clsSeenW qv [] ⟨h1 w.params,#[],j6,449,os⟩=clsGoodW qv []:=by
 rewrite[te_cls];kernel_rfl
theorem lk10(w:World)(os:OsState):Hook.obs (kHook K Ka Ke) ⟨h1 w.params,#[],j6,449,os⟩=Hook.val (kHook K Ka Ke) w:=by
 kernel_rfl
theorem sn(w:World)(os:OsState):openSeen qv [] (importedModules pw.main.body) Xt true ⟨h1 w.params,#[],j6,449,os⟩=(seen ((recsOf qv).map (·.name)) (ownsOf qv) [] { (⟨h1 w.params,#[],j6,449,os⟩:Shared)with gens:=#[] },(⟨h1 w.params,#[],j6,449,os⟩:Shared).heap.bltView,((⟨h1 w.params,#[],j6,449,os⟩:Shared).heap.keysOk (looseW qv []) ((recsOf qv).map (·.name)) ((litsOf qv).map (·.1)) ((clssOf qv (looseW qv [])).map (·.name))&&(⟨h1 w.params,#[],j6,449,os⟩:Shared).heap.accountedOkI (importedModules pw.main.body)&&(⟨h1 w.params,#[],j6,449,os⟩:Shared).heap.isNs mainGlobals&&(⟨h1 w.params,#[],j6,449,os⟩:Shared).heap.isNs builtinsNs&&tablesOk qv (⟨h1 w.params,#[],j6,449,os⟩:Shared).heap&&Xt ⟨h1 w.params,#[],j6,449,os⟩&&(if true=true then(⟨h1 w.params,#[],j6,449,os⟩:Shared).gens.size==0 else !leftWithCleanup (⟨h1 w.params,#[],j6,449,os⟩:Shared).gens)),tabsOk qv ⟨h1 w.params,#[],j6,449,os⟩,pinSeenD qv (drecsOf qv) ⟨h1 w.params,#[],j6,449,os⟩,plainSeenE qv (looseW qv []) ⟨h1 w.params,#[],j6,449,os⟩,plainSeenD qv [] ⟨h1 w.params,#[],j6,449,os⟩,wideSeen qv ⟨h1 w.params,#[],j6,449,os⟩,clsSeenW qv [] ⟨h1 w.params,#[],j6,449,os⟩):=by kernel_rfl
theorem gd:openGood qv []=(expectedOf qv,bltViewBooted,true,true,pinGoodD (drecsOf qv),plainGoodE qv (looseW qv []),plainGoodD qv [],wideGood qv,clsGoodW qv []):=by kernel_rfl
theorem lkS(w:World)(os:OsState):openSeen qv [] (importedModules pw.main.body) Xt true ⟨h1 w.params,#[],j6,449,os⟩=openGood qv []:=(sn w os).trans (Eq.trans (looks_pair (lk1 w os) (looks_pair (lk2 w os) (looks_pair (lk3 w os) (looks_pair (lk4 w os) (looks_pair (lk5 w os) (looks_pair (lk6 w os) (looks_pair (lk7 w os) (looks_pair (lk8 w os) (lk9 w os))))))))) gd.symm)
theorem left:LeftO pw qv [] Xt (Hook.obs (kHook K Ka Ke)) (Hook.val (kHook K Ka Ke)) 3182 :=
 LeftO.of_pieces (H₀:=boot_heap) (H₁:=h1) (gs₀:=Array.mk []) (gs₁:=#[]) (d₀:=boot_drawn) (d₁:=j6) (k₀:=boot_toks) (k₁:=449) (m₀:=11) (ann:=ann) (M:=(12+(1+(196+(214+(389+(97+(392+(246+2))))))))) opened sized run_all (by kernel_rfl) (fun w=>funext fun os =>
  looks_pair (lk0 w os) (looks_pair (lkS w os) (lk10 w os)))
end
end H
end K39
open PySem PySem.W PyProof.Rows
set_option maxRecDepth 100000 in
set_option maxHeartbeats 0 in
theorem PySem.Challenge.cw_changehall_k39_whole_books_holds : PySem.Challenge.rw_changehall_k39_whole_books.Holds := by
 w_on;o_law
 refine PySem.W.holds_open (q:=K39.H.qv) (loose:=[]) (Xt:=K39.H.Xt) (XP:=XL K39.H.qv []) (Yf:=Hook.obs (kHook K39.H.K K39.H.Ka K39.H.Ke)) (Ya:=Hook.val (kHook K39.H.K K39.H.Ka K39.H.Ke)) (YP:=Hook.says (kHook K39.H.K K39.H.Ka K39.H.Ke)) (N:=3182) K39.H.left (Hook.of _) (Hook.keeps _) (fun s e=>xl_of s (Bool.and_eq_true_iff.mp e).1) XL.keeps (by rfl) (by rfl) (by rfl) (fun s e=>recFacts_of (Bool.and_eq_true_iff.mp e).2) (by rfl) (by first|assumption|decide +kernel) (by decide +kernel) ⟨rfl,rfl,rfl,rfl,rfl,by decide +kernel⟩ ?hw ?hc
 (case hw=>w_witness2)
 k_fill
 refine L2.GN (x := "_law_script") (k:=7) (fr:=true) (c:=K39.G5) (l:=PySem.Challenge.rw_changehall_k39_whole_books) rfl rfl (fun w h Y=>PySem.W.kIn_of Y) ?F (fun ns hl=>K39.GV ns hl) ⟨rfl,by decide,by decide⟩
 case F =>
  intro w mg fa h KX G hmg
  refine' K39.IB KX G hmg (L2.dh ?e0 ?l0 ?c0 ?k0) (L2.dh ?e1 ?l1 ?c1 ?k1) (L2.dh ?e2 ?l2 ?c2 ?k2) (L2.dh ?e3 ?l3 ?c3 ?k3) (L2.dh ?e4 ?l4 ?c4 ?k4) (L2.dh ?e5 ?l5 ?c5 ?k5) (L2.dh ?e6 ?l6 ?c6 ?k6) (L2.dh ?e7 ?l7 ?c7 ?k7) (L2.dh ?e8 ?l8 ?c8 ?k8) (L2.dh ?e9 ?l9 ?c9 ?k9) (L2.dh ?e10 ?l10 ?c10 ?k10) (L2.dh ?e11 ?l11 ?c11 ?k11) (L2.dh ?e12 ?l12 ?c12 ?k12) (L2.dh ?e13 ?l13 ?c13 ?k13) (L2.dh ?e14 ?l14 ?c14 ?k14) (L2.dh ?e15 ?l15 ?c15 ?k15) ?z_abs ?z_all ?z_bool ?z_int ?z_isinstance ?z_len ?z_list ?z_range ?z_tuple ?y_MOST_BILLS ?y_MOST_KINDS ?w_Book ?w_NoHall ?w_NoPlace ?u_NoHall ?v_NoHall ?u_NoPlace ?v_NoPlace ?o_NoHall_NoHall ?o_NoPlace_NoPlace ?o_mis (K39.bk_mk ?b0 ?b1 ?b2 ?b3 ?b4 ?b5 ?b6 ?b7 ?b8 ?b9 ?b10 ?b11 ?b12 ?b13 ?b14 ?b15 ?b16) (K39.mh ?meinit ?miinit ?mlinit ?mcinit ?mkinit) (K39.mh ?meturn_to ?miturn_to ?mlturn_to ?mcturn_to ?mkturn_to) (K39.mh ?mehand_in ?mihand_in ?mlhand_in ?mchand_in ?mkhand_in) (K39.mh ?medrop ?midrop ?mldrop ?mcdrop ?mkdrop) (K39.mh ?metake_back ?mitake_back ?mltake_back ?mctake_back ?mktake_back) (K39.mh ?mehall ?mihall ?mlhall ?mchall ?mkhall) ?j_makes ?j_kp
  all_goals try k_is
  all_goals kernel_rfl

end
